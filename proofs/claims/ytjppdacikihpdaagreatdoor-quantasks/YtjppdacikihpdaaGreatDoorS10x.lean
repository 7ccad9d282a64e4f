import Derived.Test.YtjppdacikihpdaaGreatDoorW50x
import Derived.Deep.RegionHeld
import Derived.Test.YtjppdacikihpdaaGreatDoorBIeeex
import Derived.Laws.BitsAllLaws
import Derived.WalkLawsBesides
import Derived.Test.YtjppdacikihpdaaGreatDoorW24x
import Derived.Deep.RegionWith
import Derived.Laws.StructEq
set_option linter.unusedVariables false
set_option linter.unusedSimpArgs false
set_option maxHeartbeats 16000000
set_option maxRecDepth 20000
namespace Go.Proofs.YtjppdacikihpdaaGreatDoor
section
open Go.RowKit
def ql(w:World)(g:Nat)(V:Int)(s:Sp):Prop:=∃ L:List Nat,L.length=133/\Wf L/\(val L:Int)=V%(PB:Int)/\-(HB:Int)<V/\V<(HB:Int)/\Ac w g L s
theorem ql.lt{w:World}{g:Nat}{V:Int}{s:Sp}(h:ql w g V s):g<w.heap.size:=by obtain⟨L,_,_,_,_,_,h⟩:=h;exact h.lt
theorem ql.below{w w':World}{g B:Nat}{V:Int}{s:Sp}(h:ql w g V s)(hb:Below B w w')(hg:g<B):ql w' g V s:=by
 obtain⟨L,h1,h2,h3,h4,h5,h6⟩:=h;exact⟨L,h1,h2,h3,h4,h5,h6.below hb hg⟩
theorem ql.aC{w w':World}{g:Nat}{V:Int}{s:Sp}(h:ql w g V s)(hb:Below w.heap.size w w'):ql w' g V s:=h.below hb h.lt
theorem XC:PB=262144*HB:=by rw[BJ,PW];omega
theorem U4(N:Nat)(V:Int)(h:(N:Int)=V%(PB:Int))(h0:-(2*HB:Int)<V)(h1:V<2*(HB:Int)):LU N=!(decide (-(HB:Int)<V/\V<(HB:Int))):=by
 have e:=XC;have hp:=sV;unfold LU
 by_cases hv:0<=V
 · rw[uJ hv (by omega)] at h
   by_cases hc:V<(HB:Int)
   · rw[decide_eq_false (by omega),decide_eq_true (by omega)];rfl
   · rw[decide_eq_true (by omega),decide_eq_false (by omega)];rfl
 · have h2:V%(PB:Int)=V+PB:=by
    rw[<-Int.add_emod_right,uJ (by omega) (by omega)]
   rw[h2] at h
   by_cases hc:-(HB:Int)<V
   · rw[decide_eq_false (by omega),decide_eq_true (by omega)];rfl
   · rw[decide_eq_true (by omega),decide_eq_false (by omega)];rfl
def Did(g:Nat)(w:World)(X:Int×Int×Sp)(r:Ending)(w':World):Prop:=r=.returned (.int .i64 X.1)/\ql w' g X.2.1 X.2.2/\But g w w'
def zU(V:Int)(s:Sp)(T:Int)(t:Sp):Int×Int×Sp:=if -(HB:Int)<V+T/\V+T<(HB:Int) then(0,V+T,t) else(2,V,s)
def zb(V:Int)(s:Sp)(k:Nat)(T:Int):Int×Int×Sp:=if s.a=1099511627776 then(2,V,s) else zU V s T (s.cnt k 1)
theorem Ik (g:Nat) (L M:List Nat) (V T:Int) (s t:Sp) (w:World) (hA:Ac w g L s) (hl:L.length=133) (hL:Wf L) (hv:(val L:Int)=V%(PB:Int)) (h0:-(HB:Int)<V) (h1:V<(HB:Int)) (hM:Wf M) (hm:M.length=133)
 (hvM:(val M:Int)=(V+T)%(PB:Int)) (hT0:-(HB:Int)<T) (hT1:T<(HB:Int)) :
 Calls Tryz.prog 200 #[.pointer (some ⟨g,0,none⟩),.agg (M.map U).toArray,t.agg] w (Did g w (zU V s T t)):=by
 have hb:=U4 (val M) (V+T) hvM (by omega) (by omega)
 by_cases hc:-(HB:Int)<V+T/\V+T<(HB:Int)
 · rw[decide_eq_true hc] at hb;refine(Ho g L M s t w hA hl hM hm hb).mono fun r w' ⟨a,b,c⟩=>?_;unfold zU;rw[if_pos hc];exact⟨a,⟨M,hm,hM,hvM,hc.1,hc.2,b⟩,c⟩
 · rw[decide_eq_false hc] at hb;refine(LZ g L M s t w hA hM hm hb).mono fun r w' ⟨a,b⟩=>?_;unfold zU;rw[if_neg hc];exact⟨a,⟨L,hl,hL,hv,h0,h1,hA.below b hA.lt⟩,(But.refl g w).oh b⟩
end
section
open Go Go.RowKit
section
variable {P : Program} {ops : Array Oper} {Q : Exit -> Act -> World -> Prop} {md : Region.Mode} {S : World -> Prop} {stop : Nat}
def iF(P:Program)(md:Region.Mode)(ops:Array Oper)(Q:Exit->Act->World->Prop)(S:World->Prop)(stop:Nat):Nat->Array Bool->Act->World->Prop
 | 0,listed,a,w=>Region.ready md ops listed=[]/\Q .normal a w
 | fuel+1,listed,a,w=>(Region.ready md ops listed=[]->Q .normal a w) /\
  ∀ i ∈ Region.ready md ops listed,wpOp P ops Q i (fun b u=>(i<stop->S u)/\iF P md ops Q S stop fuel (listed.setIfInBounds i true) b u) a w
theorem vo:∀ (fuel:Nat) (listed:Array Bool) (a:Act) (w:World),iF P md ops Q S stop fuel listed a w->wpAny P md ops Q fuel listed a w
 | 0,_,_,_,h=>h
 | fuel+1,_,_,_,h=>⟨h.1,fun i hi=>wpOp_mono (fun b u k=>vo fuel _ b u k.2) (h.2 i hi)⟩
theorem BP{id:Nat}{a:Act}{w:World}(S:World->Prop)(stop:Nat)(hm:P.follows .mixedOrders=true)(h:iF P .any ops Q S stop ops.size (Array.replicate ops.size false) a w.drew):(Code.region id ops true).wp P Q a w :=
 wp_region_any hm (vo _ _ _ _ h)
def waits(md:Region.Mode)(ops:Array Oper)(i stop:Nat)(C:List Nat):Bool :=
 (List.range ops.size).all fun j=>!(C.contains j || decide (stop<=j)) || (match ops[j]? with | some o=>o.after.any (fun e=>Region.binds md e&&(e.on==i || C.contains e.on)) | none=>true)
def Es(listed:Array Bool)(C:List Nat):Bool:=C.all fun k=>listed.getD k true==false
theorem Il{i:Nat}{C:List Nat}(h:waits md ops i stop C=true){j:Nat}{oj:Oper}(hj:ops[j]?=some oj)(hc:j ∈ C\/stop<=j):∃ e ∈ oj.after,Region.binds md e=true/\(e.on=i\/e.on ∈ C):=by
 have h1:=(List.all_eq_true.1 h) j (by simp;exact(eZ.1 hj).1);rw[hj] at h1
 have h2:(C.contains j || decide (stop<=j))=true:=by
  rcases hc with hc|hc
  · simp[hc]
  · simp[hc]
 rw[h2] at h1;simp only[Bool.not_true,wT] at h1;rw[<-Array.any_toList] at h1;obtain⟨e,he,hb⟩:=wU.1 h1;have he:=Array.mem_toList_iff.1 he;simp only[wV,Bool.or_eq_true,beq_iff_eq,List.contains_iff_mem] at hb;exact⟨e,he,hb.1,hb.2⟩
theorem Et {i:Nat}{C:List Nat}{oi:Oper}{v:Value}(hi:ops[i]?=some oi) (hsel:∀ (j:Nat) (o:Oper) cs b,ops[j]?=some o->o.op≠.select cs b)
 (hQ:∀ x a w,Q (.panic x) (a.put oi.dst v) w->Q (.panic x) a w) (hlate:waits md ops i stop C=true) :
 ∀ (fuel:Nat) (listed:Array Bool) (a:Act) (w:World),
   (∀ j oj,ops[j]?=some oj->j≠i->listed.getD j true=false->(∀ e ∈ oj.after,Region.binds md e=true->e.on≠i)->oi.apart ops oj=true) ->
   i ∈ Region.ready md ops listed->(∀ k ∈ C,listed.getD k true=false)->YieldsIf P ops S oi v a->S w ->
   iF P md ops Q S stop fuel (listed.setIfInBounds i true) (a.put oi.dst v) w->iF P md ops Q S stop (fuel+1) listed a w:=by
 intro fuel
 induction fuel with
 | zero =>
   intro listed a w _ hr _ hy hS H;refine⟨fun h=>(by rw[h] at hr;cases hr),fun j hj=>?_⟩
   by_cases hji:j=i
   · subst hji;exact hy.wpOp hi hS ⟨fun _=>hS,H⟩
   · have:=ready_mono hj hji;rw[H.1] at this
     cases this
 | succ fuel ih =>
   intro listed a w hfree hr hcl hy hS H;refine⟨fun h=>(by rw[h] at hr;cases hr),fun j hj=>?_⟩
   by_cases hji:j=i
   · subst hji;exact hy.wpOp hi hS ⟨fun _=>hS,H⟩
   · have h1:=H.2 j (ready_mono hj hji);obtain⟨hjun,oj,hoj,hall⟩:=mem_ready.1 hj;have h0:=(mem_ready.1 hr).1
     have un:∀ k,listed.getD k true=false->listed.getD k false=true->False:=fun k a1 a2=>by
      rcases gT k listed.size with h'|h'
      · simp[h'] at a1 a2;rw[a1] at a2;cases a2
      · simp[wW h'] at a2
     have hnot:∀ e ∈ oj.after,Region.binds md e=true->e.on≠i:=fun e he hb heq=>un i h0 (heq ▸ hall e he hb)
     have hnw:¬(j ∈ C\/stop<=j):=fun hc=>by
      obtain⟨e,he,hb,heq⟩:=Il hlate hoj hc;rcases heq with heq|heq
      · exact hnot e he hb heq
      · exact un _ (hcl _ heq) (hall e he hb)
     have hjs:j<stop:=by
      rcases gT j stop with h|h
      · exact h
      · exact(hnw (Or.inr h)).elim
     have h2:=wpOp_putIf hoj (hfree j oj hoj hji hjun hnot) (fun cs b=>hsel i oi cs b hi) (fun cs b=>hsel j oj cs b hoj) hQ hy h1
     have hfree':∀ k ok,ops[k]?=some ok->k≠i->(listed.setIfInBounds j true).getD k true=false ->
      (∀ e ∈ ok.after,Region.binds md e=true->e.on≠i)->oi.apart ops ok=true:=fun k ok hk hki hun hno=>by
      refine hfree k ok hk hki ?_ hno
      by_cases hjk:j=k
      · subst hjk;exact hjun
      · rw[Go.getD_set_ne true hjk] at hun;exact hun
     refine wpOp_mono (fun b u h3=>⟨h3.2.1,ih (listed.setIfInBounds j true) b u hfree' (ready_mono hr (Ne.symm hji)) (fun k hk=>by rw[Go.getD_set_ne true (show j≠k from fun e=>hnw (Or.inl (by rw[e];exact hk)))];exact hcl k hk) h3.1 (h3.2.1 hjs) ?_⟩) h2;rw[Array.setIfInBounds_comm _ _ hji];exact h3.2.2
theorem xN {i:Nat}(C:List Nat) {oi:Oper}{v:Value}{fuel:Nat}{listed:Array Bool}{a:Act}{w:World}(hi:ops[i]?=some oi)
 (hs:Region.noSelect ops=true) (hf:Region.free md ops listed i=true) (hr:(Region.ready md ops listed).contains i=true) (hw:waits md ops i stop C=true) (hun:Es listed C=true)
 (hQ:∀ c a w,Q (.panic c) (a.put oi.dst v) w->Q (.panic c) a w) (hy:YieldsIf P ops S oi v a) (hS:S w)
 (h:iF P md ops Q S stop fuel (listed.setIfInBounds i true) (a.put oi.dst v) w):iF P md ops Q S stop (fuel+1) listed a w :=
 Et hi (Region.noSelect_spec hs) hQ hw fuel listed a w (Region.free_spec hi hf) (by simpa using hr) (fun k hk=>by have:=(List.all_eq_true.1 hun) k hk;simpa using this) hy hS h
theorem tk(i:Nat)(C:List Nat){oi:Oper}{v:Value}{fuel:Nat}{listed:Array Bool}{a:Act}{w:World}(hi:ops[i]?=some oi)(hS:S w)(h:iF P md ops Q S stop fuel (listed.setIfInBounds i true) (a.put oi.dst v) w)(hy:∀ w,S w->(execOp a.eval oi).run P w=.ok (.value v) w:=by intro u hSu;(try dsimp only at hSu);first|(go_simp;done)|(go_simp;with_reducible rfl))(hs:Region.noSelect ops=true:=by kernel_rfl)(hf:Region.free md ops listed i=true:=by kernel_rfl)(hr:(Region.ready md ops listed).contains i=true:=by kernel_rfl)(hw:waits md ops i stop C=true:=by kernel_rfl)(hun:Es listed C=true:=by kernel_rfl)(hQ:∀ c a w,Q (.panic c) (a.put oi.dst v) w->Q (.panic c) a w:=by exact fun _ _ _ h=>h)(h1:Region.wanted oi (yielded ops a.tmps)=true:=by rfl):iF P md ops Q S stop (fuel+1) listed a w:=xN C hi hs hf hr hw hun hQ (Or.inl ⟨h1,hy⟩) hS h
theorem sa{α:Type _}{l:List α}{i:Nat}{a:α}:l.toArray.setIfInBounds i a=(l.set i a).toArray:=List.setIfInBounds_toArray _ _ _
theorem sb{α:Type _}{x a:α}{l:List α}:(x::l).set 0 a=a::l:=rfl
theorem sc{α:Type _}{x a:α}{l:List α}{n:Nat}:(x::l).set (n+1) a=x::l.set n a:=rfl
theorem pO {i:Nat}{o:Oper}{fuel:Nat}{listed:Array Bool}{a:Act}{w:World}(hr:Region.ready md ops listed=[i]) (ho:ops[i]?=some o)
 (h:∀ K':Act->World->Prop,Shut (∀ b u,(i<stop->S u)->iF P md ops Q S stop fuel (listed.setIfInBounds i true) b u->K' b u)->if Region.wanted o (yielded ops a.tmps)=true then Oper.wp P o a w K' Q else K' (a.put o.dst undef) w):iF P md ops Q S stop (fuel+1) listed a w :=
 ⟨fun h0=>(by rw[hr] at h0;cases h0),fun j hj=>by
  rw[hr] at hj;obtain rfl:=zw.1 hj
  exact wpOp_step ho (fun K' hK=>h K' (fun b u h1 h2=>hK b u ⟨h1,h2⟩))⟩
theorem Im{listed:Array Bool}{a:Act}{w:World}(hr:Region.ready md ops listed=[])(h:Q .normal a w):∀ fuel,iF P md ops Q S stop fuel listed a w
 | 0=>⟨hr,h⟩
 | _+1=>⟨fun _=>h,by rw[hr];simp⟩
end
end
section
open Go.RowKit
theorem Qv (g:Nat) (L xs:List Nat) (V T:Int) (s:Sp) (k:Nat) (ng:Bool) (ao:Option Addr) (n cap p:Nat) (w:World) (hs:s.ok) (hk:k<=5) (hA:Ac w g L s) (hl:L.length=133) (hL:Wf L) (hv:(val L:Int)=V%(PB:Int)) (h0:-(HB:Int)<V) (h1:V<(HB:Int))
 (hx:Arg w ao n cap xs) (hp:p+32*n<=4256) (hT:kz ng (val xs*2^p)=T) (hT0:-(HB:Int)<T) (hT1:T<(HB:Int)) :
 Calls Tryz.prog 172 #[.pointer (some ⟨g,0,none⟩),.agg #[.int .i64 (k:Nat),.bool ng,.slice ao n cap,.int .i64 (p:Nat)]] w (Did g w (zb V s k T)):=by
 obtain⟨t,ht⟩:=af (s.cnt k 1);obtain⟨X,hX⟩:=af (zb V s k T);rw[<-hX];have HC:=hid (fun u:World=>Ed s k 1 u hk hs (by decide) (by decide));rw[<-ht] at HC;obtain⟨sn,su,sd,sm,sp,sa⟩:=s;obtain⟨tn,tu,td,tm,tp,ta⟩:=t;have HR:Aside (Ac w g L ⟨sn,su,sd,sm,sp,sa⟩/\L.length=133/\Wf L/\(val L:Int)=V%(PB:Int)/\-(HB:Int)<V/\V<(HB:Int)/\Arg w ao n cap xs/\p+32*n<=4256/\kz ng (val xs*2^p)=T/\-(HB:Int)<T/\T<(HB:Int)):=⟨hA,hl,hL,hv,h0,h1,hx,hp,hT,hT0,hT1⟩;have HX:Aside (X=zb V ⟨sn,su,sd,sm,sp,sa⟩ k T/\⟨tn,tu,td,tm,tp,ta⟩=Sp.cnt ⟨sn,su,sd,sm,sp,sa⟩ k 1):=⟨hX,ht⟩;simp only[Sp.agg] at HC;clear hA hl hL hv h0 h1 hx hp hT hT0 hT1 hX ht hs;go_enter Tryz.func172,Tryz.ntmps172;have a5:=HR.o.1.cell HR.o.2.1 5 _ rfl;have alt:=HR.o.1.lt
 by_cases hmax:sa=1099511627776
 · subst hmax;go_wp2;go_ret;rw[HX.o.1];unfold zb;rw[if_pos rfl];obtain⟨hA,hl,hL,hv,h0,h1,_⟩:=HR.o;exact⟨rfl,⟨L,hl,hL,hv,h0,h1,hA.alloc _⟩,(But.refl g w).oh (ax _ _)⟩
 have hmax':(sa==1099511627776)=false:=by simpa using hmax
 go_wp2
 have HP:Aside (X=zU V ⟨sn,su,sd,sm,sp,sa⟩ T ⟨tn,tu,td,tm,tp,ta⟩):=by
  refine ah ?_;rw[HX.o.1,HX.o.2];unfold zb;rw[if_neg hmax]
 obtain⟨w1,hw1⟩:=af (w.alloc (Obj.cells #[.int .i64 (k:Nat),.bool ng,.slice ao n cap,.int .i64 (p:Nat)] 203));rw[<-hw1]
 have H1:Aside (Bl w1 w.heap.size 203 [.int .i64 (k:Nat),.bool ng,.slice ao n cap,.int .i64 (p:Nat)]/\Below w.heap.size w w1/\w1.heap.size=w.heap.size+1):=by
  subst hw1;exact⟨Bl.new w 203 [_,_,_,_],ax _ _,by simp⟩
 clear hw1 hmax hmax' a5 alt;have hu:=Tryz.jg;have hsz:(Tryz.prog.info? 198).map (·.size)=some (L.map U).length:=by rw[Tryz.jf,wD,HR.o.2.1]
 have A0:=ah (HR.o.1.below H1.o.2.1 HR.o.1.lt);have BB:Aside (Below w1.heap.size w1 w1.drew):=(ay _ _).drew;have kS:=Dh (A0.o.drew.range) (A0.o.drew.cell HR.o.2.1 0 _ rfl) (A0.o.drew.cell HR.o.2.1 1 _ rfl) (A0.o.drew.cell HR.o.2.1 2 _ rfl) (A0.o.drew.cell HR.o.2.1 3 _ rfl) (A0.o.drew.cell HR.o.2.1 4 _ rfl) (A0.o.drew.cell HR.o.2.1 5 _ rfl) (H1.o.1.drew.four);have HW:=hid (fun(u:World) (hb:Below w1.heap.size w1 u)=>PS L xs ao n cap p (k:Nat) ng u HR.o.2.1 HR.o.r2.1 ((HR.o.r6.1.below H1.o.2.1).below hb) HR.o.r7.1)
 have hTT:Aside (kz ng (val xs*2^p)=T/\-(HB:Int)<T/\T<(HB:Int)):=by
  have h:=HR.o.r8;refine⟨?_,by omega,by omega⟩
  first | exact h.1 | (rw[<-h.1];cases ng <;> simp[kz])
 refine BP (fun w'=>w'.rangeAt g 0 (L.map U)/\w'.cell? ⟨g,133,none⟩=some (.int .i64 sn)/\w'.cell? ⟨g,134,none⟩=some (.int .i64 su)/\w'.cell? ⟨g,135,none⟩=some (.int .i64 sd)/\w'.cell? ⟨g,136,none⟩=some (.int .i64 sm)/\w'.cell? ⟨g,137,none⟩=some (.int .i64 sp)/\w'.cell? ⟨g,138,none⟩=some (.int .i64 sa)/\w'.cell? ⟨w.heap.size,0,none⟩=some (.int .i64 (k:Nat))/\w'.cell? ⟨w.heap.size,1,none⟩=some (.bool ng)/\w'.cell? ⟨w.heap.size,2,none⟩=some (.slice ao n cap)/\w'.cell? ⟨w.heap.size,3,none⟩=some (.int .i64 (p:Nat))) 14 (by kernel_rfl) ?_
 refine tk 0 [] rfl kS.o ?_;try simp only[Act.put,sa,sb,sc]
 refine tk 1 [2,3,4,6] rfl kS.o ?_;try simp only[Act.put,sa,sb,sc]
 refine tk 2 [3,4,6] rfl kS.o ?_;try simp only[Act.put,sa,sb,sc]
 refine tk 3 [4,6] rfl kS.o ?_;try simp only[Act.put,sa,sb,sc]
 refine xN (i:=4) [6] rfl (by kernel_rfl) (by kernel_rfl) (by kernel_rfl) (by kernel_rfl) (by kernel_rfl) (fun _ _ _ h=>h) (yieldsIf_load_mid (by rfl) _ _ rfl g 0 rfl (L.map U) _ (fun u h=>h.1) hu rfl hsz) kS.o ?_
 try simp only[Act.put,sa,sb,sc]
 refine tk 5 [6] rfl kS.o ?_;try simp only[Act.put,sa,sb,sc]
 refine tk 7 [8,9,10,13] rfl kS.o ?_;try simp only[Act.put,sa,sb,sc]
 refine tk 8 [9,10,13] rfl kS.o ?_;try simp only[Act.put,sa,sb,sc]
 refine tk 9 [10,13] rfl kS.o ?_;try simp only[Act.put,sa,sb,sc]
 refine tk 10 [13] rfl kS.o ?_;try simp only[Act.put,sa,sb,sc]
 refine tk 11 [12,13] rfl kS.o ?_;try simp only[Act.put,sa,sb,sc]
 refine tk 12 [13] rfl kS.o ?_;try simp only[Act.put,sa,sb,sc]
 refine pO (i:=6) (by kernel_rfl) rfl (fun K' hK=>?_);go_simp;refine(HW.o _ BB.o).mono ?_;rintro r u1 ⟨M,rfl,bT,aR,qi,hb⟩;have HM:=fG bT aR qi;have BB:=ah (BB.o.trans (hb.mono BB.o.size));have A1:=A0.o.below BB.o A0.o.lt;have Z1:=H1.o.1.below BB.o H1.o.1.lt;have kS:=Dh (A1.range) (A1.cell HR.o.2.1 0 _ rfl) (A1.cell HR.o.2.1 1 _ rfl) (A1.cell HR.o.2.1 2 _ rfl) (A1.cell HR.o.2.1 3 _ rfl) (A1.cell HR.o.2.1 4 _ rfl) (A1.cell HR.o.2.1 5 _ rfl) (Z1.four);clear hb A1 Z1 bT aR qi;dsimp only;refine hK.out _ _ (fun _=>kS.o) ?_;clear hK K'
 try simp only[Act.put,sa,sb,sc]
 refine pO (i:=13) (by kernel_rfl) rfl (fun K' hK=>?_);go_simp;refine(HC.o _).mono ?_;rintro r u2 ⟨rfl,hb⟩;have BB:=ah (BB.o.trans (hb.mono BB.o.size));have A1:=A0.o.below BB.o A0.o.lt;have Z1:=H1.o.1.below BB.o H1.o.1.lt;have kS:=Dh (A1.range) (A1.cell HR.o.2.1 0 _ rfl) (A1.cell HR.o.2.1 1 _ rfl) (A1.cell HR.o.2.1 2 _ rfl) (A1.cell HR.o.2.1 3 _ rfl) (A1.cell HR.o.2.1 4 _ rfl) (A1.cell HR.o.2.1 5 _ rfl) (Z1.four);clear hb A1 Z1;dsimp only;refine hK.out _ _ (fun _=>kS.o) ?_;clear hK K'
 try simp only[Act.put,sa,sb,sc]
 refine pO (i:=14) (by kernel_rfl) rfl (fun K' hK=>?_);go_simp;have CB:=Ik g L M V T ⟨sn,su,sd,sm,sp,sa⟩ ⟨tn,tu,td,tm,tp,ta⟩ u2 (A0.o.below BB.o A0.o.lt) HR.o.2.1 HR.o.r2.1 HR.o.r3.1 HR.o.r4.1 HR.o.r5.1 HM.o.2.1 HM.o.1 (by rw[HM.o.r2,hTT.o.1,HR.o.r3.1,sU]) hTT.o.2.1 hTT.o.r2;rw[<-HP.o] at CB;simp only[Sp.agg] at CB;refine CB.mono ?_;rintro r u3 hD;have HD3:=ah hD;obtain⟨rfl,_,_⟩:=hD;clear CB;dsimp only;refine hK.out _ _ (fun h=>absurd h (by decide)) ?_;clear hK K'
 try simp only[Act.put,sa,sb,sc]
 refine pO (i:=15) (by kernel_rfl) rfl (fun K' hK=>?_);go_simp;refine hK.out _ _ (fun h=>absurd h (by decide)) ?_;clear hK K';refine Im (by kernel_rfl) ?_ _;clear kS;go_wp2;go_ret;obtain⟨h1,h2,h3⟩:=HD3.o;exact⟨rfl,h2,((But.refl g w).oh H1.o.2.1).trans (((But.refl g w1).oh BB.o).trans h3)⟩
def sW(x:Nat):Bool:=decide (9223372036854775808<=x)
def eW(x:Nat):Nat:=x%9223372036854775808/4503599627370496
def fW(x:Nat):Nat:=x%4503599627370496
theorem gZ(x:Nat)(hx:x<18446744073709551616):x=B.bw (sW x) (eW x) (fW x)/\eW x<2048/\fW x<4503599627370496:=by
 unfold B.bw sW eW fW;refine⟨?_,by omega,by omega⟩
 by_cases h:9223372036854775808<=x
 · simp only[h,decide_true,fH];omega
 · simp only[h,decide_false,fI];omega
def jy(x:Nat):Int:=B.cls (eW x) (fW x)
def Dl(x:Nat):Int:=B.xp (eW x)
def vw(x:Nat):Nat:=(B.fr (eW x) (fW x)).toNat
def Ke(x:Nat):Bool:=B.ng (sW x) (eW x) (fW x)
def pK(x y:Nat):Nat:=pk (max (jy x) (jy y)) (min (jy x) (jy y)) (!Ke x==Ke y)
def pT(x y:Nat):Int:=XB (max (jy x) (jy y)) (min (jy x) (jy y)) (!Ke x==Ke y) (vw x) (vw y) (Dl x+Dl y)
theorem XD(hi lo:Int)(ng:Bool):pk hi lo ng<=5:=by
 unfold pk
 split
 · omega
 · split
   · split <;> omega
   · split
     · split <;> omega
     · omega
theorem xO(k:Nat)(hk:k=4238):HB=2^k:=by
 obtain⟨j,hj⟩:=af (32*132);rw[PW,GM,<-hj,show k=14+j by omega,aI]
theorem zV(ng:Bool)(X B:Nat)(h:X<B):-(B:Int)<kz ng X/\kz ng X<(B:Int):=by cases ng <;> simp only[kz,if_true,if_false] <;> constructor <;> (try simp) <;> omega
theorem Qbn{P:Prop}(h:P:=by
 refine fZ (fe h1 (aU _)) ?_;rw[<-aI];exact eB (by decide) (by unfold Dl;omega)):P:=h
theorem Qao{P:Prop}(h:P:=by
 have:vw x*vw y<=9007199254740991*9007199254740991:=jG (by unfold vw;omega) (by unfold vw;omega);exact gQ this (by decide)):P:=h
theorem Qw(x y:Nat)(hx:x<18446744073709551616)(hy:y<18446744073709551616):-(HB:Int)<pT x y/\pT x y<(HB:Int):=by
 unfold pT XB;have hp:=sV
 split
 · refine zV _ _ _ ?_;have f1:=mg (eW x) (fW x) (gZ x hx).2.2;have f2:=mg (eW y) (fW y) (gZ y hy).2.2;have x1:=mf (eW x) (gZ x hx).2.1;have x2:=mf (eW y) (gZ y hy).2.1
   have h1:vw x*vw y<2^106:=by
    exact Qao
   obtain⟨k,hk⟩:∃ k,k=4238:=⟨_,rfl⟩;rw[xO k hk];exact Qbn
 · constructor <;> omega
theorem Qx(x y:Nat)(hx:x<18446744073709551616)(hy:y<18446744073709551616)(w:World) :
 Calls Tryz.prog 203 #[.float .f64 x,.float .f64 y] w fun r w'=>∃ v,r=.returned v/\Th w.heap.size w' v (pK x y) (pT x y)/\Below w.heap.size w w':=by
 obtain⟨a1,a2,a3⟩:=gZ x hx;obtain⟨b1,b2,b3⟩:=gZ y hy;have h1:=Kc (sW x) (eW x) (fW x) a2 a3;have h2:=Kc (sW y) (eW y) (fW y) b2 b3;rw[<-a1] at h1;rw[<-b1] at h2;exact Er x y _ _ _ _ _ _ _ _ w h1 h2 (mf _ a2) (mf _ b2) (mg _ _ a3) (mg _ _ b3)
theorem U5(x:Nat)(hx:x<18446744073709551616)(w:World) :
 Calls Tryz.prog 173 #[.float .f64 x] w fun r w'=>∃ v,r=.returned v/\Th w.heap.size w' v (pK x 4607182418800017408) (pT x 4607182418800017408)/\Below w.heap.size w w':=by
 have HP:=hid (fun u:World=>Qx x 4607182418800017408 hx (by decide) u);clear hx;go_enter Tryz.func173,Tryz.ntmps173;go_wp2_with fail;refine(HP.o _).mono ?_;rintro r w1 ⟨v,rfl,hT,hb⟩;obtain⟨ng,a,n,c,p,xs,hlo,rfl,hA,hp,hv⟩:=hT;have HL:=ah hlo;have Z:=ah ((Bl.new w 203 [Value.int .i64 0,Value.bool false,Value.slice none 0 0,Value.int .i64 0]).below hb (by simp));have HA:=iw hA hp hv hb;obtain⟨z0,z1,z2,z3⟩:=Z.o.four;have g0:=Z.o.frozen 0;have g1:=Z.o.frozen 1;have g2:=Z.o.frozen 2;have g3:=Z.o.frozen 3;clear hA hp hv hb hlo;go_wp2;obtain⟨w5,mG⟩:=af (((((w1.setCell ⟨w.heap.size,0,none⟩ (.int .i64 (pK x 4607182418800017408:Nat))).setCell ⟨w.heap.size,1,none⟩ (.bool ng)).setCell ⟨w.heap.size,2,none⟩ (.slice a n c)).setCell ⟨w.heap.size,3,none⟩ (.int .i64 (p:Nat))));rw[<-mG];have q:Bl w5 w.heap.size 203 [.int .i64 (pK x 4607182418800017408:Nat),.bool ng,.slice a n c,.int .i64 (p:Nat)]:=by rw[mG];exact Ep Z.o
 have aD:But w.heap.size w1 w5:=by rw[mG];exact((((But.refl _ w1).set 0 _).set 1 _).set 2 _).set 3 _
 have hBw:Below w.heap.size w w1:=(ax w _).trans (HA.o.r3.mono (by simp));have qb:Below w.heap.size w w5:=But.below hBw aD hBw.size (ak _);clear mG;obtain⟨q0,q1,q2,q3⟩:=q.four;refine aB (v:=.agg #[.int .i64 (pK x 4607182418800017408:Nat),.bool ng,.slice a n c,.int .i64 (p:Nat)]) (by simp[results,Tryz.results173,go_sem,q0,q1,q2,q3]) rfl ?_;refine⟨_,rfl,⟨ng,a,n,c,p,xs,fun ad e=>?_,rfl,?_,HA.o.2.1,HA.o.r2.1⟩,qb⟩
 · have:=HL.o ad e;simp at this;omega
 · obtain⟨r1,r2,r3,r4,r5,r6⟩:=HA.o.1;refine⟨r1,r2,r3,r4,fun hne=>?_,r6⟩;obtain⟨b,off,hlt,rfl,hc⟩:=r5 hne;have hbb:=HL.o _ rfl;simp at hbb;refine⟨b,off,fZ hlt aD.size,rfl,fun i hi=>?_⟩;rw[<-hc i hi];exact qV (a:=⟨b,off+i,none⟩) (aD.block b hlt (by omega))
theorem put7(g:Nat)(V T:Int)(s:Sp)(k lo:Nat)(v:Value)(w:World)(hA:ql w g V s)(hs:s.ok)(hk:k<=5)(ht:Th lo w v k T)(h0:-(HB:Int)<T)(h1:T<(HB:Int)) :
 Calls Tryz.prog 172 #[.pointer (some ⟨g,0,none⟩),v] w (Did g w (zb V s k T)):=by
 obtain⟨L,a1,a2,a3,a4,a5,a6⟩:=hA;obtain⟨ng,a,n,c,p,xs,_,rfl,hx,hp,hv⟩:=ht;exact Qv g L xs V T s k ng a n c p w hs hk a6 a1 a2 a3 a4 a5 hx hp hv h0 h1
theorem Add7(g:Nat)(V:Int)(s:Sp)(x:Nat)(w:World)(hA:ql w g V s)(hs:s.ok)(hx:x<18446744073709551616) :
 Calls Tryz.prog 124 #[.pointer (some ⟨g,0,none⟩),.float .f64 x] w (Did g w (zb V s (pK x 4607182418800017408) (pT x 4607182418800017408))):=by
 obtain⟨X,hX⟩:=af (zb V s (pK x 4607182418800017408) (pT x 4607182418800017408));rw[<-hX];have HP:=hid (fun u:World=>U5 x hx u);have HB:=ah (Qw x 4607182418800017408 hx (by decide));have HA:=fG hA hs hX;clear hA hs hX hx;go_enter Tryz.func124,Tryz.ntmps124;go_wp2_with fail;refine(HP.o _).mono ?_;rintro r w1 ⟨v,rfl,hT,hb⟩;have HT:=aZ hT hb;clear hT hb;go_wp2_with fail;have CP:=put7 g V (pT x 4607182418800017408) s (pK x 4607182418800017408) w.heap.size v w1 (HA.o.1.aC HT.o.2) HA.o.2.1 (XD _ _ _) HT.o.1 HB.o.1 HB.o.2;rw[<-HA.o.r2] at CP;refine CP.mono ?_;rintro r w2 hD;have HD:=ah hD;obtain⟨rfl,_,_⟩:=hD;clear CP;go_wp2;go_ret;exact⟨rfl,HD.o.2.1,((But.refl g w).oh HT.o.2).trans HD.o.r2⟩
theorem Qy(N:Nat)(V:Int)(h:(N:Int)=V%(PB:Int))(h0:-(HB:Int)<V)(h1:V<(HB:Int)):sZ N=decide (V<0)/\PZ N=V.natAbs:=by
 have e:=XC;have hp:=sV;unfold PZ sZ
 by_cases hv:0<=V
 · rw[uJ hv (by omega)] at h;rw[decide_eq_false (by omega),decide_eq_false (by omega)];refine⟨rfl,?_⟩;rw[if_neg (by decide)];omega
 · have h2:V%(PB:Int)=V+PB:=by
    rw[<-Int.add_emod_right,uJ (by omega) (by omega)]
   rw[h2] at h;rw[decide_eq_true (by omega),decide_eq_true (by omega)];refine⟨rfl,?_⟩;rw[if_pos rfl];omega
def gH(V:Int):Option (Bool×Nat×Int):=mkS (decide (V<0)) V.natAbs (-2148)
theorem _root_.Nat.le.ne7{a b c:Nat}(h:a<=b)(e:a=c+1):b≠c:=by omega
theorem Nt.lo7{lo k:Nat}{w:World}{v:Value}{X:Nat}(h:Nt lo w v X)(hk:k<=lo):k<=lo:=hk
theorem Tryz.xP:∃ d:TypeDesc,Tryz.prog.underlying 79=some d/\d.isRow=true:=by
 have h:(Tryz.prog.underlying 79).any (·.isRow)=true:=by kernel_rfl
 obtain⟨d,h1,h2⟩:=(Option.any_eq_true _ _).1 h;exact⟨d,h1,h2⟩
theorem Tryz.tF:(Tryz.prog.info? 79).map (·.size)=some 3:=by kernel_rfl
theorem qH {fn:Func}{p:Tmp}{ty:TypeId}(h:fn.results=#[.cell p ty]) (tmps:Array Value) (w:World) (g:Nat) (cs:List Value)
 (hp:tmps.getD p undef=.pointer (some ⟨g,0,none⟩)) (hg:Bl w g ty cs) (hdr:∃ d:TypeDesc,Tryz.prog.underlying ty=some d/\d.isRow=true) (hi:(Tryz.prog.info? ty).map (·.size)=some cs.toArray.size) :
 (results fn tmps).run Tryz.prog w=.ok (.agg cs.toArray) w:=by
 obtain⟨d,h1,h2⟩:=hdr
 cases d <;> first
  | exact results_cell_row (P:=Tryz.prog) h tmps w g ty _ _ _ hp hg h1 rfl hi
  | exact absurd h2 (by simp[TypeDesc.isRow])
theorem Eu {w base:World}{tmps:Array Value}{o:Option (Bool×Nat×Int)}{v x y z:Value}{lo:Nat}(h2:tmps.getD 2 undef=.pointer (some ⟨w.heap.size,0,none⟩))
 (hZ:Bl base w.heap.size 79 [x,y,z]) (hbw:Below w.heap.size w base) (hN:Nt lo base v (dX o)) (hlo:w.heap.size<lo) :
 bodyPost Tryz.prog Tryz.f125 (fun r w'=>∃ v,r=.returned (.agg #[.bool (dN o),v,.int .i64 (dE o)])/\Nt w.heap.size w' v (dX o)/\Below w.heap.size w w') .ret ⟨tmps,[]⟩
  (((base.setCell ⟨w.heap.size,0,none⟩ (.bool (dN o))).setCell ⟨w.heap.size,1,none⟩ v).setCell ⟨w.heap.size,2,none⟩ (.int .i64 (dE o))):=by
 have q:Bl (((base.setCell ⟨w.heap.size,0,none⟩ (.bool (dN o))).setCell ⟨w.heap.size,1,none⟩ v).setCell ⟨w.heap.size,2,none⟩ (.int .i64 (dE o))) w.heap.size 79 [.bool (dN o),v,.int .i64 (dE o)]:=((hZ.set 0 _).set 1 _).set 2 _;have aD:But w.heap.size base (((base.setCell ⟨w.heap.size,0,none⟩ (.bool (dN o))).setCell ⟨w.heap.size,1,none⟩ v).setCell ⟨w.heap.size,2,none⟩ (.int .i64 (dE o))):=(((But.refl _ _).set 0 _).set 1 _).set 2 _;refine aB (v:=.agg #[.bool (dN o),v,.int .i64 (dE o)]) (qH Tryz.results125 _ _ w.heap.size [.bool (dN o),v,.int .i64 (dE o)] h2 q Tryz.xP (by rw[Tryz.tF];rfl)) rfl ?_;exact⟨v,rfl,(hN.Qt aD hlo).mono (by omega),But.below hbw aD hbw.size (ak _)⟩
theorem BQ {w base:World}{tmps:Array Value}{o:Option (Bool×Nat×Int)}{v x y z:Value}{lo:Nat}{ob:Obj}(h2:tmps.getD 2 undef=.pointer (some ⟨w.heap.size,0,none⟩))
 (hZ:Bl base w.heap.size 79 [x,y,z]) (hbw:Below w.heap.size w base) (hN:Nt lo base v (dX o)) (hlo:w.heap.size<lo) :
 bodyPost Tryz.prog Tryz.f125 (fun r w'=>∃ v,r=.returned (.agg #[.bool (dN o),v,.int .i64 (dE o)])/\Nt w.heap.size w' v (dX o)/\Below w.heap.size w w') .ret ⟨tmps,[]⟩
  ((((base.setCell ⟨w.heap.size,0,none⟩ (.bool (dN o))).setCell ⟨w.heap.size,1,none⟩ v).setCell ⟨w.heap.size,2,none⟩ (.int .i64 (dE o))).alloc ob):=by
 have q:Bl (((base.setCell ⟨w.heap.size,0,none⟩ (.bool (dN o))).setCell ⟨w.heap.size,1,none⟩ v).setCell ⟨w.heap.size,2,none⟩ (.int .i64 (dE o))) w.heap.size 79 [.bool (dN o),v,.int .i64 (dE o)]:=((hZ.set 0 _).set 1 _).set 2 _;have aD:But w.heap.size base (((base.setCell ⟨w.heap.size,0,none⟩ (.bool (dN o))).setCell ⟨w.heap.size,1,none⟩ v).setCell ⟨w.heap.size,2,none⟩ (.int .i64 (dE o))):=(((But.refl _ _).set 0 _).set 1 _).set 2 _;have hW:=But.below hbw aD hbw.size (ak _);refine aB (v:=.agg #[.bool (dN o),v,.int .i64 (dE o)]) (qH Tryz.results125 _ _ w.heap.size [.bool (dN o),v,.int .i64 (dE o)] h2 (q.alloc ob) Tryz.xP (by rw[Tryz.tF];rfl)) rfl ?_;exact⟨v,rfl,((hN.Qt aD hlo).mono (by omega)).below (ax _ _),hW.trans ((ax _ _).mono hW.size)⟩
theorem YA(g:Nat)(V:Int)(s:Sp)(w:World)(hA:ql w g V s)(hT:gF w):Calls Tryz.prog 125 #[.pointer (some ⟨g,0,none⟩)] w fun r w' =>
 ∃ v,r=.returned (.agg #[.bool (dN (gH V)),v,.int .i64 (dE (gH V))])/\Nt w.heap.size w' v (dX (gH V))/\Below w.heap.size w w':=by
 obtain⟨o,ho⟩:=af (gH V);rw[<-ho];obtain⟨L,a1,a2,a3,a4,a5,a6⟩:=hA;have hnm:=Qy (val L) V a3 a4 a5;have HA:=jD a1 a2 a6.hd hT ho hnm;have hlt:=a6.lt;clear a1 a2 a3 a4 a5 a6 hT ho hnm;have HLT:=ah hlt;clear hlt;obtain⟨W1,hW1⟩:=af (w.alloc (.cells #[.bool false,.slice none 0 0,.int .i64 0] 79))
 have H1:Aside (Below w.heap.size w W1/\Bl W1 w.heap.size 79 [.bool false,.slice none 0 0,.int .i64 0]/\W1.heap.size=w.heap.size+1):=by
  subst hW1;exact⟨ax _ _,Bl.new _ 79 [_,_,_],by simp⟩
 go_enter Tryz.func125,Tryz.ntmps125;go_wp2;rw[<-hW1];clear hW1;have BB:Aside (Below W1.heap.size W1 W1.drew):=(ay _ _).drew;have HH:Aside (∀ W:World,Below W1.heap.size W1 W->Hd W g L):=fun W h=>(HA.o.r2.1.below H1.o.1 HLT.o (ak _)).below h (fZ HLT.o H1.o.1.size) (ak _);have HTT:Aside (∀ W:World,Below W1.heap.size W1 W->gF W):=fun W h=>(HA.o.r3.1.belows H1.o.1).belows h
 go_region_with (first
  | (go_at_call 174
     with_reducible refine(zN g L _ HA.o.1 HA.o.2.1 (HH.o _ (by first | exact BB.o | exact BB.o.trans ((ax _ _).mono BB.o.size) | exact(ax _ _).drew))).mono ?_
     rintro r u ⟨rfl,rfl⟩)
  | (go_at_call 175
     with_reducible refine(LY L g _ HA.o.1 HA.o.2.1 (HH.o _ (by first | exact BB.o | exact BB.o.trans ((ax _ _).mono BB.o.size) | exact(ax _ _).drew))).mono ?_
     rintro r u ⟨b,cap,M,rfl,hM,qi,hb⟩;have hu:Below W1.heap.size W1 u:=by first | exact BB.o.trans (hb.mono BB.o.size) | exact(BB.o.trans ((ax _ _).mono BB.o.size)).trans (hb.mono (by have:=BB.o.size;simp;omega)) | exact((ax _ _).drew).trans (hb.mono (by simp))
     try have DZ:=aZ (DZ.o.1.below hb DZ.o.1.lt) DZ.o.2
     try have DZ:=aZ ((Bl.new _ 79 [Value.bool false,Value.slice none 0 0,Value.int .i64 0]).below hb (by simp)) BB.o.size
     try have DZ:=aZ ((Bl.new W1 79 [Value.bool false,Value.slice none 0 0,Value.int .i64 0]).drew.below hb (by simp)) (ak W1.heap.size)
     have BB:=ah hu;have HM:=aZ hM (show mkS (sZ (val L)) (val M) (-2148)=o by rw[HA.o.r4.1,qi,HA.o.r5.1,HA.o.r6];rfl)
     clear hM qi hb hu)
  | (go_at_call 94
     with_reducible refine(fF (by first | exact HM.o.1 | exact HM.o.1.below (ax _ _)) (HTT.o _ (by first | exact BB.o | exact BB.o.trans ((ax _ _).mono BB.o.size) | exact(ax _ _).drew)) (sZ (val L)) (-2148) (by decide) (by decide)).mono ?_
     rintro r u ⟨hD,hb⟩;rw[HM.o.2] at hD;obtain⟨v,rfl,hN⟩:=hD
     try have DL:=ah DZ.o.1.lt
     have hu:Below W1.heap.size W1 u:=by first | exact BB.o.trans (hb.mono BB.o.size) | exact(BB.o.trans ((ax _ _).mono BB.o.size)).trans (hb.mono (by have:=BB.o.size;simp;omega)) | exact((ax _ _).drew).trans (hb.mono (by simp))
     try have DZ:=aZ (DZ.o.1.below hb DZ.o.1.lt) DZ.o.2
     try have DZ:=aZ ((Bl.new _ 79 [Value.bool false,Value.slice none 0 0,Value.int .i64 0]).below hb (by simp)) BB.o.size
     try have DZ:=aZ ((Bl.new W1 79 [Value.bool false,Value.slice none 0 0,Value.int .i64 0]).drew.below hb (by simp)) (ak W1.heap.size)
     have Di:=ai hN (hN.lo7 (k:=W1.heap.size) (by first | exact BB.o.size | (have:=BB.o.size;simp;omega)))
     obtain⟨a,c,rfl,_⟩:=hN.arg (by
      refine dz ((aL _ 133).2 ?_) (by decide);have e:=HM.o.2;have hm:=bN M HM.o.1.wf;rw[<-HM.o.1.len] at hm;rw[<-e];refine gQ ?_ hm;unfold mkS dX
      split
      · exact kg _
      · split
        · exact kg _
        · exact nO _ _)
     have HN:=aZ Di hu;have Z:=ah (H1.o.2.1.below hu (by have:=H1.o.r2;omega));have z0:=Z.o.cell 0 _ rfl;have z1:=Z.o.cell 1 _ rfl;have z2:=Z.o.cell 2 _ rfl;have g0:=Z.o.frozen 0;have g1:=Z.o.frozen 1;have g2:=Z.o.frozen 2
     try have d0:=DZ.o.1.cell 0 _ rfl
     try have d1:=DZ.o.1.cell 1 _ rfl
     try have d2:=DZ.o.1.cell 2 _ rfl
     try have e0:=DZ.o.1.frozen 0
     try have e1:=DZ.o.1.frozen 1
     try have e2:=DZ.o.1.frozen 2
     have hlu:w.heap.size<u.heap.size:=Z.o.lt
     try have nx:=DZ.o.2.ne7 H1.o.r2
     try have ny:=nx.symm
     clear hN Di hb hu))
 all_goals (
  clear HM HA HH HTT BB;go_wp2;have hW:Below w.heap.size w u:=H1.o.1.trans (HN.o.2.mono H1.o.1.size);have hlo:=HN.o.1.2;have hl1:=H1.o.r2
  first
   | (with_reducible refine BQ (x:=.bool false) (y:=.slice none 0 0) (z:=.int .i64 0) ?_ Z.o hW HN.o.1.1 (by omega)
      rfl)
   | (with_reducible refine Eu (x:=.bool false) (y:=.slice none 0 0) (z:=.int .i64 0) ?_ (Bl.but Z.o ((((But.refl _ _).set 0 _).set 1 _).set 2 _) ny) (But.below hW ((((But.refl _ _).set 0 _).set 1 _).set 2 _) hW.size (by have:=DZ.o.2;omega)) (HN.o.1.1.Qt ((((But.refl _ _).set 0 _).set 1 _).set 2 _) (by first | exact DL.o | (simp;done) | (simp;omega))) (by omega)
      rfl))
end
namespace B
theorem Io(s t:Bool)(e f u v:Nat)(he:e<2048)(hf:f<4503599627370496)(hu:u<2048)(hv:v<4503599627370496) :
 (FloatKind.f64.format.order (bw s e f) (bw t u v)==some .lt)=(!odd e f&&(!odd u v&&decide (pl s e f<pl t u v))):=by
 rw[ord s t e f u v he hf hu hv]
 cases odd e f <;> cases odd u v <;> simp
 by_cases h:pl s e f<pl t u v
 · rw[uQ.2 h];simp[h]
 · rw[decide_eq_false h]
   by_cases h2:pl t u v<pl s e f
   · rw[uR.2 h2];rfl
   · rw[uS.2 (by omega)];rfl
theorem Qz(s t:Bool)(e f u v:Nat)(he:e<2048)(hf:f<4503599627370496)(hu:u<2048)(hv:v<4503599627370496) :
 (FloatKind.f64.format.order (bw s e f) (bw t u v)==some .gt)=(!odd e f&&(!odd u v&&decide (pl t u v<pl s e f))):=by
 rw[ord s t e f u v he hf hu hv]
 cases odd e f <;> cases odd u v <;> simp
 by_cases h:pl t u v<pl s e f
 · rw[uR.2 h];simp[h]
 · rw[decide_eq_false h]
   by_cases h2:pl s e f<pl t u v
   · rw[uQ.2 h2];rfl
   · rw[uS.2 (by omega)];rfl
theorem YB(s t:Bool)(e f u v:Nat)(he:e<2048)(hf:f<4503599627370496)(hu:u<2048)(hv:v<4503599627370496) :
 (FloatKind.f64.format.order (bw s e f) (bw t u v)==some .eq)=(!odd e f&&(!odd u v&&decide (pl s e f=pl t u v))):=by
 rw[ord s t e f u v he hf hu hv]
 cases odd e f <;> cases odd u v <;> simp
 by_cases h:pl s e f<pl t u v
 · rw[uQ.2 h,decide_eq_false (by omega)];rfl
 · by_cases h2:pl t u v<pl s e f
   · rw[uR.2 h2,decide_eq_false (by omega)];rfl
   · rw[uS.2 (by omega),decide_eq_true (by omega)];rfl
theorem BR(e f:Nat)(h:e<2047):odd e f=false:=by
 have:(e==2047)=false:=by simp;omega
 simp[odd,this]
theorem QA(e:Nat):odd e 0=false:=by simp[odd]
theorem Kh:bw false 0 0=0:=rfl
theorem YC:bw false 2046 4503599627370495=9218868437227405311:=rfl
theorem YD(s:Bool)(e f:Nat)(he:e<2048)(hf:f<4503599627370496) :
 (FloatKind.f64.format.order (bw s e f) 9218868437227405311==some .gt)=(!s&&(e==2047&&f==0)):=by
 have h:=Qz s false e f 2046 4503599627370495 he hf (by omega) (by omega);rw[YC] at h;rw[h,BR 2046 _ (by omega)]
 cases ho:odd e f
 · have:=fP e f ho;rw[wE]
   cases s <;> simp[pl,sg] <;> omega
 · obtain⟨h1,h2⟩:=kC e f ho;have h3:(f==0)=false:=by simp[h2]
   simp[h1,h3]
theorem Ki(s:Bool)(e f:Nat)(he:e<2048)(hf:f<4503599627370496) :
 (FloatKind.f64.format.order (bw s e f) 0==some .eq)=(e==0&&f==0):=by
 have h:=YB s false e f 0 0 he hf (by omega) (by omega);rw[Kh] at h;rw[h,BR 0 _ (by omega)]
 cases ho:odd e f
 · rw[wE]
   cases s <;> simp[pl,sg] <;> omega
 · obtain⟨h1,h2⟩:=kC e f ho;have h3:(e==0)=false:=by simp[h1]
   simp[h3]
theorem Kj(s:Bool)(e f:Nat)(he:e<2048)(hf:f<4503599627370496)(ho:odd e f=false)(hz:(e==0&&f==0)=false) :
 (FloatKind.f64.format.order (bw s e f) 0==some .lt)=s:=by
 have h:=Io s false e f 0 0 he hf (by omega) (by omega);rw[Kh] at h;rw[h,BR 0 _ (by omega),ho];have hz':¬ (e=0/\f=0):=by rintro ⟨rfl,rfl⟩;simp at hz
 rw[wE]
 cases s <;> simp[pl,sg] <;> omega
theorem QC(s:Bool)(e f:Nat)(he:e<2048)(hf:f<4503599627370496):bits .andNot .u64 ((bw s e f:Nat):Int) 9223372036854775808=(bw false e f:Int):=by
 have h:=u64_andNot_nat (bw s e f) 9223372036854775808 (om s e f he hf) (by omega);rw[show(((9223372036854775808:Nat)):Int)=9223372036854775808 from rfl] at h;rw[h,show 18446744073709551615-9223372036854775808=2^63-1 from rfl,GH];congr 1;exact qr
def ky(s:Bool)(e f:Nat):Int:=if e=2047/\f≠0 then 9221120237041090560 else if s then -1-((e:Int)*4503599627370496+f) else(e:Int)*4503599627370496+f
def oc(a b:Int):Int:=if a<b then -1 else if b<a then 1 else 0
theorem QD{a b:Int}(h:a<b):oc a b=-1:=if_pos h
theorem QE{a b:Int}(h:b<a):oc a b=1:=by unfold oc;rw[if_neg (by omega),if_pos h]
theorem oc_eq{a b:Int}(h:a=b):oc a b=0:=by unfold oc;rw[if_neg (by omega),if_neg (by omega)]
theorem xQ(s:Bool)(e f:Nat)(h:odd e f=true):ky s e f=9221120237041090560:=if_pos (kC e f h)
theorem XE(s:Bool)(e f:Nat)(he:e<2048)(hf:f<4503599627370496)(h:odd e f=false):ky s e f<9221120237041090560:=by
 have:=fP e f h;unfold ky;rw[if_neg this];split <;> omega
theorem rH(s:Bool)(e f:Nat)(h:odd e f=false):ky s e f=if s then -1-((e:Int)*4503599627370496+f) else(e:Int)*4503599627370496+f:=if_neg (fP e f h)
theorem Ev(s t:Bool)(e f u v:Nat)(h1:odd e f=false)(h2:odd u v=false)(h:pl s e f<pl t u v):ky s e f<ky t u v:=by
 rw[rH s e f h1,rH t u v h2];unfold pl sg at h
 cases s <;> cases t <;> simp at h |- <;> omega
theorem YE(s t:Bool)(e f u v:Nat)(he:e<2048)(hf:f<4503599627370496)(hu:u<2048)(hv:v<4503599627370496)(h:bw s e f=bw t u v):s=t/\e=u/\f=v:=by
 unfold bw at h
 cases s <;> cases t <;> simp only[fH,fI] at h
 · exact⟨rfl,by omega,by omega⟩
 · omega
 · omega
 · exact⟨rfl,by omega,by omega⟩
theorem QF(s t:Bool)(e f u v:Nat)(he:e<2048)(hf:f<4503599627370496)(hu:u<2048)(hv:v<4503599627370496)(h:cb s e f=cb t u v):ky s e f=ky t u v:=by
 cases h1:odd e f
 · rw[iE s e f (fP e f h1)] at h
   cases h2:odd u v
   · rw[iE t u v (fP u v h2)] at h;obtain⟨rfl,rfl,rfl⟩:=YE s t e f u v he hf hu hv h;rfl
   · rw[lG t u v (kC u v h2)] at h;exact absurd h (pE s e f he hf h1)
 · rw[lG s e f (kC e f h1)] at h
   cases h2:odd u v
   · rw[iE t u v (fP u v h2)] at h;exact absurd h.symm (pE t u v hu hv h2)
   · rw[xQ s e f h1,xQ t u v h2]
theorem U6(s t:Bool)(e f u v:Nat)(h1:odd e f=false)(h2:odd u v=false)(hne:¬ bw s e f=bw t u v)(h:pl s e f=pl t u v):(s=false->ky t u v<ky s e f)/\(s=true->ky s e f<ky t u v):=by
 rw[rH s e f h1,rH t u v h2];unfold bw at hne;unfold pl sg at h
 cases s <;> cases t <;> simp at h hne |- <;> omega
end B
section
open Go.RowKit
open Go.Proofs.YtjppdacikihpdaaGreatDoor.B (aM aF bw)
attribute [local go_sem] aM aF
def kn(a:Int):Bool:=decide (0<=a)&&decide (a<=2)
def may(a b:Int):Bool:=kn a&&kn b
def ct(a:Int):Bool:=decide (0<=a)&&decide (a<=1099511627776)
theorem yd{P:Prop}(h:P:=by
 go_wp2;go_ret;exact⟨by first | rfl | simp,rfl⟩):P:=h
theorem tH(a:Int)(w:World):Calls Tryz.prog 139 #[.int .i64 a] w fun r w'=>r=.returned (.bool (kn a))/\w'=w:=by
 unfold kn
 by_cases h:0<=a
 · have hd:decide (0<=a)=true:=decide_eq_true h;rw[hd];go_enter Tryz.func139,Tryz.ntmps139;exact yd
 · have hd:decide (0<=a)=false:=decide_eq_false h;rw[hd];go_enter Tryz.func139,Tryz.ntmps139;exact yd
theorem qB(a:Int)(w:World):Calls Tryz.prog 141 #[.int .i64 a] w fun r w'=>r=.returned (.bool (ct a))/\w'=w:=by
 unfold ct
 by_cases h:0<=a
 · have hd:decide (0<=a)=true:=decide_eq_true h;rw[hd];go_enter Tryz.func141,Tryz.ntmps141;exact yd
 · have hd:decide (0<=a)=false:=decide_eq_false h;rw[hd];go_enter Tryz.func141,Tryz.ntmps141;exact yd
theorem BS(a b:Int)(w:World):Calls Tryz.prog 85 #[.agg #[.int .i64 a,.int .i64 b]] w fun r w'=>r=.returned (.bool (may a b))/\Below w.heap.size w w':=by
 unfold may;rcases ha:kn a with _|_
 · have H:=hid (fun w=>ha ▸ tH a w);clear ha;go_enter Tryz.func85,Tryz.ntmps85;go_wp2_with fail;refine(H.o _).mono ?_;rintro r w1 ⟨rfl,rfl⟩;go_wp2;go_ret;exact⟨rfl,(ay _ _).alloc (ak _) _⟩
 · have H:=hid (fun w=>ha ▸ tH a w);have H2:=hid (fun w=>tH b w);obtain⟨kb,hkb⟩:∃ k,kn b=k:=⟨_,rfl⟩;rw[hkb] at H2 |-;clear ha hkb;go_enter Tryz.func85,Tryz.ntmps85;go_wp2_with fail;refine(H.o _).mono ?_;rintro r w1 ⟨rfl,rfl⟩;go_wp2_with fail;refine(H2.o _).mono ?_;rintro r w1 ⟨rfl,rfl⟩;go_wp2;go_ret;exact⟨by first | rfl | simp,(ay _ _).alloc (ak _) _⟩
theorem zW(w:World):Calls Tryz.prog 90 #[.float .f64 0,.float .f64 13830554455654793216] w fun r w'=>r=.returned (.float .f64 9223372036854775808)/\w'=w:=by
 have h1:bits .andNot .u64 0 9223372036854775808=0:=by decide +kernel
 have h2:bits .and .u64 13830554455654793216 9223372036854775808=9223372036854775808:=by decide +kernel
 have h3:bits .or .u64 0 9223372036854775808=9223372036854775808:=by decide +kernel
 go_enter Tryz.func90,Tryz.ntmps90;go_wp2;exact Xs
open Go.RowKit
open Go.Proofs.YtjppdacikihpdaaGreatDoor.B (aM aF bw aO)
attribute [local go_sem] aM aF
def snd(n u d m p a:Int):Bool:=ct n&&ct u&&ct d&&(ct m&&ct p&&ct a)&&decide (n+u+d+m+p<=a)
theorem iR{n:Int}(h:ct n=true):0<=n/\n<=1099511627776:=by unfold ct at h;simpa using h
theorem U7{n u d m p:Int}(i:Nat)(hi:i<5)(h:ct ([n,u,d,m,p].getD i 0)=false)(a:Int):snd n u d m p a=false:=by
 unfold snd;obtain rfl|rfl|rfl|rfl|rfl:i=0\/i=1\/i=2\/i=3\/i=4:=by omega
 all_goals (simp at h;simp[h])
def ps(L:List Int)(i:Nat):Int:=(L.take i).sum
theorem U8(L:List Int)(i:Nat)(h:i<L.length):ps L (i+1)=ps L i+L.getD i 0:=by
 unfold ps;rw[wK h,List.sum_append,bG,dx h];simp
theorem xF{P:Prop}(h:P:=by
 rw[ha] at HA HS;clear ha;go_wp2_with fail;refine(HA.o _).mono ?_;rintro r w1 ⟨rfl,rfl⟩;go_wp2;go_ret;exact⟨by rw[HS.o];first | rfl | simp,hbel⟩):P:=h
theorem Mv(n u d m p a:Int)(w:World):Calls Tryz.prog 89 #[.agg #[.int .i64 n,.int .i64 u,.int .i64 d,.int .i64 m,.int .i64 p,.int .i64 a]] w fun r w'=>r=.returned (.bool (snd n u d m p a))/\Below w.heap.size w w':=by
 obtain⟨L,hL⟩:∃ L:List Int,L=[n,u,d,m,p]:=⟨_,rfl⟩;have hlen:L.length=5:=by rw[hL];rfl
 have HL:=(aZ hL hlen);obtain⟨W,hW⟩:=af ((w.alloc (.cells #[.int .i64 n,.int .i64 u,.int .i64 d,.int .i64 m,.int .i64 p,.int .i64 a] 72)).alloc (.cells #[.int .i64 n,.int .i64 u,.int .i64 d,.int .i64 m,.int .i64 p] 165))
 have hcell:∀ i,i<5->W.cell? ⟨w.heap.size+1,i,none⟩=some (.int .i64 (L.getD i 0)):=by
  intro i hi;have h1:=gU (w.alloc (.cells #[.int .i64 n,.int .i64 u,.int .i64 d,.int .i64 m,.int .i64 p,.int .i64 a] 72)) (.cells #[.int .i64 n,.int .i64 u,.int .i64 d,.int .i64 m,.int .i64 p] 165);rw[<-hW] at h1;simp only[sF] at h1;subst hL;simp only[World.cell?,h1];obtain rfl|rfl|rfl|rfl|rfl:i=0\/i=1\/i=2\/i=3\/i=4:=by omega
  all_goals simp
 have ha5:W.cell? ⟨w.heap.size,5,none⟩=some (.int .i64 a):=by rw[hW];simp[go_sem]
 have hbel:Below w.heap.size w W:=by rw[hW];exact((ay _ _).alloc (ak _) _).alloc (by simp) _
 have HC:=(iw hcell hbel hW ha5);clear hL hlen hcell hbel hW ha5;have HA:=hid (qB a);go_enter Tryz.func89,Tryz.ntmps89;go_wp2
 go_loopg [4,17] 5 (fun gk sv iv wr=>∃ i:Nat,gk+i=5/\sv=.int .i64 (ps L i)/\iv=.int .i64 (i:Nat)/\wr=W/\Aside (∀ j,j<i->ct (L.getD j 0)=true)/\0<=ps L i/\ps L i<=(i:Int)*1099511627776)
 case atStart=>exact⟨0,rfl,rfl,rfl,by rw[HC.o.r2.1],fun j hj=>absurd hj (by omega),by simp[ps],by simp[ps]⟩
 case round =>
  obtain⟨i,hi,rfl,rfl,rfl,HT,hp0,hp1⟩:=hrel;obtain⟨hcell,hbel,hW,ha5⟩:=HC.o
  by_cases hi5:i=5
  · obtain rfl:gk=0:=by omega
    subst hi5
    have hs:snd n u d m p a=(ct a&&decide (ps L 5<=a)):=by
     have h0:=HT.o 0 (by omega);have h1:=HT.o 1 (by omega);have h2:=HT.o 2 (by omega);have h3:=HT.o 3 (by omega);have h4:=HT.o 4 (by omega);have e:=HL.o.1;subst e;have e2:ps [n,u,d,m,p] 5=n+u+d+m+p:=by simp[ps];omega
     rw[e2];simp at h0 h1 h2 h3 h4;unfold snd;rw[h0,h1,h2,h3,h4];simp
    obtain⟨q,hq⟩:∃ q,ps L 5=q:=⟨_,rfl⟩;rw[hq] at hp0 hp1 hs |-;have HS:=ah hs;clear hcell hW hs hq;rcases ha:ct a with _|_
    · exact xF
    · exact xF
  · have hil:i<5:=by omega
    have hci:=hcell i hil;have HK:=hid (qB (L.getD i 0));have hps:=U8 L i (by rw[HL.o.2];exact hil);obtain⟨x,hx⟩:∃ x,L.getD i 0=x:=⟨_,rfl⟩;rw[hx] at hci HK hps;rcases hc:ct x with _|_
    · rw[hc] at HK
      have HS:Aside (snd n u d m p a=false):=by
       have h1:=hc;rw[<-hx,HL.o.1] at h1;exact U7 i hil h1 a
      have HB:=ah hbel;clear hcell hbel hW ha5 hps hx hc hi5 HC HL;go_wp2_with fail;refine(HK.o _).mono ?_;rintro r w1 ⟨rfl,rfl⟩;go_wp2;go_ret;exact⟨by rw[HS.o];rfl,HB.o⟩
    · rw[hc] at HK;have hb:=iR hc;obtain⟨q,hq⟩:∃ q,ps L i=q:=⟨_,rfl⟩;obtain⟨q2,hq2⟩:∃ q,ps L (i+1)=q:=⟨_,rfl⟩;rw[hq,hq2] at hps;rw[hq] at hp0 hp1 |-;have hq3:q+x=q2:=hps.symm
      have hq4:0<=q2/\q2<=((i:Int)+1)*1099511627776:=by
       have:((i:Int)+1)*1099511627776=(i:Int)*1099511627776+1099511627776:=by omega
       omega
      have hq5:q2<=9223372036854775807:=by omega
      have hq6:-9223372036854775808<=q2:=by omega
      have HR:=(fM hq2 hq4 hx hc hq3);clear hcell hbel hW ha5 hps hx hc hi5 HC hq2 hq hp0 hp1 hb hq4;go_wp2_with fail;refine(HK.o _).mono ?_;rintro r w1 ⟨rfl,rfl⟩;go_wp2;go_roundg (5-(i+1))
      case measure=>omega
      case rel =>
       obtain⟨hq2,hq4,hx,hc,hq3⟩:=HR.o;refine⟨i+1,by omega,?_,by first | go_num | (congr 1;omega),rfl,?_,by rw[hq2];exact hq4.1,by rw[hq2];have:=hq4.2;push_cast;exact this⟩
       · first | (rw[hq2];done) | (rw[hq2,<-hq3];done)
       · intro j hj
         by_cases hji:j=i
         · subst hji;rw[hx];exact hc
         · exact HT.o j (by omega)
def nt(ok:Bool)(n u d m p a mode:Int):Nat :=
 if ok=false then 0 else if a-n-u-d=0 then 0 else if m=a-n-u-d then 9223372036854775808 else if p=a-n-u-d then 0 else if mode=3 then 9223372036854775808 else 0
theorem QG{n u d m p a:Int}(h:snd n u d m p a=true):(0<=n/\n<=1099511627776)/\(0<=u/\u<=1099511627776)/\(0<=d/\d<=1099511627776)/\(0<=a/\a<=1099511627776):=by
 unfold snd at h;simp only[wV] at h;exact⟨iR h.1.1.1.1,iR h.1.1.1.2,iR h.1.1.2,iR h.1.2.2⟩
end
section
open Go.RowKit
open Go.Proofs.YtjppdacikihpdaaGreatDoor.B (aM aF bw aO)
attribute [local go_sem] aM aF
theorem J1{P:Prop}(h:P:=by
 go_enter Tryz.func55,Tryz.ntmps55;go_wp2_with fail;refine(HS.o _).mono ?_;rintro r w1 ⟨rfl,hb1⟩;have hz1:=hb1.size;simp at hz1;obtain⟨hc1,hf1⟩:=aO hb1;have B1:=ah hb1;clear hb1;go_wp2_with fail;refine(HM.o _).mono ?_;rintro r w3 ⟨rfl,rfl⟩;go_wp2;go_ret;exact⟨by first | rfl | simp,((ay _ w).alloc (ak _) _).trans (B1.o.mono (by simp))⟩):P:=h
theorem xR(n u d m p l mode:Int)(w:World):Calls Tryz.prog 55 #[.agg #[.int .i64 n,.int .i64 u,.int .i64 d,.int .i64 m,.int .i64 p,.int .i64 l],.int .i64 mode] w fun r w'=>r=.returned (.float .f64 (nt (snd n u d m p l) n u d m p l mode))/\Below w.heap.size w w':=by
 have HS:=hid (Mv n u d m p l);have HM:=hid (zW);rcases hs:snd n u d m p l with _|_
 · rw[hs] at HS;have hv:nt false n u d m p l mode=0:=if_pos rfl;rw[hv];clear hs hv;go_enter Tryz.func55,Tryz.ntmps55;go_wp2_with fail;refine(HS.o _).mono ?_;rintro r w1 ⟨rfl,hb1⟩;have hz1:=hb1.size;simp at hz1;obtain⟨hc1,hf1⟩:=aO hb1;have B1:=ah hb1;clear hb1;go_wp2;go_ret;exact⟨by first | rfl | simp,((ay _ w).alloc (ak _) _).trans (B1.o.mono (by simp))⟩
 have bd:=QG hs;rw[hs] at HS;obtain⟨f,hf⟩:∃ f,l-n-u-d=f:=⟨_,rfl⟩;have hfb:-9223372036854775808<=f/\f<=9223372036854775807:=by omega
 have hb1:0<=n/\n<=1099511627776:=bd.1;have hb2:0<=u/\u<=1099511627776:=bd.2.1;have hb3:0<=d/\d<=1099511627776:=bd.2.2.1;have hb4:0<=l/\l<=1099511627776:=bd.2.2.2;unfold nt;rw[if_neg (by decide),hf];clear hs bd
 by_cases p1:f=0
 · rw[if_pos p1];have q1:(f==0)=true:=by rw[beq_iff_eq];exact p1
   clear p1;exact J1
 rw[if_neg p1];have q1:(f==0)=false:=by rw[beq_eq_false_iff_ne];exact p1
 clear p1
 by_cases p2:m=f
 · rw[if_pos p2];have q2:(m==f)=true:=by rw[beq_iff_eq];exact p2
   clear p2;exact J1
 rw[if_neg p2];have q2:(m==f)=false:=by rw[beq_eq_false_iff_ne];exact p2
 clear p2
 by_cases p3:p=f
 · rw[if_pos p3];have q3:(p==f)=true:=by rw[beq_iff_eq];exact p3
   clear p3;exact J1
 rw[if_neg p3];have q3:(p==f)=false:=by rw[beq_eq_false_iff_ne];exact p3
 clear p3
 by_cases p4:mode=3
 · rw[if_pos p4];subst p4;exact J1
 · rw[if_neg p4];have q4:(mode==3)=false:=by rw[beq_eq_false_iff_ne];exact p4
   clear p4;exact J1
end
section
open Go.RowKit
theorem mh{w:World}{a:Option Addr}{n c:Nat}{xs:List Nat}(h1:Arg w a n c xs)(hn:n<=2000000)(neg:Bool)(e:Int)(he0:-9223372036854775808<=e)(he1:e<=9223372036854775807) :
 Calls Tryz.prog 108 #[.agg #[.bool neg,.slice a n c,.int .i64 e]] w fun r w'=>BN w.heap.size w' r (mkS neg (val xs) e)/\Below w.heap.size w w':=by
 have HB:=ah (show Below w.heap.size w ((w.alloc (.cells #[.bool neg,.slice a n c,.int .i64 e] 79)).alloc (.cells #[.bool false,.slice none 0 0,.int .i64 0] 79)) from(((ay _ _).alloc (ak _) _).alloc (by simp) _));have H1:=hid (pJ (h1.below HB.o) hn neg e he0 he1);have hl:=aK neg (val xs) e;obtain⟨o,ho⟩:∃ o,mkS neg (val xs) e=o:=⟨_,rfl⟩;rw[ho] at H1 hl |-;unfold BN at H1 |-;obtain⟨dn,hdn⟩:∃ d,dN o=d:=⟨_,rfl⟩;obtain⟨X,Ip⟩:∃ d,dX o=d:=⟨_,rfl⟩;obtain⟨de,hde⟩:∃ d,dE o=d:=⟨_,rfl⟩;obtain⟨er,her⟩:∃ d,o.isSome=d:=⟨_,rfl⟩;rw[hdn,Ip,hde,her] at H1 |-;rw[Ip] at hl;clear h1 ho hdn Ip hde her hn he0 he1;go_enter Tryz.func108,Tryz.ntmps108;go_wp2_with fail;refine H1.o.mono ?_;rintro r w2 ⟨⟨v,rfl,hN⟩,hb⟩;obtain⟨a2,c2,rfl,_⟩:=hN.arg (by omega);obtain⟨hc,hf⟩:=aO hb;have HF:=ah (Fin.of 2 HB.o (by simp) hN hb);have hz:w.heap.size+1<w2.heap.size:=by have:=hb.size;simp at this;omega
 clear hN hb;go_wp2;exact aB (v:=.tuple #[.agg #[.bool dn,.slice a2 (ws X).length c2,.int .i64 de],.bool er]) (by simp[results,Tryz.results108,go_sem,hc]) rfl (Fin.jw (m:=w.heap.size+2) (by repeat (first | exact HF.o | refine Fin.alloc ?_ _ | refine Fin.set ?_ _ _ _ (by omega) (by omega))) (by omega))
theorem mo{w:World}{a:Option Addr}{n c:Nat}{xs:List Nat}(h1:Arg w a n c xs)(hT:gF w)(neg:Bool)(e:Int)(he0:-9223372036854775808<=e)(he1:e<=9223372036854775807) :
 Calls Tryz.prog 128 #[.agg #[.bool neg,.slice a n c,.int .i64 e]] w fun r w'=>bS w.heap.size w' r (mkS neg (val xs) e)/\Below w.heap.size w w':=by
 have HB:=ah (show Below w.heap.size w ((w.alloc (.cells #[.bool neg,.slice a n c,.int .i64 e] 79)).alloc (.cells #[.bool false,.slice none 0 0,.int .i64 0] 79)) from(((ay _ _).alloc (ak _) _).alloc (by simp) _));have H1:=hid (fF (h1.below HB.o) (hT.belows HB.o) neg e he0 he1);have hl:=aK neg (val xs) e;obtain⟨o,ho⟩:∃ o,mkS neg (val xs) e=o:=⟨_,rfl⟩;rw[ho] at H1 hl |-;unfold bS at H1 |-;obtain⟨dn,hdn⟩:∃ d,dN o=d:=⟨_,rfl⟩;obtain⟨X,Ip⟩:∃ d,dX o=d:=⟨_,rfl⟩;obtain⟨de,hde⟩:∃ d,dE o=d:=⟨_,rfl⟩;obtain⟨er,her⟩:∃ d,vY o=d:=⟨_,rfl⟩;rw[hdn,Ip,hde,her] at H1 |-;rw[Ip] at hl;clear h1 ho hdn Ip hde her hT he0 he1;go_enter Tryz.func128,Tryz.ntmps128;go_wp2_with fail;refine H1.o.mono ?_;rintro r w2 ⟨⟨v,rfl,hN⟩,hb⟩;obtain⟨a2,c2,rfl,_⟩:=hN.arg (by omega);obtain⟨hc,hf⟩:=aO hb;have HF:=ah (Fin.of 2 HB.o (by simp) hN hb);have hz:w.heap.size+1<w2.heap.size:=by have:=hb.size;simp at this;omega
 clear hN hb;go_wp2;exact aB (v:=.tuple #[.agg #[.bool dn,.slice a2 (ws X).length c2,.int .i64 de],.int .i64 er]) (by simp[results,Tryz.results128,go_sem,hc]) rfl (Fin.jw (m:=w.heap.size+2) (by repeat (first | exact HF.o | refine Fin.alloc ?_ _ | refine Fin.set ?_ _ _ _ (by omega) (by omega))) (by omega))
def Iq(lo:Nat)(w:World)(r:Ending)(o:Option (Bool×Nat×Int)):Prop :=
 ∃ v,r=.returned (.agg #[.bool (dN o),v,.int .i64 (dE o)])/\Nt lo w v (dX o)
theorem Fin.U9{lo m:Nat}{w0 w:World}{n:Bool}{v:Value}{X:Nat}{e:Int}(H:Fin lo m w0 w v X)(h:lo<=m) :
 (∃ v',Ending.returned (.agg #[.bool n,v,.int .i64 e])=.returned (.agg #[.bool n,v',.int .i64 e])/\Nt lo w v' X)/\Below lo w0 w:=⟨⟨v,rfl,H.nt.mono h⟩,H.aC⟩
end
namespace B
open Go.RowKit
attribute [local go_sem] aM aF
theorem Kk(a c:Bool)(k l x y f g:Int)(w:World):(Op.equalIn 10000 98 (.agg #[.bool a,.int .i64 k,.int .i64 x,.int .u64 f]) (.agg #[.bool c,.int .i64 l,.int .i64 y,.int .u64 g])).run Tryz.prog w=.ok (a==c&&(k==l&&(x==y&&f==g))) w:=by
 have u3:=Tryz.underlying3;have u4:=Tryz.underlying4;have u23:=Tryz.underlying45;have hS:Tryz.prog.underlying 98=some (.struct (Tryz.prog.fieldsOf 98)):=by kernel_rfl
 have hp:Tryz.prog.stoodInHeld 98=false:=by kernel_rfl
 rw[show(10000:Nat)=9999+1 from rfl,run_equalIn_agg w 9999 98 _ _ hS hp];simp only[Program.fieldsOf,Tryz.underlying98];go_simp
 by_cases h1:a=c <;> by_cases h2:k=l <;> by_cases h3:x=y <;> by_cases h4:f=g <;> simp[h1,h2,h3,h4]
attribute [local go_sem] Kk
theorem fld0(a:Bool)(k x f:Int)(w:World):(Instr.field 98 (.agg #[.bool a,.int .i64 k,.int .i64 x,.int .u64 f]) 0).run Tryz.prog w=.ok (.bool a) w:=by kernel_rfl
theorem fld1(a:Bool)(k x f:Int)(w:World):(Instr.field 98 (.agg #[.bool a,.int .i64 k,.int .i64 x,.int .u64 f]) 1).run Tryz.prog w=.ok (.int .i64 k) w:=by kernel_rfl
theorem fld2(a:Bool)(k x f:Int)(w:World):(Instr.field 98 (.agg #[.bool a,.int .i64 k,.int .i64 x,.int .u64 f]) 2).run Tryz.prog w=.ok (.int .i64 x) w:=by kernel_rfl
theorem fld3(a:Bool)(k x f:Int)(w:World):(Instr.field 98 (.agg #[.bool a,.int .i64 k,.int .i64 x,.int .u64 f]) 3).run Tryz.prog w=.ok (.int .u64 f) w:=by kernel_rfl
attribute [local go_sem] fld0 fld1 fld2 fld3
theorem Mw(s:Bool)(e f:Nat)(he:e<2048)(hf:f<4503599627370496)(w:World) :
 Calls Tryz.prog 101 #[.int .u64 (bw s e f),.int .i64 11,.int .i64 52] w fun r w'=>r=.returned (.agg #[.bool (ng s e f),.int .i64 (cls e f),.int .i64 (xp e),.int .u64 (fr e f)])/\Below w.heap.size w w' :=
 pG s e f he hf w
theorem cb_bw(s:Bool)(e f:Nat)(he:e<2048)(hf:f<4503599627370496):∃ t u v,u<2048/\v<4503599627370496/\cb s e f=bw t u v/\(Value.agg #[.bool (ng t u v),.int .i64 (cls u v),.int .i64 (xp u),.int .u64 (fr u v)])=(.agg #[.bool (ng s e f),.int .i64 (cls e f),.int .i64 (xp e),.int .u64 (fr e f)]):=by
 by_cases h:e=2047/\f≠0
 · refine⟨false,2047,2251799813685248,by omega,by omega,?_,?_⟩
   · rw[lG s e f h];rfl
   · obtain⟨rfl,h2⟩:=h;simp[ng,cls,xp,fr,h2]
 · exact⟨s,e,f,he,hf,iE s e f h,rfl⟩
theorem Ir(s:Bool)(e f:Nat)(he:e<2048)(hf:f<4503599627370496)(w:World) :
 Calls Tryz.prog 61 #[.float .f64 (bw s e f)] w fun r w'=>r=.returned (.agg #[.bool (ng s e f),.int .i64 (cls e f),.int .i64 (xp e),.int .u64 (fr e f)])/\Below w.heap.size w w':=by
 obtain⟨t,u,v,hu,hv,hE,hV⟩:=cb_bw s e f he hf;have HE:Hid (cb s e f=bw t u v):=hE;rw[<-hV];clear hE hV;go_enter Tryz.func61,Tryz.ntmps61
 go_wp2_with (first
  | (go_at_call 102;refine(pF s e f he hf _).mono ?_;rintro r w1 ⟨rfl,rfl⟩;rw[HE.o])
  | (go_at_call 101;refine(Mw t u v hu hv _).mono ?_;rintro r w1 ⟨rfl,hb⟩;(obtain⟨hc,hfz⟩:=aO hb;have hz:w.heap.size<w1.heap.size:=by (have:=hb.size;simp at this;omega))))
 exact aB (v:=.agg #[.bool (ng t u v),.int .i64 (cls u v),.int .i64 (xp u),.int .u64 (fr u v)]) (by simp[results,Tryz.results61,go_sem,hc]) rfl ⟨rfl,(by repeat (first | exact ay _ _ | exact((ay _ _).alloc (ak _) _).trans (hb.mono (by simp)) | exact ak _ | (simp;done) | (simp;omega) | refine Below.alloc ?_ ?_ _ | refine Below.setCell ?_ ?_ _ | refine gW ?_))⟩
theorem Mx(s:Bool)(e f:Nat)(he:e<2048)(hf:f<4503599627370496)(w:World) :
 Calls Tryz.prog 44 #[.float .f64 (bw s e f)] w fun r w'=>r=.returned (.int .i64 (cls e f))/\Below w.heap.size w w':=by
 go_enter Tryz.func44,Tryz.ntmps44
 go_wp2_with (go_at_call 76;refine(ma s e f he hf _).mono ?_;rintro r w1 ⟨rfl,hb⟩)
 go_ret;exact⟨rfl,hb⟩
theorem xS(s:Bool)(e f:Nat)(he:e<2048)(hf:f<4503599627370496)(w:World) :
 Calls Tryz.prog 37 #[.float .f64 (bw s e f)] w fun r w'=>r=.returned (.int .i64 (cls e f))/\Below w.heap.size w w':=by
 go_enter Tryz.func37,Tryz.ntmps37
 go_wp2_with (go_at_call 61;refine(Ir s e f he hf _).mono ?_;rintro r w1 ⟨rfl,hb⟩)
 go_ret;exact⟨rfl,hb⟩
theorem QH(s t:Bool)(e f u v:Nat)(he:e<2048)(hf:f<4503599627370496)(hu:u<2048)(hv:v<4503599627370496)(w:World) :
 Calls Tryz.prog 157 #[.float .f64 (bw s e f),.float .f64 (bw t u v)] w fun r w'=>r=.returned (.bool (decide (cb s e f=cb t u v)))/\w'=w:=by
 cases h1:odd e f
 · cases h2:odd u v
   · have h3:((bw s e f:Int)==(bw t u v:Int))=decide (cb s e f=cb t u v):=by
      rw[iE s e f (fP e f h1),iE t u v (fP u v h2),wE];simp;omega
     go_enter Tryz.func157,Tryz.ntmps157;go_wp2_with fail;refine(bO s e f he hf _).mono ?_;rintro r w1 ⟨rfl,rfl⟩;go_wp2_with fail;refine(bO t u v hu hv _).mono ?_;rintro r w1 ⟨rfl,rfl⟩;go_wp2_with fail;exact Xs
   · have h3:decide (cb s e f=cb t u v)=false:=by
      rw[iE s e f (fP e f h1),lG t u v (kC u v h2)];exact decide_eq_false (pE s e f he hf h1)
     rw[h3];clear h3;go_enter Tryz.func157,Tryz.ntmps157;go_wp2_with fail;refine(bO s e f he hf _).mono ?_;rintro r w1 ⟨rfl,rfl⟩;go_wp2_with fail;refine(bO t u v hu hv _).mono ?_;rintro r w1 ⟨rfl,rfl⟩;go_wp2_with fail;refine(bO s e f he hf _).mono ?_;rintro r w1 ⟨rfl,rfl⟩;go_wp2_with fail;exact Xs
 · have h3:decide (cb s e f=cb t u v)=odd u v:=by
    rw[lG s e f (kC e f h1)]
    cases h2:odd u v
    · rw[iE t u v (fP u v h2)];exact decide_eq_false (fun h=>pE t u v hu hv h2 h.symm)
    · rw[lG t u v (kC u v h2)];rfl
   rw[h3];clear h3;go_enter Tryz.func157,Tryz.ntmps157;go_wp2_with fail;refine(bO s e f he hf _).mono ?_;rintro r w1 ⟨rfl,rfl⟩;go_wp2_with fail;refine(bO s e f he hf _).mono ?_;rintro r w1 ⟨rfl,rfl⟩;go_wp2_with fail;refine(bO t u v hu hv _).mono ?_;rintro r w1 ⟨rfl,rfl⟩;go_wp2_with fail;exact Xs
end B
namespace B
open Go.RowKit
attribute [local go_sem] aM aF
theorem Ew{a b:Bool}(h:a=b):Ending.returned (.bool a)=.returned (.bool b):=by rw[h]
theorem Ex(s:Bool)(e f:Nat)(he:e<2048)(hf:f<4503599627370496)(w:World) :
 Calls Tryz.prog 158 #[.float .f64 (bw s e f)] w fun r w'=>r=.returned (.bool s)/\w'=w:=by
 have hl:=om s e f he hf
 cases s
 · have h1:bw false e f<9223372036854775808:=by unfold bw;simp only[fI];omega
   go_enter Tryz.func158,Tryz.ntmps158;go_wp2;go_ret;exact⟨Ew (decide_eq_false (by omega)),rfl⟩
 · have h1:9223372036854775808<=bw true e f:=by unfold bw;simp only[fH];omega
   go_enter Tryz.func158,Tryz.ntmps158;go_wp2;go_ret;exact⟨Ew (decide_eq_true (by unfold wrap64;omega)),rfl⟩
theorem BZ(s:Bool)(e f:Nat)(he:e<2048)(hf:f<4503599627370496)(w:World) :
 Calls Tryz.prog 126 #[.float .f64 (bw s e f)] w fun r w'=>r=.returned (.float .f64 (bw false e f))/\w'=w:=by
 have h1:=QC s e f he hf;go_enter Tryz.func126,Tryz.ntmps126;go_wp2;go_ret;exact⟨rfl,rfl⟩
theorem MB(s t:Bool)(e f u v:Nat)(he:e<2048)(hf:f<4503599627370496)(hu:u<2048)(hv:v<4503599627370496)(w:World) :
 Calls Tryz.prog 99 #[.float .f64 (bw s e f),.float .f64 (bw t u v)] w fun r w'=>r=.returned (.int .i64 (oc (ky s e f) (ky t u v)))/\w'=w:=by
 have HS:=QH s t e f u v he hf hu hv;have hgt:=Qz s t e f u v he hf hu hv;have hlt:=Io s t e f u v he hf hu hv
 cases hd:decide (cb s e f=cb t u v)
 · rw[hd] at HS;have H2:Hid (∀ w,Calls Tryz.prog 157 #[.float .f64 (bw s e f),.float .f64 (bw t u v)] w fun r w'=>r=.returned (.bool false)/\w'=w):=HS;have hne:=of_decide_eq_false hd;clear HS hd
   cases h1:odd e f
   · cases h2:odd u v
     · rw[h1,h2] at hgt hlt;simp only[Bool.not_false,Bool.true_and] at hgt hlt;rw[iE s e f (fP e f h1),iE t u v (fP u v h2)] at hne
       by_cases c1:pl t u v<pl s e f
       · rw[QE (Ev t s u v e f h2 h1 c1)];rw[decide_eq_true c1] at hgt;clear hne c1 hlt;go_enter Tryz.func99,Tryz.ntmps99;go_wp2_with fail;refine(H2.o _).mono ?_;rintro r w1 ⟨rfl,rfl⟩;go_wp2_with fail;refine(bO s e f he hf _).mono ?_;rintro r w1 ⟨rfl,rfl⟩;go_wp2_with fail;exact Xs
       · by_cases c2:pl s e f<pl t u v
         · rw[QD (Ev s t e f u v h1 h2 c2)];rw[decide_eq_true c2] at hlt;rw[decide_eq_false c1] at hgt;clear hne c1 c2;go_enter Tryz.func99,Tryz.ntmps99;go_wp2_with fail;refine(H2.o _).mono ?_;rintro r w1 ⟨rfl,rfl⟩;go_wp2_with fail;refine(bO s e f he hf _).mono ?_;rintro r w1 ⟨rfl,rfl⟩;go_wp2_with fail;refine(bO t u v hu hv _).mono ?_;rintro r w1 ⟨rfl,rfl⟩;go_wp2_with fail;exact Xs
         · rw[decide_eq_false c1] at hgt;rw[decide_eq_false c2] at hlt;have hk:=U6 s t e f u v h1 h2 hne (by omega);clear hne c1 c2
           cases s
           · rw[QE (hk.1 rfl)];clear hk;go_enter Tryz.func99,Tryz.ntmps99;go_wp2_with fail;refine(H2.o _).mono ?_;rintro r w1 ⟨rfl,rfl⟩;go_wp2_with fail;refine(bO false e f he hf _).mono ?_;rintro r w1 ⟨rfl,rfl⟩;go_wp2_with fail;refine(bO t u v hu hv _).mono ?_;rintro r w1 ⟨rfl,rfl⟩;go_wp2_with fail;refine(Ex false e f he hf _).mono ?_;rintro r w1 ⟨rfl,rfl⟩;go_wp2_with fail;exact Xs
           · rw[QD (hk.2 rfl)];clear hk;go_enter Tryz.func99,Tryz.ntmps99;go_wp2_with fail;refine(H2.o _).mono ?_;rintro r w1 ⟨rfl,rfl⟩;go_wp2_with fail;refine(bO true e f he hf _).mono ?_;rintro r w1 ⟨rfl,rfl⟩;go_wp2_with fail;refine(bO t u v hu hv _).mono ?_;rintro r w1 ⟨rfl,rfl⟩;go_wp2_with fail;refine(Ex true e f he hf _).mono ?_;rintro r w1 ⟨rfl,rfl⟩;go_wp2_with fail;exact Xs
     · rw[xQ t u v h2,QD (XE s e f he hf h1)];rw[h1,h2] at hgt hlt;simp only[Bool.not_false,Bool.true_and,Bool.not_true,Bool.false_and] at hgt hlt;clear hne hlt;go_enter Tryz.func99,Tryz.ntmps99;go_wp2_with fail;refine(H2.o _).mono ?_;rintro r w1 ⟨rfl,rfl⟩;go_wp2_with fail;refine(bO s e f he hf _).mono ?_;rintro r w1 ⟨rfl,rfl⟩;go_wp2_with fail;refine(bO t u v hu hv _).mono ?_;rintro r w1 ⟨rfl,rfl⟩;go_wp2_with fail;exact Xs
   · have h2:odd u v=false:=by
      cases h2:odd u v
      · rfl
      · exact absurd ((lG s e f (kC e f h1)).trans (lG t u v (kC u v h2)).symm) hne
     rw[xQ s e f h1,QE (XE t u v hu hv h2)];clear hne hgt hlt;go_enter Tryz.func99,Tryz.ntmps99;go_wp2_with fail;refine(H2.o _).mono ?_;rintro r w1 ⟨rfl,rfl⟩;go_wp2_with fail;refine(bO s e f he hf _).mono ?_;rintro r w1 ⟨rfl,rfl⟩;go_wp2_with fail;exact Xs
 · rw[hd] at HS;have H2:Hid (∀ w,Calls Tryz.prog 157 #[.float .f64 (bw s e f),.float .f64 (bw t u v)] w fun r w'=>r=.returned (.bool true)/\w'=w):=HS;rw[oc_eq (QF s t e f u v he hf hu hv (of_decide_eq_true hd))];clear HS hd hgt hlt;go_enter Tryz.func99,Tryz.ntmps99;go_wp2_with fail;refine(H2.o _).mono ?_;rintro r w1 ⟨rfl,rfl⟩;go_wp2_with fail;go_ret;exact⟨rfl,rfl⟩
end B
end Go.Proofs.YtjppdacikihpdaaGreatDoor
