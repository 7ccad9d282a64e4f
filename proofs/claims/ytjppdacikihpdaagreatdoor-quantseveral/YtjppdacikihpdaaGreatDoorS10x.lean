import Derived.Test.YtjppdacikihpdaaGreatDoorW50x
import Derived.Deep.RegionHeld
import Derived.Test.YtjppdacikihpdaaGreatDoorBIeeex
import Derived.Laws.BitsAllLaws
import Derived.WalkLawsBesides
import Derived.Test.YtjppdacikihpdaaGreatDoorW24x
import Derived.Deep.RegionWith
import Derived.Laws.StructEq
set_option linter.unusedVariables false
set_option linter.unusedSimpArgs false
set_option maxHeartbeats 16000000
set_option maxRecDepth 20000
namespace Go.Proofs.YtjppdacikihpdaaGreatDoor
section
open Go.RowKit
def ry(w:World)(g:Nat)(V:Int)(s:Sp):Prop:=∃L:List Nat,L.length=133/\Wf L/\(val L:Int)=V%(PB:Int)/\-(HB:Int)<V/\V<(HB:Int)/\Ac w g L s
theorem ry.lt{w:World}{g:Nat}{V:Int}{s:Sp}(h:ry w g V s):g<w.heap.size:=by obtain⟨L,_,_,_,_,_,h⟩:=h;exact h.lt
theorem ry.below{w w':World}{g B:Nat}{V:Int}{s:Sp}(h:ry w g V s)(hb:Below B w w')(hg:g<B):ry w' g V s:=by
 obtain⟨L,h1,h2,h3,h4,h5,h6⟩:=h;exact⟨L,h1,h2,h3,h4,h5,h6.below hb hg⟩
theorem ry.aF{w w':World}{g:Nat}{V:Int}{s:Sp}(h:ry w g V s)(hb:An w w'):ry w' g V s:=h.below hb h.lt
theorem Y3:PB=262144*HB:=by rw[Db,Rb];omega
theorem Ws(N:Nat)(V:Int)(h:(N:Int)=V%(PB:Int))(h0:-(2*HB:Int)<V)(h1:V<2*(HB:Int)):Nq N=!(decide (-(HB:Int)<V/\V<(HB:Int))):=by
 have e:=Y3;have hp:=uW;unfold Nq
 by_cases hv:0<=V
 . rw[wz hv ae] at h
   by_cases hc:V<(HB:Int)
   . rw[decide_eq_false ae,decide_eq_true ae];rfl
   . rw[decide_eq_true ae,decide_eq_false ae];rfl
 . have h2:V%(PB:Int)=V+PB:=by
    rw[<-Int.add_emod_right,wz ae ae]
   rw[h2] at h
   by_cases hc:-(HB:Int)<V
   . rw[decide_eq_false ae,decide_eq_true ae];rfl
   . rw[decide_eq_true ae,decide_eq_false ae];rfl
def Did(g:Nat)(w:World)(X:Int×Int×Sp)(r:Ending)(w':World):Prop:=r=.returned (.int .i64 X.1)/\ry w' g X.2.1 X.2.2/\But g w w'
def Bn(V:Int)(s:Sp)(T:Int)(t:Sp):Int×Int×Sp:=if -(HB:Int)<V+T/\V+T<(HB:Int) then(0,V+T,t) else(2,V,s)
def Ab(V:Int)(s:Sp)(k:Nat)(T:Int):Int×Int×Sp:=if s.a=1099511627776 then(2,V,s) else Bn V s T (s.cnt k 1)
theorem Jq (g:Nat) (L M:List Nat) (V T:Int) (s t:Sp) (w:World) (hA:Ac w g L s) (hl:L.length=133) (hL:Wf L) (hv:(val L:Int)=V%(PB:Int)) (h0:-(HB:Int)<V) (h1:V<(HB:Int)) (hM:Wf M) (hm:M.length=133)
 (hvM:(val M:Int)=(V+T)%(PB:Int)) (hT0:-(HB:Int)<T) (hT1:T<(HB:Int)) :
 As 200 #[.pointer (some ⟨g,0,none⟩),.agg (M.map U).toArray,t.agg] w (Did g w (Bn V s T t)):=by
 have hb:=Ws (val M) (V+T) hvM ae ae
 by_cases hc:-(HB:Int)<V+T/\V+T<(HB:Int)
 . rw[decide_eq_true hc] at hb;refine(Jc g L M s t w hA hl hM hm hb).mono λr w' ⟨a,b,c⟩=>?_;unfold Bn;rw[if_pos hc];exact⟨a,⟨M,hm,hM,hvM,hc.1,hc.2,b⟩,c⟩
 . rw[decide_eq_false hc] at hb;refine(Nv g L M s t w hA hM hm hb).mono λr w' ⟨a,b⟩=>?_;unfold Bn;rw[if_neg hc];exact⟨a,⟨L,hl,hL,hv,h0,h1,hA.below b hA.lt⟩,(But.refl g w).pR b⟩
end
section
open Go Go.RowKit
section
variable {P : Program} {ops : Array Oper} {Q : Exit -> Act -> World -> Prop} {md : Region.Mode} {S : World -> Prop} {stop : Nat}
def iy(P:Program)(md:Region.Mode)(ops:Array Oper)(Q:Exit->Act->World->Prop)(S:World->Prop)(stop:Nat):Nat->Array Bool->Act->World->Prop
 | 0,listed,a,w=>Region.ready md ops listed=[]/\Q .normal a w
 | fuel+1,listed,a,w=>(Region.ready md ops listed=[]->Q .normal a w) /\
  ∀i ∈ Region.ready md ops listed,wpOp P ops Q i (λb u=>(i<stop->S u)/\iy P md ops Q S stop fuel (listed.setIfInBounds i true) b u) a w
theorem wS:∀(fuel:Nat) (listed:Array Bool) (a:Act) (w:World),iy P md ops Q S stop fuel listed a w->wpAny P md ops Q fuel listed a w
 | 0,_,_,_,h=>h
 | fuel+1,_,_,_,h=>⟨h.1,λi hi=>wpOp_mono (λb u k=>wS fuel _ b u k.2) (h.2 i hi)⟩
theorem kR{id:Nat}{a:Act}{w:World}(S:World->Prop)(stop:Nat)(hm:P.follows .mixedOrders=true)(h:iy P .any ops Q S stop ops.size (Array.replicate ops.size false) a w.drew):(Code.region id ops true).wp P Q a w :=
 wp_region_any hm (wS _ _ _ _ h)
def waits(md:Region.Mode)(ops:Array Oper)(i stop:Nat)(C:List Nat):Bool :=
 (List.range ops.size).all λj=>!(C.contains j || decide (stop<=j)) || (match ops[j]? with | some o=>o.after.any (λe=>Region.binds md e&&(e.on==i || C.contains e.on)) | none=>true)
def FZ(listed:Array Bool)(C:List Nat):Bool:=C.all λk=>listed.getD k true==false
theorem Jr{i:Nat}{C:List Nat}(h:waits md ops i stop C=true){j:Nat}{oj:Oper}(hj:ops[j]?=some oj)(hc:j ∈ C\/stop<=j):∃e ∈ oj.after,Region.binds md e=true/\(e.on=i\/e.on ∈ C):=by
 have h1:=(List.all_eq_true.1 h) j (by simp;exact(dQ.1 hj).1);rw[hj] at h1
 have h2:(C.contains j || decide (stop<=j))=true:=by
  rcases hc with hc|hc
  . simp[hc]
  . simp[hc]
 rw[h2] at h1;simp only[Bool.not_true,yc] at h1;rw[<-Array.any_toList] at h1;obtain⟨e,he,hb⟩:=yf.1 h1;have he:=Array.mem_toList_iff.1 he;simp only[yh,Bool.or_eq_true,beq_iff_eq,List.contains_iff_mem] at hb;exact⟨e,he,hb.1,hb.2⟩
theorem F3 {i:Nat}{C:List Nat}{oi:Oper}{v:Value}(hi:ops[i]?=some oi) (hsel:∀(j:Nat) (o:Oper) cs b,ops[j]?=some o->o.op≠.select cs b)
 (hQ:∀x a w,Q (.panic x) (a.put oi.dst v) w->Q (.panic x) a w) (hlate:waits md ops i stop C=true) :
 ∀(fuel:Nat) (listed:Array Bool) (a:Act) (w:World),
   (∀j oj,ops[j]?=some oj->j≠i->listed.getD j true=false->(∀e ∈ oj.after,Region.binds md e=true->e.on≠i)->oi.apart ops oj=true) ->
   i ∈ Region.ready md ops listed->(∀k ∈ C,listed.getD k true=false)->YieldsIf P ops S oi v a->S w ->
   iy P md ops Q S stop fuel (listed.setIfInBounds i true) (a.put oi.dst v) w->iy P md ops Q S stop (fuel+1) listed a w:=by
 intro fuel
 induction fuel with
 | zero =>
   intro listed a w _ hr _ hy hS H;refine⟨λh=>(by rw[h] at hr;cases hr),λj hj=>?_⟩
   by_cases hji:j=i
   . subst hji;exact hy.wpOp hi hS ⟨λ_=>hS,H⟩
   . have:=ready_mono hj hji;rw[H.1] at this
     cases this
 | succ fuel ih =>
   intro listed a w hfree hr hcl hy hS H;refine⟨λh=>(by rw[h] at hr;cases hr),λj hj=>?_⟩
   by_cases hji:j=i
   . subst hji;exact hy.wpOp hi hS ⟨λ_=>hS,H⟩
   . have h1:=H.2 j (ready_mono hj hji);obtain⟨hjun,oj,hoj,hall⟩:=mem_ready.1 hj;have h0:=(mem_ready.1 hr).1
     have un:∀k,listed.getD k true=false->listed.getD k false=true->False:=λk a1 a2=>by
      rcases iE k listed.size with h'|h'
      . simp[h'] at a1 a2;rw[a1] at a2;cases a2
      . simp[yj h'] at a2
     have hnot:∀e ∈ oj.after,Region.binds md e=true->e.on≠i:=λe he hb heq=>un i h0 (heq ▸ hall e he hb)
     have hnw:¬(j ∈ C\/stop<=j):=λhc=>by
      obtain⟨e,he,hb,heq⟩:=Jr hlate hoj hc;rcases heq with heq|heq
      . exact hnot e he hb heq
      . exact un _ (hcl _ heq) (hall e he hb)
     have hjs:j<stop:=by
      rcases iE j stop with h|h
      . exact h
      . exact(hnw (Or.inr h)).elim
     have h2:=wpOp_putIf hoj (hfree j oj hoj hji hjun hnot) (λcs b=>hsel i oi cs b hi) (λcs b=>hsel j oj cs b hoj) hQ hy h1
     have hfree':∀k ok,ops[k]?=some ok->k≠i->(listed.setIfInBounds j true).getD k true=false ->
      (∀e ∈ ok.after,Region.binds md e=true->e.on≠i)->oi.apart ops ok=true:=λk ok hk hki hun hno=>by
      refine hfree k ok hk hki ?_ hno
      by_cases hjk:j=k
      . subst hjk;exact hjun
      . rw[Go.getD_set_ne true hjk] at hun;exact hun
     refine wpOp_mono (λb u h3=>⟨h3.2.1,ih (listed.setIfInBounds j true) b u hfree' (ready_mono hr (Ne.symm hji)) (λk hk=>by rw[Go.getD_set_ne true (show j≠k from λe=>hnw (Or.inl (by rw[e];exact hk)))];exact hcl k hk) h3.1 (h3.2.1 hjs) ?_⟩) h2;rw[Array.setIfInBounds_comm _ _ hji];exact h3.2.2
theorem rY {i:Nat}(C:List Nat) {oi:Oper}{v:Value}{fuel:Nat}{listed:Array Bool}{a:Act}{w:World}(hi:ops[i]?=some oi)
 (hs:Region.noSelect ops=true) (hf:Region.free md ops listed i=true) (hr:(Region.ready md ops listed).contains i=true) (hw:waits md ops i stop C=true) (hun:FZ listed C=true)
 (hQ:∀c a w,Q (.panic c) (a.put oi.dst v) w->Q (.panic c) a w) (hy:YieldsIf P ops S oi v a) (hS:S w)
 (h:iy P md ops Q S stop fuel (listed.setIfInBounds i true) (a.put oi.dst v) w):iy P md ops Q S stop (fuel+1) listed a w :=
 F3 hi (Region.noSelect_spec hs) hQ hw fuel listed a w (Region.free_spec hi hf) (by simpa using hr) (λk hk=>by have:=(List.all_eq_true.1 hun) k hk;simpa using this) hy hS h
theorem tk(i:Nat)(C:List Nat){oi:Oper}{v:Value}{fuel:Nat}{listed:Array Bool}{a:Act}{w:World}(hi:ops[i]?=some oi)(hS:S w)(h:iy P md ops Q S stop fuel (listed.setIfInBounds i true) (a.put oi.dst v) w)(hy:∀w,S w->(execOp a.eval oi).run P w=.ok (.value v) w:=by intro u hSu;(try dsimp only at hSu);first|(go_simp;done)|(go_simp;with_reducible rfl))(hs:Region.noSelect ops=true:=by kernel_rfl)(hf:Region.free md ops listed i=true:=by kernel_rfl)(hr:(Region.ready md ops listed).contains i=true:=by kernel_rfl)(hw:waits md ops i stop C=true:=by kernel_rfl)(hun:FZ listed C=true:=by kernel_rfl)(hQ:∀c a w,Q (.panic c) (a.put oi.dst v) w->Q (.panic c) a w:=by exactλ_ _ _ h=>h)(h1:Region.wanted oi (yielded ops a.tmps)=true:=by rfl):iy P md ops Q S stop (fuel+1) listed a w:=rY C hi hs hf hr hw hun hQ (Or.inl ⟨h1,hy⟩) hS h
theorem sa{α:Type _}{l:List α}{i:Nat}{a:α}:l.toArray.setIfInBounds i a=(l.set i a).toArray:=List.setIfInBounds_toArray _ _ _
theorem sb{α:Type _}{x a:α}{l:List α}:(x::l).set 0 a=a::l:=rfl
theorem sc{α:Type _}{x a:α}{l:List α}{n:Nat}:(x::l).set (n+1) a=x::l.set n a:=rfl
theorem dG {i:Nat}{o:Oper}{fuel:Nat}{listed:Array Bool}{a:Act}{w:World}(hr:Region.ready md ops listed=[i]) (ho:ops[i]?=some o)
 (h:∀K':Act->World->Prop,Shut (∀b u,(i<stop->S u)->iy P md ops Q S stop fuel (listed.setIfInBounds i true) b u->K' b u)->if Region.wanted o (yielded ops a.tmps)=true then Oper.wp P o a w K' Q else K' (a.put o.dst undef) w):iy P md ops Q S stop (fuel+1) listed a w :=
 ⟨λh0=>(by rw[hr] at h0;cases h0),λj hj=>by
  rw[hr] at hj;obtain rfl:=Ar.1 hj
  exact wpOp_step ho (λK' hK=>h K' (λb u h1 h2=>hK b u ⟨h1,h2⟩))⟩
theorem nV{listed:Array Bool}{a:Act}{w:World}(hr:Region.ready md ops listed=[])(h:Q .normal a w):∀fuel,iy P md ops Q S stop fuel listed a w
 | 0=>⟨hr,h⟩
 | _+1=>⟨λ_=>h,by rw[hr];simp⟩
end
end
section
open Go.RowKit
theorem RU (g:Nat) (L xs:List Nat) (V T:Int) (s:Sp) (k:Nat) (ng:Bool) (ao:Option Addr) (n cap p:Nat) (w:World) (hs:s.ok) (hk:k<=5) (hA:Ac w g L s) (hl:L.length=133) (hL:Wf L) (hv:(val L:Int)=V%(PB:Int)) (h0:-(HB:Int)<V) (h1:V<(HB:Int))
 (hx:Arg w ao n cap xs) (hp:p+32*n<=4256) (hT:lJ ng (val xs*2^p)=T) (hT0:-(HB:Int)<T) (hT1:T<(HB:Int)) :
 As 172 #[.pointer (some ⟨g,0,none⟩),.agg #[.int .i64 (k:Nat),.bool ng,.slice ao n cap,.int .i64 (p:Nat)]] w (Did g w (Ab V s k T)):=by
 obtain⟨t,ht⟩:=ah (s.cnt k 1);obtain⟨X,hX⟩:=ah (Ab V s k T);rw[<-hX];have HC:=hid (λu:World=>FH s k 1 u hk hs aM aM);rw[<-ht] at HC;obtain⟨sn,su,sd,sm,sp,sa⟩:=s;obtain⟨tn,tu,td,tm,tp,ta⟩:=t;have HR:Aside (Ac w g L ⟨sn,su,sd,sm,sp,sa⟩/\L.length=133/\Wf L/\(val L:Int)=V%(PB:Int)/\-(HB:Int)<V/\V<(HB:Int)/\Arg w ao n cap xs/\p+32*n<=4256/\lJ ng (val xs*2^p)=T/\-(HB:Int)<T/\T<(HB:Int)):=⟨hA,hl,hL,hv,h0,h1,hx,hp,hT,hT0,hT1⟩;have HX:Aside (X=Ab V ⟨sn,su,sd,sm,sp,sa⟩ k T/\⟨tn,tu,td,tm,tp,ta⟩=Sp.cnt ⟨sn,su,sd,sm,sp,sa⟩ k 1):=⟨hX,ht⟩;simp only[Sp.agg] at HC;clear hA hl hL hv h0 h1 hx hp hT hT0 hT1 hX ht hs;go_enter Tryz.func172,Tryz.ntmps172;have a5:=HR.o.1.cell HR.o.2.1 5 _ rfl;have alt:=HR.o.1.lt
 by_cases hmax:sa=1099511627776
 . subst hmax;go_wp2;go_ret;rw[HX.o.1];unfold Ab;rw[if_pos rfl];obtain⟨hA,hl,hL,hv,h0,h1,_⟩:=HR.o;exact⟨rfl,⟨L,hl,hL,hv,h0,h1,hA.alloc _⟩,(But.refl g w).pR (aC _ _)⟩
 have hmax':(sa==1099511627776)=false:=by simpa using hmax
 go_wp2
 have HP:Aside (X=Bn V ⟨sn,su,sd,sm,sp,sa⟩ T ⟨tn,tu,td,tm,tp,ta⟩):=by
  refine ak ?_;rw[HX.o.1,HX.o.2];unfold Ab;rw[if_neg hmax]
 obtain⟨w1,hw1⟩:=ah (w.alloc (Obj.cells #[.int .i64 (k:Nat),.bool ng,.slice ao n cap,.int .i64 (p:Nat)] 203));rw[<-hw1]
 have H1:Aside (Bl w1 w.heap.size 203 [.int .i64 (k:Nat),.bool ng,.slice ao n cap,.int .i64 (p:Nat)]/\An w w1/\w1.heap.size=w.heap.size+1):=by
  subst hw1;exact⟨Bl.new w 203 [_,_,_,_],aC _ _,aN⟩
 clear hw1 hmax hmax' a5 alt;have hu:=Tryz.jS;have hsz:(Tryz.prog.info? 198).map (·.size)=some (L.map U).length:=by rw[Tryz.jR,mZ,HR.o.2.1]
 have A0:=ak (HR.o.1.below H1.o.2.1 HR.o.1.lt);have BB:Aside (An w1 w1.drew):=(aD _ _).drew;have kS:=Ck (A0.o.drew.range) (A0.o.drew.cell HR.o.2.1 0 _ rfl) (A0.o.drew.cell HR.o.2.1 1 _ rfl) (A0.o.drew.cell HR.o.2.1 2 _ rfl) (A0.o.drew.cell HR.o.2.1 3 _ rfl) (A0.o.drew.cell HR.o.2.1 4 _ rfl) (A0.o.drew.cell HR.o.2.1 5 _ rfl) (H1.o.1.drew.four);have HW:=hid (fun(u:World) (hb:An w1 u)=>Q6 L xs ao n cap p (k:Nat) ng u HR.o.2.1 HR.o.r2.1 ((HR.o.r6.1.below H1.o.2.1).below hb) HR.o.r7.1)
 have hTT:Aside (lJ ng (val xs*2^p)=T/\-(HB:Int)<T/\T<(HB:Int)):=by
  have h:=HR.o.r8;refine⟨?_,ae,ae⟩
  first | exact h.1 | (rw[<-h.1];cases ng <;> simp[lJ])
 refine kR (λw'=>w'.rangeAt g 0 (L.map U)/\w'.cell? ⟨g,133,none⟩=some (.int .i64 sn)/\w'.cell? ⟨g,134,none⟩=some (.int .i64 su)/\w'.cell? ⟨g,135,none⟩=some (.int .i64 sd)/\w'.cell? ⟨g,136,none⟩=some (.int .i64 sm)/\w'.cell? ⟨g,137,none⟩=some (.int .i64 sp)/\w'.cell? ⟨g,138,none⟩=some (.int .i64 sa)/\w'.cell? ⟨w.heap.size,0,none⟩=some (.int .i64 (k:Nat))/\w'.cell? ⟨w.heap.size,1,none⟩=some (.bool ng)/\w'.cell? ⟨w.heap.size,2,none⟩=some (.slice ao n cap)/\w'.cell? ⟨w.heap.size,3,none⟩=some (.int .i64 (p:Nat))) 14 mW ?_
 refine tk 0 [] rfl kS.o ?_;try simp only[Act.put,sa,sb,sc]
 refine tk 1 [2,3,4,6] rfl kS.o ?_;try simp only[Act.put,sa,sb,sc]
 refine tk 2 [3,4,6] rfl kS.o ?_;try simp only[Act.put,sa,sb,sc]
 refine tk 3 [4,6] rfl kS.o ?_;try simp only[Act.put,sa,sb,sc]
 refine rY (i:=4) [6] rfl mW mW mW mW mW (λ_ _ _ h=>h) (yieldsIf_load_mid (by rfl) _ _ rfl g 0 rfl (L.map U) _ (λu h=>h.1) hu rfl hsz) kS.o ?_
 try simp only[Act.put,sa,sb,sc]
 refine tk 5 [6] rfl kS.o ?_;try simp only[Act.put,sa,sb,sc]
 refine tk 7 [8,9,10,13] rfl kS.o ?_;try simp only[Act.put,sa,sb,sc]
 refine tk 8 [9,10,13] rfl kS.o ?_;try simp only[Act.put,sa,sb,sc]
 refine tk 9 [10,13] rfl kS.o ?_;try simp only[Act.put,sa,sb,sc]
 refine tk 10 [13] rfl kS.o ?_;try simp only[Act.put,sa,sb,sc]
 refine tk 11 [12,13] rfl kS.o ?_;try simp only[Act.put,sa,sb,sc]
 refine tk 12 [13] rfl kS.o ?_;try simp only[Act.put,sa,sb,sc]
 refine dG (i:=6) mW rfl (λK' hK=>?_);go_simp;refine(HW.o _ BB.o).mono ?_;rintro r u1 ⟨M,rfl,dx,bC,q9,hb⟩;have HM:=gp dx bC q9;have BB:=ak (BB.o.trans (hb.mono BB.o.size));have A1:=A0.o.below BB.o A0.o.lt;have Z1:=H1.o.1.below BB.o H1.o.1.lt;have kS:=Ck (A1.range) (A1.cell HR.o.2.1 0 _ rfl) (A1.cell HR.o.2.1 1 _ rfl) (A1.cell HR.o.2.1 2 _ rfl) (A1.cell HR.o.2.1 3 _ rfl) (A1.cell HR.o.2.1 4 _ rfl) (A1.cell HR.o.2.1 5 _ rfl) (Z1.four);clear hb A1 Z1 dx bC q9;dsimp only;refine hK.out _ _ (λ_=>kS.o) ?_;clear hK K'
 try simp only[Act.put,sa,sb,sc]
 refine dG (i:=13) mW rfl (λK' hK=>?_);go_simp;refine(HC.o _).mono ?_;rintro r u2 ⟨rfl,hb⟩;have BB:=ak (BB.o.trans (hb.mono BB.o.size));have A1:=A0.o.below BB.o A0.o.lt;have Z1:=H1.o.1.below BB.o H1.o.1.lt;have kS:=Ck (A1.range) (A1.cell HR.o.2.1 0 _ rfl) (A1.cell HR.o.2.1 1 _ rfl) (A1.cell HR.o.2.1 2 _ rfl) (A1.cell HR.o.2.1 3 _ rfl) (A1.cell HR.o.2.1 4 _ rfl) (A1.cell HR.o.2.1 5 _ rfl) (Z1.four);clear hb A1 Z1;dsimp only;refine hK.out _ _ (λ_=>kS.o) ?_;clear hK K'
 try simp only[Act.put,sa,sb,sc]
 refine dG (i:=14) mW rfl (λK' hK=>?_);go_simp;have CB:=Jq g L M V T ⟨sn,su,sd,sm,sp,sa⟩ ⟨tn,tu,td,tm,tp,ta⟩ u2 (A0.o.below BB.o A0.o.lt) HR.o.2.1 HR.o.r2.1 HR.o.r3.1 HR.o.r4.1 HR.o.r5.1 HM.o.2.1 HM.o.1 (by rw[HM.o.r2,hTT.o.1,HR.o.r3.1,uV]) hTT.o.2.1 hTT.o.r2;rw[<-HP.o] at CB;simp only[Sp.agg] at CB;refine CB.mono ?_;rintro r u3 hD;have HD3:=ak hD;obtain⟨rfl,_,_⟩:=hD;clear CB;dsimp only;refine hK.out _ _ (λh=>absurd h aM) ?_;clear hK K'
 try simp only[Act.put,sa,sb,sc]
 refine dG (i:=15) mW rfl (λK' hK=>?_);go_simp;refine hK.out _ _ (λh=>absurd h aM) ?_;clear hK K';refine nV mW ?_ _;clear kS;go_wp2;go_ret;obtain⟨h1,h2,h3⟩:=HD3.o;exact⟨rfl,h2,((But.refl g w).pR H1.o.2.1).trans (((But.refl g w1).pR BB.o).trans h3)⟩
def sW(x:Nat):Bool:=decide (9223372036854775808<=x)
def eW(x:Nat):Nat:=x%9223372036854775808/4503599627370496
def fW(x:Nat):Nat:=x%4503599627370496
theorem iJ(x:Nat)(hx:x<18446744073709551616):x=B.bw (sW x) (eW x) (fW x)/\eW x<2048/\fW x<4503599627370496:=by
 unfold B.bw sW eW fW;refine⟨?_,ae,ae⟩
 by_cases h:9223372036854775808<=x
 . simp only[h,decide_true,gD];omega
 . simp only[h,decide_false,gF];omega
def j5(x:Nat):Int:=B.cls (eW x) (fW x)
def Ez(x:Nat):Int:=B.xp (eW x)
def wT(x:Nat):Nat:=(B.fr (eW x) (fW x)).toNat
def LF(x:Nat):Bool:=B.ng (sW x) (eW x) (fW x)
def pK(x y:Nat):Nat:=pk (max (j5 x) (j5 y)) (min (j5 x) (j5 y)) (!LF x==LF y)
def pT(x y:Nat):Int:=Y2 (max (j5 x) (j5 y)) (min (j5 x) (j5 y)) (!LF x==LF y) (wT x) (wT y) (Ez x+Ez y)
theorem Y4(hi lo:Int)(ng:Bool):pk hi lo ng<=5:=by
 unfold pk
 split
 . omega
 . split
   . split <;> omega
   . split
     . split <;> omega
     . omega
theorem yU(k:Nat)(hk:k=4238):HB=2^k:=by
 obtain⟨j,hj⟩:=ah (32*132);rw[Rb,IV,<-hj,show k=14+j by omega,aP]
theorem Bo(ng:Bool)(X B:Nat)(h:X<B):-(B:Int)<lJ ng X/\lJ ng X<(B:Int):=by cases ng <;> simp only[lJ,if_true,if_false] <;> constructor <;> (try simp) <;> omega
theorem Qb3{P:Prop}(h:P:=by
 refine gT (fK h1 (bG _)) ?_;rw[<-aP];exact fD aM (by unfold Ez;omega)):P:=h
theorem Qa2{P:Prop}(h:P:=by
 have:wT x*wT y<=9007199254740991*9007199254740991:=kF (by unfold wT;omega) (by unfold wT;omega);exact iC this aM):P:=h
theorem RV(x y:Nat)(hx:x<18446744073709551616)(hy:y<18446744073709551616):-(HB:Int)<pT x y/\pT x y<(HB:Int):=by
 unfold pT Y2;have hp:=uW
 split
 . refine Bo _ _ _ ?_;have f1:=nD (eW x) (fW x) (iJ x hx).2.2;have f2:=nD (eW y) (fW y) (iJ y hy).2.2;have x1:=nC (eW x) (iJ x hx).2.1;have x2:=nC (eW y) (iJ y hy).2.1
   have h1:wT x*wT y<2^106:=by
    exact Qa2
   obtain⟨k,hk⟩:∃k,k=4238:=⟨_,rfl⟩;rw[yU k hk];exact Qb3
 . constructor <;> omega
theorem RX(x y:Nat)(hx:x<18446744073709551616)(hy:y<18446744073709551616)(w:World) :
 As 203 #[.float .f64 x,.float .f64 y] w λr w'=>∃v,r=.returned v/\Th w.heap.size w' v (pK x y) (pT x y)/\An w w':=by
 obtain⟨a1,a2,a3⟩:=iJ x hx;obtain⟨b1,b2,b3⟩:=iJ y hy;have h1:=LC (sW x) (eW x) (fW x) a2 a3;have h2:=LC (sW y) (eW y) (fW y) b2 b3;rw[<-a1] at h1;rw[<-b1] at h2;exact FW x y _ _ _ _ _ _ _ _ w h1 h2 (nC _ a2) (nC _ b2) (nD _ _ a3) (nD _ _ b3)
theorem Wt(x:Nat)(hx:x<18446744073709551616)(w:World) :
 As 173 #[.float .f64 x] w λr w'=>∃v,r=.returned v/\Th w.heap.size w' v (pK x 4607182418800017408) (pT x 4607182418800017408)/\An w w':=by
 have HP:=hid (λu:World=>RX x 4607182418800017408 hx aM u);clear hx;go_enter Tryz.func173,Tryz.ntmps173;go_wp2_with fail;refine(HP.o _).mono ?_;rintro r w1 ⟨v,rfl,hT,hb⟩;obtain⟨ng,a,n,c,p,xs,hlo,rfl,hA,hp,hv⟩:=hT;have HL:=ak hlo;have Z:=ak ((Bl.new w 203 [Value.int .i64 0,Value.bool false,Value.slice none 0 0,Value.int .i64 0]).below hb aN);have HA:=iN hA hp hv hb;obtain⟨z0,z1,z2,z3⟩:=Z.o.four;have g0:=Z.o.frozen 0;have g1:=Z.o.frozen 1;have g2:=Z.o.frozen 2;have g3:=Z.o.frozen 3;clear hA hp hv hb hlo;go_wp2;obtain⟨w5,nO⟩:=ah (((((w1.setCell ⟨w.heap.size,0,none⟩ (.int .i64 (pK x 4607182418800017408:Nat))).setCell ⟨w.heap.size,1,none⟩ (.bool ng)).setCell ⟨w.heap.size,2,none⟩ (.slice a n c)).setCell ⟨w.heap.size,3,none⟩ (.int .i64 (p:Nat))));rw[<-nO];have q:Bl w5 w.heap.size 203 [.int .i64 (pK x 4607182418800017408:Nat),.bool ng,.slice a n c,.int .i64 (p:Nat)]:=by rw[nO];exact FU Z.o
 have aI:But w.heap.size w1 w5:=by rw[nO];exact((((But.refl _ w1).set 0 _).set 1 _).set 2 _).set 3 _
 have hBw:An w w1:=(aC w _).trans (HA.o.r3.mono aN);have qb:An w w5:=But.below hBw aI hBw.size (aA _);clear nO;obtain⟨q0,q1,q2,q3⟩:=q.four;refine aH (v:=.agg #[.int .i64 (pK x 4607182418800017408:Nat),.bool ng,.slice a n c,.int .i64 (p:Nat)]) (by simp[results,Tryz.results173,go_sem,q0,q1,q2,q3]) rfl ?_;refine⟨_,rfl,⟨ng,a,n,c,p,xs,λad e=>?_,rfl,?_,HA.o.2.1,HA.o.r2.1⟩,qb⟩
 . have:=HL.o ad e;simp at this;omega
 . obtain⟨r1,r2,r3,r4,r5,r6⟩:=HA.o.1;refine⟨r1,r2,r3,r4,λhne=>?_,r6⟩;obtain⟨b,off,hlt,rfl,hc⟩:=r5 hne;have hbb:=HL.o _ rfl;simp at hbb;refine⟨b,off,gT hlt aI.size,rfl,λi hi=>?_⟩;rw[<-hc i hi];exact sV (a:=⟨b,off+i,none⟩) (aI.block b hlt ae)
theorem put7(g:Nat)(V T:Int)(s:Sp)(k lo:Nat)(v:Value)(w:World)(hA:ry w g V s)(hs:s.ok)(hk:k<=5)(ht:Th lo w v k T)(h0:-(HB:Int)<T)(h1:T<(HB:Int)) :
 As 172 #[.pointer (some ⟨g,0,none⟩),v] w (Did g w (Ab V s k T)):=by
 obtain⟨L,a1,a2,a3,a4,a5,a6⟩:=hA;obtain⟨ng,a,n,c,p,xs,_,rfl,hx,hp,hv⟩:=ht;exact RU g L xs V T s k ng a n c p w hs hk a6 a1 a2 a3 a4 a5 hx hp hv h0 h1
theorem Add7(g:Nat)(V:Int)(s:Sp)(x:Nat)(w:World)(hA:ry w g V s)(hs:s.ok)(hx:x<18446744073709551616) :
 As 124 #[.pointer (some ⟨g,0,none⟩),.float .f64 x] w (Did g w (Ab V s (pK x 4607182418800017408) (pT x 4607182418800017408))):=by
 obtain⟨X,hX⟩:=ah (Ab V s (pK x 4607182418800017408) (pT x 4607182418800017408));rw[<-hX];have HP:=hid (λu:World=>Wt x hx u);have HB:=ak (RV x 4607182418800017408 hx aM);have HA:=gp hA hs hX;clear hA hs hX hx;go_enter Tryz.func124,Tryz.ntmps124;go_wp2_with fail;refine(HP.o _).mono ?_;rintro r w1 ⟨v,rfl,hT,hb⟩;have HT:=bA hT hb;clear hT hb;go_wp2_with fail;have CP:=put7 g V (pT x 4607182418800017408) s (pK x 4607182418800017408) w.heap.size v w1 (HA.o.1.aF HT.o.2) HA.o.2.1 (Y4 _ _ _) HT.o.1 HB.o.1 HB.o.2;rw[<-HA.o.r2] at CP;refine CP.mono ?_;rintro r w2 hD;have HD:=ak hD;obtain⟨rfl,_,_⟩:=hD;clear CP;go_wp2;go_ret;exact⟨rfl,HD.o.2.1,((But.refl g w).pR HT.o.2).trans HD.o.r2⟩
theorem RY(N:Nat)(V:Int)(h:(N:Int)=V%(PB:Int))(h0:-(HB:Int)<V)(h1:V<(HB:Int)):uX N=decide (V<0)/\Rh N=V.natAbs:=by
 have e:=Y3;have hp:=uW;unfold Rh uX
 by_cases hv:0<=V
 . rw[wz hv ae] at h;rw[decide_eq_false ae,decide_eq_false ae];refine⟨rfl,?_⟩;rw[if_neg aM];omega
 . have h2:V%(PB:Int)=V+PB:=by
    rw[<-Int.add_emod_right,wz ae ae]
   rw[h2] at h;rw[decide_eq_true ae,decide_eq_true ae];refine⟨rfl,?_⟩;rw[if_pos rfl];omega
def ig(V:Int):Option (Bool×Nat×Int):=mkS (decide (V<0)) V.natAbs (-2148)
theorem _root_.Nat.le.ne7{a b c:Nat}(h:a<=b)(e:a=c+1):b≠c:=ae
theorem Nt.lo7{lo k:Nat}{w:World}{v:Value}{X:Nat}(h:Nt lo w v X)(hk:k<=lo):k<=lo:=hk
theorem Tryz.yV:∃d:TypeDesc,Tryz.prog.underlying 79=some d/\d.isRow=true:=by
 have h:(Tryz.prog.underlying 79).any (·.isRow)=true:=by kernel_rfl
 obtain⟨d,h1,h2⟩:=(Option.any_eq_true _ _).1 h;exact⟨d,h1,h2⟩
theorem Tryz.ve:(Tryz.prog.info? 79).map (·.size)=some 3:=by kernel_rfl
theorem rZ {fn:Func}{p:Tmp}{ty:TypeId}(h:fn.results=#[.cell p ty]) (tmps:Array Value) (w:World) (g:Nat) (cs:List Value)
 (hp:tmps.getD p undef=.pointer (some ⟨g,0,none⟩)) (hg:Bl w g ty cs) (hdr:∃d:TypeDesc,Tryz.prog.underlying ty=some d/\d.isRow=true) (hi:(Tryz.prog.info? ty).map (·.size)=some cs.toArray.size) :
 (results fn tmps).run Tryz.prog w=.ok (.agg cs.toArray) w:=by
 obtain⟨d,h1,h2⟩:=hdr
 cases d <;> first
  | exact results_cell_row (P:=Tryz.prog) h tmps w g ty _ _ _ hp hg h1 rfl hi
  | exact absurd h2 (by simp[TypeDesc.isRow])
theorem F4 {w base:World}{tmps:Array Value}{o:Option (Bool×Nat×Int)}{v x y z:Value}{lo:Nat}(h2:tmps.getD 2 undef=.pointer (some ⟨w.heap.size,0,none⟩))
 (hZ:Bl base w.heap.size 79 [x,y,z]) (hbw:An w base) (hN:Nt lo base v (dX o)) (hlo:w.heap.size<lo) :
 bodyPost Tryz.prog Tryz.f125 (λr w'=>∃v,r=.returned (.agg #[.bool (dN o),v,.int .i64 (dE o)])/\Nt w.heap.size w' v (dX o)/\An w w') .ret ⟨tmps,[]⟩
  (((base.setCell ⟨w.heap.size,0,none⟩ (.bool (dN o))).setCell ⟨w.heap.size,1,none⟩ v).setCell ⟨w.heap.size,2,none⟩ (.int .i64 (dE o))):=by
 have q:Bl (((base.setCell ⟨w.heap.size,0,none⟩ (.bool (dN o))).setCell ⟨w.heap.size,1,none⟩ v).setCell ⟨w.heap.size,2,none⟩ (.int .i64 (dE o))) w.heap.size 79 [.bool (dN o),v,.int .i64 (dE o)]:=((hZ.set 0 _).set 1 _).set 2 _;have aI:But w.heap.size base (((base.setCell ⟨w.heap.size,0,none⟩ (.bool (dN o))).setCell ⟨w.heap.size,1,none⟩ v).setCell ⟨w.heap.size,2,none⟩ (.int .i64 (dE o))):=(((But.refl _ _).set 0 _).set 1 _).set 2 _;refine aH (v:=.agg #[.bool (dN o),v,.int .i64 (dE o)]) (rZ Tryz.results125 _ _ w.heap.size [.bool (dN o),v,.int .i64 (dE o)] h2 q Tryz.yV (by rw[Tryz.ve];rfl)) rfl ?_;exact⟨v,rfl,(hN.RP aI hlo).mono ae,But.below hbw aI hbw.size (aA _)⟩
theorem Dj {w base:World}{tmps:Array Value}{o:Option (Bool×Nat×Int)}{v x y z:Value}{lo:Nat}{ob:Obj}(h2:tmps.getD 2 undef=.pointer (some ⟨w.heap.size,0,none⟩))
 (hZ:Bl base w.heap.size 79 [x,y,z]) (hbw:An w base) (hN:Nt lo base v (dX o)) (hlo:w.heap.size<lo) :
 bodyPost Tryz.prog Tryz.f125 (λr w'=>∃v,r=.returned (.agg #[.bool (dN o),v,.int .i64 (dE o)])/\Nt w.heap.size w' v (dX o)/\An w w') .ret ⟨tmps,[]⟩
  ((((base.setCell ⟨w.heap.size,0,none⟩ (.bool (dN o))).setCell ⟨w.heap.size,1,none⟩ v).setCell ⟨w.heap.size,2,none⟩ (.int .i64 (dE o))).alloc ob):=by
 have q:Bl (((base.setCell ⟨w.heap.size,0,none⟩ (.bool (dN o))).setCell ⟨w.heap.size,1,none⟩ v).setCell ⟨w.heap.size,2,none⟩ (.int .i64 (dE o))) w.heap.size 79 [.bool (dN o),v,.int .i64 (dE o)]:=((hZ.set 0 _).set 1 _).set 2 _;have aI:But w.heap.size base (((base.setCell ⟨w.heap.size,0,none⟩ (.bool (dN o))).setCell ⟨w.heap.size,1,none⟩ v).setCell ⟨w.heap.size,2,none⟩ (.int .i64 (dE o))):=(((But.refl _ _).set 0 _).set 1 _).set 2 _;have hW:=But.below hbw aI hbw.size (aA _);refine aH (v:=.agg #[.bool (dN o),v,.int .i64 (dE o)]) (rZ Tryz.results125 _ _ w.heap.size [.bool (dN o),v,.int .i64 (dE o)] h2 (q.alloc ob) Tryz.yV (by rw[Tryz.ve];rfl)) rfl ?_;exact⟨v,rfl,((hN.RP aI hlo).mono ae).below (aC _ _),hW.trans ((aC _ _).mono hW.size)⟩
theorem Z4(g:Nat)(V:Int)(s:Sp)(w:World)(hA:ry w g V s)(hT:gP w):As 125 #[.pointer (some ⟨g,0,none⟩)] w λr w' =>
 ∃v,r=.returned (.agg #[.bool (dN (ig V)),v,.int .i64 (dE (ig V))])/\Nt w.heap.size w' v (dX (ig V))/\An w w':=by
 obtain⟨o,ho⟩:=ah (ig V);rw[<-ho];obtain⟨L,a1,a2,a3,a4,a5,a6⟩:=hA;have hnm:=RY (val L) V a3 a4 a5;have HA:=kz a1 a2 a6.hd hT ho hnm;have hlt:=a6.lt;clear a1 a2 a3 a4 a5 a6 hT ho hnm;have HLT:=ak hlt;clear hlt;obtain⟨W1,hW1⟩:=ah (w.alloc (.cells zD3 79))
 have H1:Aside (An w W1/\Bl W1 w.heap.size 79 [.bool false,.slice none 0 0,.int .i64 0]/\W1.heap.size=w.heap.size+1):=by
  subst hW1;exact⟨aC _ _,Bl.new _ 79 [_,_,_],aN⟩
 go_enter Tryz.func125,Tryz.ntmps125;go_wp2;rw[<-hW1];clear hW1;have BB:Aside (An W1 W1.drew):=(aD _ _).drew;have HH:Aside (∀W:World,An W1 W->Hd W g L):=λW h=>(HA.o.r2.1.below H1.o.1 HLT.o (aA _)).below h (gT HLT.o H1.o.1.size) (aA _);have HTT:Aside (∀W:World,An W1 W->gP W):=λW h=>(HA.o.r3.1.belows H1.o.1).belows h
 go_region_with (first
  | (go_at_call 174
     with_reducible refine(Bc g L _ HA.o.1 HA.o.2.1 (HH.o _ (by first | exact BB.o | exact BB.o.trans ((aC _ _).mono BB.o.size) | exact(aC _ _).drew))).mono ?_
     rintro r u ⟨rfl,rfl⟩)
  | (go_at_call 175
     with_reducible refine(Nu L g _ HA.o.1 HA.o.2.1 (HH.o _ (by first | exact BB.o | exact BB.o.trans ((aC _ _).mono BB.o.size) | exact(aC _ _).drew))).mono ?_
     rintro r u ⟨b,cap,M,rfl,hM,q9,hb⟩;have hu:An W1 u:=by first | exact BB.o.trans (hb.mono BB.o.size) | exact(BB.o.trans ((aC _ _).mono BB.o.size)).trans (hb.mono (by have:=BB.o.size;simp;omega)) | exact((aC _ _).drew).trans (hb.mono aN)
     try have DZ:=bA (DZ.o.1.below hb DZ.o.1.lt) DZ.o.2
     try have DZ:=bA ((Bl.new _ 79 [Value.bool false,Value.slice none 0 0,Value.int .i64 0]).below hb aN) BB.o.size
     try have DZ:=bA ((Bl.new W1 79 [Value.bool false,Value.slice none 0 0,Value.int .i64 0]).drew.below hb aN) (aA W1.heap.size)
     have BB:=ak hu;have HM:=bA hM (show mkS (uX (val L)) (val M) (-2148)=o by rw[HA.o.r4.1,q9,HA.o.r5.1,HA.o.r6];rfl)
     clear hM q9 hb hu)
  | (go_at_call 94
     with_reducible refine(fZ (by first | exact HM.o.1 | exact HM.o.1.below (aC _ _)) (HTT.o _ (by first | exact BB.o | exact BB.o.trans ((aC _ _).mono BB.o.size) | exact(aC _ _).drew)) (uX (val L)) (-2148) aM aM).mono ?_
     rintro r u ⟨hD,hb⟩;rw[HM.o.2] at hD;obtain⟨v,rfl,hN⟩:=hD
     try have DL:=ak DZ.o.1.lt
     have hu:An W1 u:=by first | exact BB.o.trans (hb.mono BB.o.size) | exact(BB.o.trans ((aC _ _).mono BB.o.size)).trans (hb.mono (by have:=BB.o.size;simp;omega)) | exact((aC _ _).drew).trans (hb.mono aN)
     try have DZ:=bA (DZ.o.1.below hb DZ.o.1.lt) DZ.o.2
     try have DZ:=bA ((Bl.new _ 79 [Value.bool false,Value.slice none 0 0,Value.int .i64 0]).below hb aN) BB.o.size
     try have DZ:=bA ((Bl.new W1 79 [Value.bool false,Value.slice none 0 0,Value.int .i64 0]).drew.below hb aN) (aA W1.heap.size)
     have Ex:=ai hN (hN.lo7 (k:=W1.heap.size) (by first | exact BB.o.size | (have:=BB.o.size;simp;omega)))
     obtain⟨a,c,rfl,_⟩:=hN.arg (by
      refine dB ((aS _ 133).2 ?_) aM;have e:=HM.o.2;have hm:=dh M HM.o.1.wf;rw[<-HM.o.1.len] at hm;rw[<-e];refine iC ?_ hm;unfold mkS dX
      split
      . exact lD _
      . split
        . exact lD _
        . exact o8 _ _)
     have HN:=bA Ex hu;have Z:=ak (H1.o.2.1.below hu (by have:=H1.o.r2;omega));have z0:=Z.o.cell 0 _ rfl;have z1:=Z.o.cell 1 _ rfl;have z2:=Z.o.cell 2 _ rfl;have g0:=Z.o.frozen 0;have g1:=Z.o.frozen 1;have g2:=Z.o.frozen 2
     try have d0:=DZ.o.1.cell 0 _ rfl
     try have d1:=DZ.o.1.cell 1 _ rfl
     try have d2:=DZ.o.1.cell 2 _ rfl
     try have e0:=DZ.o.1.frozen 0
     try have e1:=DZ.o.1.frozen 1
     try have e2:=DZ.o.1.frozen 2
     have hlu:w.heap.size<u.heap.size:=Z.o.lt
     try have nx:=DZ.o.2.ne7 H1.o.r2
     try have ny:=nx.symm
     clear hN Ex hb hu))
 all_goals (
  clear HM HA HH HTT BB;go_wp2;have hW:An w u:=H1.o.1.trans (HN.o.2.mono H1.o.1.size);have hlo:=HN.o.1.2;have hl1:=H1.o.r2
  first
   | (with_reducible refine Dj (x:=.bool false) (y:=.slice none 0 0) (z:=.int .i64 0) ?_ Z.o hW HN.o.1.1 ae
      rfl)
   | (with_reducible refine F4 (x:=.bool false) (y:=.slice none 0 0) (z:=.int .i64 0) ?_ (Bl.but Z.o ((((But.refl _ _).set 0 _).set 1 _).set 2 _) ny) (But.below hW ((((But.refl _ _).set 0 _).set 1 _).set 2 _) hW.size (by have:=DZ.o.2;omega)) (HN.o.1.1.RP ((((But.refl _ _).set 0 _).set 1 _).set 2 _) (by first | exact DL.o | (simp;done) | (simp;omega))) ae
      rfl))
end
namespace B
theorem Js(s t:Bool)(e f u v:Nat)(he:e<2048)(hf:f<4503599627370496)(hu:u<2048)(hv:v<4503599627370496) :
 (FloatKind.f64.format.order (bw s e f) (bw t u v)==some .lt)=(!odd e f&&(!odd u v&&decide (pl s e f<pl t u v))):=by
 rw[ord s t e f u v he hf hu hv]
 cases odd e f <;> cases odd u v <;> simp
 by_cases h:pl s e f<pl t u v
 . rw[wF.2 h];simp[h]
 . rw[decide_eq_false h]
   by_cases h2:pl t u v<pl s e f
   . rw[wG.2 h2];rfl
   . rw[wH.2 ae];rfl
theorem RZ(s t:Bool)(e f u v:Nat)(he:e<2048)(hf:f<4503599627370496)(hu:u<2048)(hv:v<4503599627370496) :
 (FloatKind.f64.format.order (bw s e f) (bw t u v)==some .gt)=(!odd e f&&(!odd u v&&decide (pl t u v<pl s e f))):=by
 rw[ord s t e f u v he hf hu hv]
 cases odd e f <;> cases odd u v <;> simp
 by_cases h:pl t u v<pl s e f
 . rw[wG.2 h];simp[h]
 . rw[decide_eq_false h]
   by_cases h2:pl s e f<pl t u v
   . rw[wF.2 h2];rfl
   . rw[wH.2 ae];rfl
theorem Z5(s t:Bool)(e f u v:Nat)(he:e<2048)(hf:f<4503599627370496)(hu:u<2048)(hv:v<4503599627370496) :
 (FloatKind.f64.format.order (bw s e f) (bw t u v)==some .eq)=(!odd e f&&(!odd u v&&decide (pl s e f=pl t u v))):=by
 rw[ord s t e f u v he hf hu hv]
 cases odd e f <;> cases odd u v <;> simp
 by_cases h:pl s e f<pl t u v
 . rw[wF.2 h,decide_eq_false ae];rfl
 . by_cases h2:pl t u v<pl s e f
   . rw[wG.2 h2,decide_eq_false ae];rfl
   . rw[wH.2 ae,decide_eq_true ae];rfl
theorem Dl(e f:Nat)(h:e<2047):odd e f=false:=by
 have:(e==2047)=false:=by simp;omega
 simp[odd,this]
theorem R3(e:Nat):odd e 0=false:=by simp[odd]
theorem LH:bw false 0 0=0:=rfl
theorem Z6:bw false 2046 4503599627370495=9218868437227405311:=rfl
theorem Z7(s:Bool)(e f:Nat)(he:e<2048)(hf:f<4503599627370496) :
 (FloatKind.f64.format.order (bw s e f) 9218868437227405311==some .gt)=(!s&&(e==2047&&f==0)):=by
 have h:=RZ s false e f 2046 4503599627370495 he hf ae ae;rw[Z6] at h;rw[h,Dl 2046 _ ae]
 cases ho:odd e f
 . have:=gJ e f ho;rw[xO]
   cases s <;> simp[pl,sg] <;> omega
 . obtain⟨h1,h2⟩:=lK e f ho;have h3:(f==0)=false:=by simp[h2]
   simp[h1,h3]
theorem LJ(s:Bool)(e f:Nat)(he:e<2048)(hf:f<4503599627370496) :
 (FloatKind.f64.format.order (bw s e f) 0==some .eq)=(e==0&&f==0):=by
 have h:=Z5 s false e f 0 0 he hf ae ae;rw[LH] at h;rw[h,Dl 0 _ ae]
 cases ho:odd e f
 . rw[xO]
   cases s <;> simp[pl,sg] <;> omega
 . obtain⟨h1,h2⟩:=lK e f ho;have h3:(e==0)=false:=by simp[h1]
   simp[h3]
theorem LK(s:Bool)(e f:Nat)(he:e<2048)(hf:f<4503599627370496)(ho:odd e f=false)(hz:(e==0&&f==0)=false) :
 (FloatKind.f64.format.order (bw s e f) 0==some .lt)=s:=by
 have h:=Js s false e f 0 0 he hf ae ae;rw[LH] at h;rw[h,Dl 0 _ ae,ho];have hz':¬ (e=0/\f=0):=by rintro ⟨rfl,rfl⟩;simp at hz
 rw[xO]
 cases s <;> simp[pl,sg] <;> omega
theorem R4(s:Bool)(e f:Nat)(he:e<2048)(hf:f<4503599627370496):bits .andNot .u64 ((bw s e f:Nat):Int) 9223372036854775808=(bw false e f:Int):=by
 have h:=u64_andNot_nat (bw s e f) 9223372036854775808 (pU s e f he hf) ae;rw[show(((9223372036854775808:Nat)):Int)=9223372036854775808 from rfl] at h;rw[h,show 18446744073709551615-9223372036854775808=2^63-1 from rfl,IM];congr 1;exact qt
def ky(s:Bool)(e f:Nat):Int:=if e=2047/\f≠0 then 9221120237041090560 else if s then -1-((e:Int)*4503599627370496+f) else(e:Int)*4503599627370496+f
def oc(a b:Int):Int:=if a<b then -1 else if b<a then 1 else 0
theorem R5{a b:Int}(h:a<b):oc a b=-1:=if_pos h
theorem R6{a b:Int}(h:b<a):oc a b=1:=by unfold oc;rw[if_neg ae,if_pos h]
theorem oc_eq{a b:Int}(h:a=b):oc a b=0:=by unfold oc;rw[if_neg ae,if_neg ae]
theorem yX(s:Bool)(e f:Nat)(h:odd e f=true):ky s e f=9221120237041090560:=if_pos (lK e f h)
theorem Y5(s:Bool)(e f:Nat)(he:e<2048)(hf:f<4503599627370496)(h:odd e f=false):ky s e f<9221120237041090560:=by
 have:=gJ e f h;unfold ky;rw[if_neg this];split <;> omega
theorem tY(s:Bool)(e f:Nat)(h:odd e f=false):ky s e f=if s then -1-((e:Int)*4503599627370496+f) else(e:Int)*4503599627370496+f:=if_neg (gJ e f h)
theorem F5(s t:Bool)(e f u v:Nat)(h1:odd e f=false)(h2:odd u v=false)(h:pl s e f<pl t u v):ky s e f<ky t u v:=by
 rw[tY s e f h1,tY t u v h2];unfold pl sg at h
 cases s <;> cases t <;> simp at h |- <;> omega
theorem Z8(s t:Bool)(e f u v:Nat)(he:e<2048)(hf:f<4503599627370496)(hu:u<2048)(hv:v<4503599627370496)(h:bw s e f=bw t u v):s=t/\e=u/\f=v:=by
 unfold bw at h
 cases s <;> cases t <;> simp only[gD,gF] at h
 . exact⟨rfl,ae,ae⟩
 . omega
 . omega
 . exact⟨rfl,ae,ae⟩
theorem R7(s t:Bool)(e f u v:Nat)(he:e<2048)(hf:f<4503599627370496)(hu:u<2048)(hv:v<4503599627370496)(h:cb s e f=cb t u v):ky s e f=ky t u v:=by
 cases h1:odd e f
 . rw[iZ s e f (gJ e f h1)] at h
   cases h2:odd u v
   . rw[iZ t u v (gJ u v h2)] at h;obtain⟨rfl,rfl,rfl⟩:=Z8 s t e f u v he hf hu hv h;rfl
   . rw[mP t u v (lK u v h2)] at h;exact absurd h (qE s e f he hf h1)
 . rw[mP s e f (lK e f h1)] at h
   cases h2:odd u v
   . rw[iZ t u v (gJ u v h2)] at h;exact absurd h.symm (qE t u v hu hv h2)
   . rw[yX s e f h1,yX t u v h2]
theorem Wu(s t:Bool)(e f u v:Nat)(h1:odd e f=false)(h2:odd u v=false)(hne:¬ bw s e f=bw t u v)(h:pl s e f=pl t u v):(s=false->ky t u v<ky s e f)/\(s=true->ky s e f<ky t u v):=by
 rw[tY s e f h1,tY t u v h2];unfold bw at hne;unfold pl sg at h
 cases s <;> cases t <;> simp at h hne |- <;> omega
end B
section
open Go.RowKit
open Go.Proofs.YtjppdacikihpdaaGreatDoor.B (aW aJ bw)
attribute [local go_sem] aW aJ
def kn(a:Int):Bool:=decide (0<=a)&&decide (a<=2)
def may(a b:Int):Bool:=kn a&&kn b
def ct(a:Int):Bool:=decide (0<=a)&&decide (a<=1099511627776)
theorem z9{P:Prop}(h:P:=by
 go_ret;exact⟨by first | rfl | simp,rfl⟩):P:=h
theorem vg(a:Int)(w:World):Ax 139 #[.int .i64 a] w (.bool (kn a)):=by
 unfold kn
 by_cases h:0<=a
 . have hd:decide (0<=a)=true:=decide_eq_true h;rw[hd];go_enter Tryz.func139,Tryz.ntmps139;go_wp2;exact z9
 . have hd:decide (0<=a)=false:=decide_eq_false h;rw[hd];go_enter Tryz.func139,Tryz.ntmps139;go_wp2;exact z9
theorem rP(a:Int)(w:World):Ax 141 #[.int .i64 a] w (.bool (ct a)):=by
 unfold ct
 by_cases h:0<=a
 . have hd:decide (0<=a)=true:=decide_eq_true h;rw[hd];go_enter Tryz.func141,Tryz.ntmps141;go_wp2;exact z9
 . have hd:decide (0<=a)=false:=decide_eq_false h;rw[hd];go_enter Tryz.func141,Tryz.ntmps141;go_wp2;exact z9
theorem Dm(a b:Int)(w:World):At 85 #[.agg #[.int .i64 a,.int .i64 b]] w (.bool (may a b)):=by
 unfold may;rcases ha:kn a with _|_
 . have H:=hid (λw=>ha ▸ vg a w);clear ha;go_enter Tryz.func85,Tryz.ntmps85;go_wp2_with fail;refine(H.o _).mono ?_;rintro r w1 ⟨rfl,rfl⟩;go_wp2;go_ret;exact⟨rfl,(aD _ _).alloc (aA _) _⟩
 . have H:=hid (λw=>ha ▸ vg a w);have H2:=hid (λw=>vg b w);obtain⟨kb,hkb⟩:∃k,kn b=k:=⟨_,rfl⟩;rw[hkb] at H2 |-;clear ha hkb;go_enter Tryz.func85,Tryz.ntmps85;go_wp2_with fail;refine(H.o _).mono ?_;rintro r w1 ⟨rfl,rfl⟩;go_wp2_with fail;refine(H2.o _).mono ?_;rintro r w1 ⟨rfl,rfl⟩;go_wp2;go_ret;exact⟨by first | rfl | simp,(aD _ _).alloc (aA _) _⟩
theorem Bp(w:World):Ax 90 #[.float .f64 0,.float .f64 13830554455654793216] w (.float .f64 9223372036854775808):=by
 have h1:bits .andNot .u64 0 9223372036854775808=0:=by decide +kernel
 have h2:bits .and .u64 13830554455654793216 9223372036854775808=9223372036854775808:=by decide +kernel
 have h3:bits .or .u64 0 9223372036854775808=9223372036854775808:=by decide +kernel
 go_enter Tryz.func90,Tryz.ntmps90;go_wp2;exact Jx
open Go.RowKit
open Go.Proofs.YtjppdacikihpdaaGreatDoor.B (aW aJ bw bz)
attribute [local go_sem] aW aJ
def snd(n u d m p a:Int):Bool:=ct n&&ct u&&ct d&&(ct m&&ct p&&ct a)&&decide (n+u+d+m+p<=a)
theorem jB{n:Int}(h:ct n=true):0<=n/\n<=1099511627776:=by unfold ct at h;simpa using h
theorem Wv{n u d m p:Int}(i:Nat)(hi:i<5)(h:ct ([n,u,d,m,p].getD i 0)=false)(a:Int):snd n u d m p a=false:=by
 unfold snd;obtain rfl|rfl|rfl|rfl|rfl:i=0\/i=1\/i=2\/i=3\/i=4:=ae
 all_goals (simp at h;simp[h])
def ps(L:List Int)(i:Nat):Int:=(L.take i).sum
theorem Ww(L:List Int)(i:Nat)(h:i<L.length):ps L (i+1)=ps L i+L.getD i 0:=by
 unfold ps;rw[xU h,List.sum_append,bF,aY h];simp
theorem Qac{P:Prop}(h:P:=by
 rw[ha] at HA HS;clear ha;go_wp2_with fail;refine(HA.o _).mono ?_;rintro r w1 ⟨rfl,rfl⟩;go_wp2;go_ret;exact⟨by rw[HS.o];first | rfl | simp,hbel⟩):P:=h
theorem Ob(n u d m p a:Int)(w:World):At 89 #[.agg #[.int .i64 n,.int .i64 u,.int .i64 d,.int .i64 m,.int .i64 p,.int .i64 a]] w (.bool (snd n u d m p a)):=by
 obtain⟨L,hL⟩:∃L:List Int,L=[n,u,d,m,p]:=⟨_,rfl⟩;have hlen:L.length=5:=by rw[hL];rfl
 have HL:=(bA hL hlen);obtain⟨W,hW⟩:=ah ((w.alloc (.cells #[.int .i64 n,.int .i64 u,.int .i64 d,.int .i64 m,.int .i64 p,.int .i64 a] 72)).alloc (.cells #[.int .i64 n,.int .i64 u,.int .i64 d,.int .i64 m,.int .i64 p] 165))
 have hcell:∀i,i<5->W.cell? ⟨w.heap.size+1,i,none⟩=some (.int .i64 (L.getD i 0)):=by
  intro i hi;have h1:=iF (w.alloc (.cells #[.int .i64 n,.int .i64 u,.int .i64 d,.int .i64 m,.int .i64 p,.int .i64 a] 72)) (.cells #[.int .i64 n,.int .i64 u,.int .i64 d,.int .i64 m,.int .i64 p] 165);rw[<-hW] at h1;simp only[uL] at h1;subst hL;simp only[World.cell?,h1];obtain rfl|rfl|rfl|rfl|rfl:i=0\/i=1\/i=2\/i=3\/i=4:=ae
  all_goals simp
 have ha5:W.cell? ⟨w.heap.size,5,none⟩=some (.int .i64 a):=by rw[hW];simp[go_sem]
 have hbel:An w W:=by rw[hW];exact((aD _ _).alloc (aA _) _).alloc aN _
 have HC:=(iN hcell hbel hW ha5);clear hL hlen hcell hbel hW ha5;have HA:=hid (rP a);go_enter Tryz.func89,Tryz.ntmps89;go_wp2
 go_loopg [4,17] 5 (λgk sv iv wr=>∃i:Nat,gk+i=5/\sv=.int .i64 (ps L i)/\iv=.int .i64 (i:Nat)/\wr=W/\Aside (∀j,j<i->ct (L.getD j 0)=true)/\0<=ps L i/\ps L i<=(i:Int)*1099511627776)
 case atStart=>exact⟨0,rfl,rfl,rfl,by rw[HC.o.r2.1],λj hj=>absurd hj ae,by simp[ps],by simp[ps]⟩
 case round =>
  obtain⟨i,hi,rfl,rfl,rfl,HT,hp0,hp1⟩:=hrel;obtain⟨hcell,hbel,hW,ha5⟩:=HC.o
  by_cases hi5:i=5
  . obtain rfl:gk=0:=ae
    subst hi5
    have hs:snd n u d m p a=(ct a&&decide (ps L 5<=a)):=by
     have h0:=HT.o 0 ae;have h1:=HT.o 1 ae;have h2:=HT.o 2 ae;have h3:=HT.o 3 ae;have h4:=HT.o 4 ae;have e:=HL.o.1;subst e;have e2:ps [n,u,d,m,p] 5=n+u+d+m+p:=by simp[ps];omega
     rw[e2];simp at h0 h1 h2 h3 h4;unfold snd;rw[h0,h1,h2,h3,h4];simp
    obtain⟨q,hq⟩:∃q,ps L 5=q:=⟨_,rfl⟩;rw[hq] at hp0 hp1 hs |-;have HS:=ak hs;clear hcell hW hs hq;rcases ha:ct a with _|_
    . exact Qac
    . exact Qac
  . have hil:i<5:=ae
    have hci:=hcell i hil;have HK:=hid (rP (L.getD i 0));have hps:=Ww L i (by rw[HL.o.2];exact hil);obtain⟨x,hx⟩:∃x,L.getD i 0=x:=⟨_,rfl⟩;rw[hx] at hci HK hps;rcases hc:ct x with _|_
    . rw[hc] at HK
      have HS:Aside (snd n u d m p a=false):=by
       have h1:=hc;rw[<-hx,HL.o.1] at h1;exact Wv i hil h1 a
      have HB:=ak hbel;clear hcell hbel hW ha5 hps hx hc hi5 HC HL;go_wp2_with fail;refine(HK.o _).mono ?_;rintro r w1 ⟨rfl,rfl⟩;go_wp2;go_ret;exact⟨by rw[HS.o];rfl,HB.o⟩
    . rw[hc] at HK;have hb:=jB hc;obtain⟨q,hq⟩:∃q,ps L i=q:=⟨_,rfl⟩;obtain⟨q2,hq2⟩:∃q,ps L (i+1)=q:=⟨_,rfl⟩;rw[hq,hq2] at hps;rw[hq] at hp0 hp1 |-;have hq3:q+x=q2:=hps.symm
      have hq4:0<=q2/\q2<=((i:Int)+1)*1099511627776:=by
       have:((i:Int)+1)*1099511627776=(i:Int)*1099511627776+1099511627776:=ae
       omega
      have hq5:q2<=9223372036854775807:=ae
      have hq6:-9223372036854775808<=q2:=ae
      have HR:=(gy hq2 hq4 hx hc hq3);clear hcell hbel hW ha5 hps hx hc hi5 HC hq2 hq hp0 hp1 hb hq4;go_wp2_with fail;refine(HK.o _).mono ?_;rintro r w1 ⟨rfl,rfl⟩;go_wp2;go_roundg (5-(i+1))
      case measure=>omega
      case rel =>
       obtain⟨hq2,hq4,hx,hc,hq3⟩:=HR.o;refine⟨i+1,ae,?_,by first | go_num | (congr 1;omega),rfl,?_,by rw[hq2];exact hq4.1,by rw[hq2];have:=hq4.2;push_cast;exact this⟩
       . first | (rw[hq2];done) | (rw[hq2,<-hq3];done)
       . intro j hj
         by_cases hji:j=i
         . subst hji;rw[hx];exact hc
         . exact HT.o j ae
def nt(ok:Bool)(n u d m p a mode:Int):Nat :=
 if ok=false then 0 else if a-n-u-d=0 then 0 else if m=a-n-u-d then 9223372036854775808 else if p=a-n-u-d then 0 else if mode=3 then 9223372036854775808 else 0
theorem R8{n u d m p a:Int}(h:snd n u d m p a=true):(0<=n/\n<=1099511627776)/\(0<=u/\u<=1099511627776)/\(0<=d/\d<=1099511627776)/\(0<=a/\a<=1099511627776):=by
 unfold snd at h;simp only[yh] at h;exact⟨jB h.1.1.1.1,jB h.1.1.1.2,jB h.1.1.2,jB h.1.2.2⟩
end
section
open Go.RowKit
open Go.Proofs.YtjppdacikihpdaaGreatDoor.B (aW aJ bw bz)
attribute [local go_sem] aW aJ
theorem J1{P:Prop}(h:P:=by
 go_enter Tryz.func55,Tryz.ntmps55;go_wp2_with fail;refine(HS.o _).mono ?_;rintro r w1 ⟨rfl,hb1⟩;have hz1:=hb1.size;simp at hz1;obtain⟨hc1,hf1⟩:=bz hb1;have B1:=ak hb1;clear hb1;go_wp2_with fail;refine(HM.o _).mono ?_;rintro r w3 ⟨rfl,rfl⟩;go_wp2;go_ret;exact⟨by first | rfl | simp,((aD _ w).alloc (aA _) _).trans (B1.o.mono aN)⟩):P:=h
theorem yY(n u d m p l mode:Int)(w:World):At 55 #[.agg #[.int .i64 n,.int .i64 u,.int .i64 d,.int .i64 m,.int .i64 p,.int .i64 l],.int .i64 mode] w (.float .f64 (nt (snd n u d m p l) n u d m p l mode)):=by
 have HS:=hid (Ob n u d m p l);have HM:=hid (Bp);rcases hs:snd n u d m p l with _|_
 . rw[hs] at HS;have hv:nt false n u d m p l mode=0:=if_pos rfl;rw[hv];clear hs hv;go_enter Tryz.func55,Tryz.ntmps55;go_wp2_with fail;refine(HS.o _).mono ?_;rintro r w1 ⟨rfl,hb1⟩;have hz1:=hb1.size;simp at hz1;obtain⟨hc1,hf1⟩:=bz hb1;have B1:=ak hb1;clear hb1;go_wp2;go_ret;exact⟨by first | rfl | simp,((aD _ w).alloc (aA _) _).trans (B1.o.mono aN)⟩
 have bd:=R8 hs;rw[hs] at HS;obtain⟨f,hf⟩:∃f,l-n-u-d=f:=⟨_,rfl⟩;have hfb:-9223372036854775808<=f/\f<=9223372036854775807:=ae
 have hb1:0<=n/\n<=1099511627776:=bd.1;have hb2:0<=u/\u<=1099511627776:=bd.2.1;have hb3:0<=d/\d<=1099511627776:=bd.2.2.1;have hb4:0<=l/\l<=1099511627776:=bd.2.2.2;unfold nt;rw[if_neg aM,hf];clear hs bd
 by_cases p1:f=0
 . rw[if_pos p1];have q1:(f==0)=true:=by rw[beq_iff_eq];exact p1
   clear p1;exact J1
 rw[if_neg p1];have q1:(f==0)=false:=by rw[beq_eq_false_iff_ne];exact p1
 clear p1
 by_cases p2:m=f
 . rw[if_pos p2];have q2:(m==f)=true:=by rw[beq_iff_eq];exact p2
   clear p2;exact J1
 rw[if_neg p2];have q2:(m==f)=false:=by rw[beq_eq_false_iff_ne];exact p2
 clear p2
 by_cases p3:p=f
 . rw[if_pos p3];have q3:(p==f)=true:=by rw[beq_iff_eq];exact p3
   clear p3;exact J1
 rw[if_neg p3];have q3:(p==f)=false:=by rw[beq_eq_false_iff_ne];exact p3
 clear p3
 by_cases p4:mode=3
 . rw[if_pos p4];subst p4;exact J1
 . rw[if_neg p4];have q4:(mode==3)=false:=by rw[beq_eq_false_iff_ne];exact p4
   clear p4;exact J1
end
section
open Go.RowKit
theorem nE{w:World}{a:Option Addr}{n c:Nat}{xs:List Nat}(h1:Arg w a n c xs)(hn:n<=2000000)(neg:Bool)(e:Int)(he0:-9223372036854775808<=e)(he1:e<=9223372036854775807) :
 As 108 #[.agg #[.bool neg,.slice a n c,.int .i64 e]] w λr w'=>Dh w.heap.size w' r (mkS neg (val xs) e)/\An w w':=by
 have HB:=ak (show An w ((w.alloc (.cells #[.bool neg,.slice a n c,.int .i64 e] 79)).alloc (.cells zD3 79)) from(((aD _ _).alloc (aA _) _).alloc aN _));have H1:=hid (qI (h1.below HB.o) hn neg e he0 he1);have hl:=aR neg (val xs) e;obtain⟨o,ho⟩:∃o,mkS neg (val xs) e=o:=⟨_,rfl⟩;rw[ho] at H1 hl |-;unfold Dh at H1 |-;obtain⟨dn,hdn⟩:∃d,dN o=d:=⟨_,rfl⟩;obtain⟨X,Jt⟩:∃d,dX o=d:=⟨_,rfl⟩;obtain⟨de,hde⟩:∃d,dE o=d:=⟨_,rfl⟩;obtain⟨er,her⟩:∃d,o.isSome=d:=⟨_,rfl⟩;rw[hdn,Jt,hde,her] at H1 |-;rw[Jt] at hl;clear h1 ho hdn Jt hde her hn he0 he1;go_enter Tryz.func108,Tryz.ntmps108;go_wp2_with fail;refine H1.o.mono ?_;rintro r w2 ⟨⟨v,rfl,hN⟩,hb⟩;obtain⟨a2,c2,rfl,_⟩:=hN.arg ae;obtain⟨hc,hf⟩:=bz hb;have HF:=ak (Fin.of 2 HB.o aN hN hb);have hz:w.heap.size+1<w2.heap.size:=by have:=hb.size;simp at this;omega
 clear hN hb;go_wp2;exact aH (v:=.tuple #[.agg #[.bool dn,.slice a2 (ws X).length c2,.int .i64 de],.bool er]) (by simp[results,Tryz.results108,go_sem,hc]) rfl (Fin.j4 (m:=w.heap.size+2) (by repeat (first | exact HF.o | refine Fin.alloc ?_ _ | refine Fin.set ?_ _ _ _ ae ae)) ae)
theorem nG{w:World}{a:Option Addr}{n c:Nat}{xs:List Nat}(h1:Arg w a n c xs)(hT:gP w)(neg:Bool)(e:Int)(he0:-9223372036854775808<=e)(he1:e<=9223372036854775807) :
 As 128 #[.agg #[.bool neg,.slice a n c,.int .i64 e]] w λr w'=>dm w.heap.size w' r (mkS neg (val xs) e)/\An w w':=by
 have HB:=ak (show An w ((w.alloc (.cells #[.bool neg,.slice a n c,.int .i64 e] 79)).alloc (.cells zD3 79)) from(((aD _ _).alloc (aA _) _).alloc aN _));have H1:=hid (fZ (h1.below HB.o) (hT.belows HB.o) neg e he0 he1);have hl:=aR neg (val xs) e;obtain⟨o,ho⟩:∃o,mkS neg (val xs) e=o:=⟨_,rfl⟩;rw[ho] at H1 hl |-;unfold dm at H1 |-;obtain⟨dn,hdn⟩:∃d,dN o=d:=⟨_,rfl⟩;obtain⟨X,Jt⟩:∃d,dX o=d:=⟨_,rfl⟩;obtain⟨de,hde⟩:∃d,dE o=d:=⟨_,rfl⟩;obtain⟨er,her⟩:∃d,xG o=d:=⟨_,rfl⟩;rw[hdn,Jt,hde,her] at H1 |-;rw[Jt] at hl;clear h1 ho hdn Jt hde her hT he0 he1;go_enter Tryz.func128,Tryz.ntmps128;go_wp2_with fail;refine H1.o.mono ?_;rintro r w2 ⟨⟨v,rfl,hN⟩,hb⟩;obtain⟨a2,c2,rfl,_⟩:=hN.arg ae;obtain⟨hc,hf⟩:=bz hb;have HF:=ak (Fin.of 2 HB.o aN hN hb);have hz:w.heap.size+1<w2.heap.size:=by have:=hb.size;simp at this;omega
 clear hN hb;go_wp2;exact aH (v:=.tuple #[.agg #[.bool dn,.slice a2 (ws X).length c2,.int .i64 de],.int .i64 er]) (by simp[results,Tryz.results128,go_sem,hc]) rfl (Fin.j4 (m:=w.heap.size+2) (by repeat (first | exact HF.o | refine Fin.alloc ?_ _ | refine Fin.set ?_ _ _ _ ae ae)) ae)
def Ju(lo:Nat)(w:World)(r:Ending)(o:Option (Bool×Nat×Int)):Prop :=
 ∃v,r=.returned (.agg #[.bool (dN o),v,.int .i64 (dE o)])/\Nt lo w v (dX o)
theorem Fin.Wx{lo m:Nat}{w0 w:World}{n:Bool}{v:Value}{X:Nat}{e:Int}(H:Fin lo m w0 w v X)(h:lo<=m) :
 (∃v',Ending.returned (.agg #[.bool n,v,.int .i64 e])=.returned (.agg #[.bool n,v',.int .i64 e])/\Nt lo w v' X)/\Below lo w0 w:=⟨⟨v,rfl,H.nt.mono h⟩,H.aF⟩
end
namespace B
open Go.RowKit
attribute [local go_sem] aW aJ
theorem LM(a c:Bool)(k l x y f g:Int)(w:World):(Op.equalIn 10000 98 (.agg #[.bool a,.int .i64 k,.int .i64 x,.int .u64 f]) (.agg #[.bool c,.int .i64 l,.int .i64 y,.int .u64 g])).run Tryz.prog w=.ok (a==c&&(k==l&&(x==y&&f==g))) w:=by
 have u3:=Tryz.underlying3;have u4:=Tryz.underlying4;have u23:=Tryz.underlying45;have hS:Tryz.prog.underlying 98=some (.struct (Tryz.prog.fieldsOf 98)):=by kernel_rfl
 have hp:Tryz.prog.stoodInHeld 98=false:=by kernel_rfl
 rw[show(10000:Nat)=9999+1 from rfl,run_equalIn_agg w 9999 98 _ _ hS hp];simp only[Program.fieldsOf,Tryz.underlying98];go_simp
 by_cases h1:a=c <;> by_cases h2:k=l <;> by_cases h3:x=y <;> by_cases h4:f=g <;> simp[h1,h2,h3,h4]
attribute [local go_sem] LM
theorem fld0(a:Bool)(k x f:Int)(w:World):(Instr.field 98 (.agg #[.bool a,.int .i64 k,.int .i64 x,.int .u64 f]) 0).run Tryz.prog w=.ok (.bool a) w:=by kernel_rfl
theorem fld1(a:Bool)(k x f:Int)(w:World):(Instr.field 98 (.agg #[.bool a,.int .i64 k,.int .i64 x,.int .u64 f]) 1).run Tryz.prog w=.ok (.int .i64 k) w:=by kernel_rfl
theorem fld2(a:Bool)(k x f:Int)(w:World):(Instr.field 98 (.agg #[.bool a,.int .i64 k,.int .i64 x,.int .u64 f]) 2).run Tryz.prog w=.ok (.int .i64 x) w:=by kernel_rfl
theorem fld3(a:Bool)(k x f:Int)(w:World):(Instr.field 98 (.agg #[.bool a,.int .i64 k,.int .i64 x,.int .u64 f]) 3).run Tryz.prog w=.ok (.int .u64 f) w:=by kernel_rfl
attribute [local go_sem] fld0 fld1 fld2 fld3
theorem Oc(s:Bool)(e f:Nat)(he:e<2048)(hf:f<4503599627370496)(w:World) :
 At 101 #[.int .u64 (bw s e f),.int .i64 11,.int .i64 52] w (.agg #[.bool (ng s e f),.int .i64 (cls e f),.int .i64 (xp e),.int .u64 (fr e f)]) :=
 qG s e f he hf w
theorem cb_bw(s:Bool)(e f:Nat)(he:e<2048)(hf:f<4503599627370496):∃t u v,u<2048/\v<4503599627370496/\cb s e f=bw t u v/\(Value.agg #[.bool (ng t u v),.int .i64 (cls u v),.int .i64 (xp u),.int .u64 (fr u v)])=(.agg #[.bool (ng s e f),.int .i64 (cls e f),.int .i64 (xp e),.int .u64 (fr e f)]):=by
 by_cases h:e=2047/\f≠0
 . refine⟨false,2047,2251799813685248,ae,ae,?_,?_⟩
   . rw[mP s e f h];rfl
   . obtain⟨rfl,h2⟩:=h;simp[ng,cls,xp,fr,h2]
 . exact⟨s,e,f,he,hf,iZ s e f h,rfl⟩
theorem Jv(s:Bool)(e f:Nat)(he:e<2048)(hf:f<4503599627370496)(w:World) :
 At 61 #[.float .f64 (bw s e f)] w (.agg #[.bool (ng s e f),.int .i64 (cls e f),.int .i64 (xp e),.int .u64 (fr e f)]):=by
 obtain⟨t,u,v,hu,hv,hE,hV⟩:=cb_bw s e f he hf;have HE:Hid (cb s e f=bw t u v):=hE;rw[<-hV];clear hE hV;go_enter Tryz.func61,Tryz.ntmps61
 go_wp2_with (first
  | (go_at_call 102;refine(qF s e f he hf _).mono ?_;rintro r w1 ⟨rfl,rfl⟩;rw[HE.o])
  | (go_at_call 101;refine(Oc t u v hu hv _).mono ?_;rintro r w1 ⟨rfl,hb⟩;(obtain⟨hc,hfz⟩:=bz hb;have hz:w.heap.size<w1.heap.size:=by (have:=hb.size;simp at this;omega))))
 exact aH (v:=.agg #[.bool (ng t u v),.int .i64 (cls u v),.int .i64 (xp u),.int .u64 (fr u v)]) (by simp[results,Tryz.results61,go_sem,hc]) rfl ⟨rfl,(by repeat (first | exact aD _ _ | exact((aD _ _).alloc (aA _) _).trans (hb.mono aN) | exact aA _ | (simp;done) | (simp;omega) | refine Below.alloc ?_ ?_ _ | refine Below.setCell ?_ ?_ _ | refine iG ?_))⟩
theorem Od(s:Bool)(e f:Nat)(he:e<2048)(hf:f<4503599627370496)(w:World) :
 At 44 #[.float .f64 (bw s e f)] w (.int .i64 (cls e f)):=by
 go_enter Tryz.func44,Tryz.ntmps44
 go_wp2_with (go_at_call 76;refine(nz s e f he hf _).mono ?_;rintro r w1 ⟨rfl,hb⟩)
 go_ret;exact⟨rfl,hb⟩
theorem yZ(s:Bool)(e f:Nat)(he:e<2048)(hf:f<4503599627370496)(w:World) :
 At 37 #[.float .f64 (bw s e f)] w (.int .i64 (cls e f)):=by
 go_enter Tryz.func37,Tryz.ntmps37
 go_wp2_with (go_at_call 61;refine(Jv s e f he hf _).mono ?_;rintro r w1 ⟨rfl,hb⟩)
 go_ret;exact⟨rfl,hb⟩
theorem R9(s t:Bool)(e f u v:Nat)(he:e<2048)(hf:f<4503599627370496)(hu:u<2048)(hv:v<4503599627370496)(w:World) :
 Ax 157 #[.float .f64 (bw s e f),.float .f64 (bw t u v)] w (.bool (decide (cb s e f=cb t u v))):=by
 cases h1:odd e f
 . cases h2:odd u v
   . have h3:((bw s e f:Int)==(bw t u v:Int))=decide (cb s e f=cb t u v):=by
      rw[iZ s e f (gJ e f h1),iZ t u v (gJ u v h2),xO];simp;omega
     go_enter Tryz.func157,Tryz.ntmps157;go_wp2_with fail;refine(di s e f he hf _).mono ?_;rintro r w1 ⟨rfl,rfl⟩;go_wp2_with fail;refine(di t u v hu hv _).mono ?_;rintro r w1 ⟨rfl,rfl⟩;go_wp2_with fail;exact Jx
   . have h3:decide (cb s e f=cb t u v)=false:=by
      rw[iZ s e f (gJ e f h1),mP t u v (lK u v h2)];exact decide_eq_false (qE s e f he hf h1)
     rw[h3];clear h3;go_enter Tryz.func157,Tryz.ntmps157;go_wp2_with fail;refine(di s e f he hf _).mono ?_;rintro r w1 ⟨rfl,rfl⟩;go_wp2_with fail;refine(di t u v hu hv _).mono ?_;rintro r w1 ⟨rfl,rfl⟩;go_wp2_with fail;refine(di s e f he hf _).mono ?_;rintro r w1 ⟨rfl,rfl⟩;go_wp2_with fail;exact Jx
 . have h3:decide (cb s e f=cb t u v)=odd u v:=by
    rw[mP s e f (lK e f h1)]
    cases h2:odd u v
    . rw[iZ t u v (gJ u v h2)];exact decide_eq_false (λh=>qE t u v hu hv h2 h.symm)
    . rw[mP t u v (lK u v h2)];rfl
   rw[h3];clear h3;go_enter Tryz.func157,Tryz.ntmps157;go_wp2_with fail;refine(di s e f he hf _).mono ?_;rintro r w1 ⟨rfl,rfl⟩;go_wp2_with fail;refine(di s e f he hf _).mono ?_;rintro r w1 ⟨rfl,rfl⟩;go_wp2_with fail;refine(di t u v hu hv _).mono ?_;rintro r w1 ⟨rfl,rfl⟩;go_wp2_with fail;exact Jx
end B
namespace B
open Go.RowKit
attribute [local go_sem] aW aJ
theorem F6{a b:Bool}(h:a=b):Ending.returned (.bool a)=.returned (.bool b):=by rw[h]
theorem F7(s:Bool)(e f:Nat)(he:e<2048)(hf:f<4503599627370496)(w:World) :
 Ax 158 #[.float .f64 (bw s e f)] w (.bool s):=by
 have hl:=pU s e f he hf
 cases s
 . have h1:bw false e f<9223372036854775808:=by unfold bw;simp only[gF];omega
   go_enter Tryz.func158,Tryz.ntmps158;go_wp2;go_ret;exact⟨F6 (decide_eq_false ae),rfl⟩
 . have h1:9223372036854775808<=bw true e f:=by unfold bw;simp only[gD];omega
   go_enter Tryz.func158,Tryz.ntmps158;go_wp2;go_ret;exact⟨F6 (decide_eq_true (by unfold wrap64;omega)),rfl⟩
theorem Dn(s:Bool)(e f:Nat)(he:e<2048)(hf:f<4503599627370496)(w:World) :
 Ax 126 #[.float .f64 (bw s e f)] w (.float .f64 (bw false e f)):=by
 have h1:=R4 s e f he hf;go_enter Tryz.func126,Tryz.ntmps126;go_wp2;go_ret;exact⟨rfl,rfl⟩
theorem Oe(s t:Bool)(e f u v:Nat)(he:e<2048)(hf:f<4503599627370496)(hu:u<2048)(hv:v<4503599627370496)(w:World) :
 Ax 99 #[.float .f64 (bw s e f),.float .f64 (bw t u v)] w (.int .i64 (oc (ky s e f) (ky t u v))):=by
 have HS:=R9 s t e f u v he hf hu hv;have hgt:=RZ s t e f u v he hf hu hv;have hlt:=Js s t e f u v he hf hu hv
 cases hd:decide (cb s e f=cb t u v)
 . rw[hd] at HS;have H2:Hid (∀w,Ax 157 #[.float .f64 (bw s e f),.float .f64 (bw t u v)] w (.bool false)):=HS;have hne:=of_decide_eq_false hd;clear HS hd
   cases h1:odd e f
   . cases h2:odd u v
     . rw[h1,h2] at hgt hlt;simp only[Bool.not_false,Bool.true_and] at hgt hlt;rw[iZ s e f (gJ e f h1),iZ t u v (gJ u v h2)] at hne
       by_cases c1:pl t u v<pl s e f
       . rw[R6 (F5 t s u v e f h2 h1 c1)];rw[decide_eq_true c1] at hgt;clear hne c1 hlt;go_enter Tryz.func99,Tryz.ntmps99;go_wp2_with fail;refine(H2.o _).mono ?_;rintro r w1 ⟨rfl,rfl⟩;go_wp2_with fail;refine(di s e f he hf _).mono ?_;rintro r w1 ⟨rfl,rfl⟩;go_wp2_with fail;exact Jx
       . by_cases c2:pl s e f<pl t u v
         . rw[R5 (F5 s t e f u v h1 h2 c2)];rw[decide_eq_true c2] at hlt;rw[decide_eq_false c1] at hgt;clear hne c1 c2;go_enter Tryz.func99,Tryz.ntmps99;go_wp2_with fail;refine(H2.o _).mono ?_;rintro r w1 ⟨rfl,rfl⟩;go_wp2_with fail;refine(di s e f he hf _).mono ?_;rintro r w1 ⟨rfl,rfl⟩;go_wp2_with fail;refine(di t u v hu hv _).mono ?_;rintro r w1 ⟨rfl,rfl⟩;go_wp2_with fail;exact Jx
         . rw[decide_eq_false c1] at hgt;rw[decide_eq_false c2] at hlt;have hk:=Wu s t e f u v h1 h2 hne ae;clear hne c1 c2
           cases s
           . rw[R6 (hk.1 rfl)];clear hk;go_enter Tryz.func99,Tryz.ntmps99;go_wp2_with fail;refine(H2.o _).mono ?_;rintro r w1 ⟨rfl,rfl⟩;go_wp2_with fail;refine(di false e f he hf _).mono ?_;rintro r w1 ⟨rfl,rfl⟩;go_wp2_with fail;refine(di t u v hu hv _).mono ?_;rintro r w1 ⟨rfl,rfl⟩;go_wp2_with fail;refine(F7 false e f he hf _).mono ?_;rintro r w1 ⟨rfl,rfl⟩;go_wp2_with fail;exact Jx
           . rw[R5 (hk.2 rfl)];clear hk;go_enter Tryz.func99,Tryz.ntmps99;go_wp2_with fail;refine(H2.o _).mono ?_;rintro r w1 ⟨rfl,rfl⟩;go_wp2_with fail;refine(di true e f he hf _).mono ?_;rintro r w1 ⟨rfl,rfl⟩;go_wp2_with fail;refine(di t u v hu hv _).mono ?_;rintro r w1 ⟨rfl,rfl⟩;go_wp2_with fail;refine(F7 true e f he hf _).mono ?_;rintro r w1 ⟨rfl,rfl⟩;go_wp2_with fail;exact Jx
     . rw[yX t u v h2,R5 (Y5 s e f he hf h1)];rw[h1,h2] at hgt hlt;simp only[Bool.not_false,Bool.true_and,Bool.not_true,Bool.false_and] at hgt hlt;clear hne hlt;go_enter Tryz.func99,Tryz.ntmps99;go_wp2_with fail;refine(H2.o _).mono ?_;rintro r w1 ⟨rfl,rfl⟩;go_wp2_with fail;refine(di s e f he hf _).mono ?_;rintro r w1 ⟨rfl,rfl⟩;go_wp2_with fail;refine(di t u v hu hv _).mono ?_;rintro r w1 ⟨rfl,rfl⟩;go_wp2_with fail;exact Jx
   . have h2:odd u v=false:=by
      cases h2:odd u v
      . rfl
      . exact absurd ((mP s e f (lK e f h1)).trans (mP t u v (lK u v h2)).symm) hne
     rw[yX s e f h1,R6 (Y5 t u v hu hv h2)];clear hne hgt hlt;go_enter Tryz.func99,Tryz.ntmps99;go_wp2_with fail;refine(H2.o _).mono ?_;rintro r w1 ⟨rfl,rfl⟩;go_wp2_with fail;refine(di s e f he hf _).mono ?_;rintro r w1 ⟨rfl,rfl⟩;go_wp2_with fail;exact Jx
 . rw[hd] at HS;have H2:Hid (∀w,Ax 157 #[.float .f64 (bw s e f),.float .f64 (bw t u v)] w (.bool true)):=HS;rw[oc_eq (R7 s t e f u v he hf hu hv (of_decide_eq_true hd))];clear HS hd hgt hlt;go_enter Tryz.func99,Tryz.ntmps99;go_wp2_with fail;refine(H2.o _).mono ?_;rintro r w1 ⟨rfl,rfl⟩;go_wp2_with fail;go_ret;exact⟨rfl,rfl⟩
end B
end Go.Proofs.YtjppdacikihpdaaGreatDoor
