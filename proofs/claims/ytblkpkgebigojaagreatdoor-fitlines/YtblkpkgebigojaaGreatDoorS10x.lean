import Derived.Test.YtblkpkgebigojaaGreatDoorW50x
import Derived.Deep.RegionHeld
import Derived.Test.YtblkpkgebigojaaGreatDoorBIeeex
import Derived.Laws.BitsAllLaws
import Derived.WalkLawsBesides
import Derived.Test.YtblkpkgebigojaaGreatDoorW24x
import Derived.Deep.RegionWith
import Derived.Laws.StructEq
import Derived.BigQuiet
import Derived.Deep.RegionHeld3
set_option linter.unusedVariables false
set_option linter.unusedSimpArgs false
set_option maxHeartbeats 16000000
set_option maxRecDepth 20000
namespace Go.Proofs.YtblkpkgebigojaaGreatDoor
section
open Go.RowKit
def mo (w:World) (g:Nat) (V:Int) (s:Sp):Prop:=∃ L:List Nat,L.length=133/\Wf L/\(val L:Int)=V%(PB:Int)/\-(HB:Int)<V/\V<(HB:Int)/\Ac w g L s
theorem mo.lt {w:World}{g:Nat}{V:Int}{s:Sp}(h:mo w g V s):g<w.heap.size:=by obtain ⟨L,_,_,_,_,_,h⟩:=h;exact h.lt
theorem mo.below {w w':World}{g B:Nat}{V:Int}{s:Sp}(h:mo w g V s) (hb:Below B w w') (hg:g<B):mo w' g V s:=by
 obtain ⟨L,h1,h2,h3,h4,h5,h6⟩:=h;exact ⟨L,h1,h2,h3,h4,h5,h6.below hb hg⟩
theorem mo.aF {w w':World}{g:Nat}{V:Int}{s:Sp}(h:mo w g V s) (hb:Below w.heap.size w w'):mo w' g V s:=h.below hb h.lt
theorem SV:PB=262144*HB:=by rw [yZ,Mh];omega
theorem Qm (N:Nat) (V:Int) (h:(N:Int)=V%(PB:Int)) (h0:-(2*HB:Int)<V) (h1:V<2*(HB:Int)):I6 N=!(decide (-(HB:Int)<V/\V<(HB:Int))):=by
 have e:=SV;have hp:=q9;unfold I6
 by_cases hv:0<=V
 · rw [xe hv ae] at h
   by_cases hc:V<(HB:Int)
   · rw [decide_eq_false ae,decide_eq_true ae];rfl
   · rw [decide_eq_true ae,decide_eq_false ae];rfl
 · have h2:V%(PB:Int)=V+PB:=by
    rw [<-Int.add_emod_right,xe ae ae]
   rw [h2] at h
   by_cases hc:-(HB:Int)<V
   · rw [decide_eq_false ae,decide_eq_true ae];rfl
   · rw [decide_eq_true ae,decide_eq_false ae];rfl
def VZ (g:Nat) (w:World) (X:Int×Int×Sp) (r:Ending) (w':World):Prop:=r=.returned (.int .i64 X.1)/\mo w' g X.2.1 X.2.2/\But g w w'
def xX (V:Int) (s:Sp) (T:Int) (t:Sp):Int×Int×Sp:=if -(HB:Int)<V+T/\V+T<(HB:Int) then (0,V+T,t) else (2,V,s)
def tT (V:Int) (s:Sp) (k:Nat) (T:Int):Int×Int×Sp:=if s.a=1099511627776 then (2,V,s) else xX V s T (s.cnt k 1)
theorem Ex (g:Nat) (L M:List Nat) (V T:Int) (s t:Sp) (w:World) (hA:Ac w g L s) (hl:L.length=133) (hL:Wf L) (hv:(val L:Int)=V%(PB:Int)) (h0:-(HB:Int)<V) (h1:V<(HB:Int)) (hM:Wf M) (hm:M.length=133)
 (hvM:(val M:Int)=(V+T)%(PB:Int)) (hT0:-(HB:Int)<T) (hT1:T<(HB:Int)) :
 Calls Tryz.prog 183 #[.pointer (some ⟨g,0,none⟩),.agg (M.map U).toArray,t.agg] w (VZ g w (xX V s T t)):=by
 have hb:=Qm (val M) (V+T) hvM ae ae
 by_cases hc:-(HB:Int)<V+T/\V+T<(HB:Int)
 · rw [decide_eq_true hc] at hb;refine (Ef g L M s t w hA hl hM hm hb).mono fun r w' ⟨a,b,c⟩=>?_;unfold xX;rw [if_pos hc];exact ⟨a,⟨M,hm,hM,hvM,hc.1,hc.2,b⟩,c⟩
 · rw [decide_eq_false hc] at hb;refine (Ja g L M s t w hA hM hm hb).mono fun r w' ⟨a,b⟩=>?_;unfold xX;rw [if_neg hc];exact ⟨a,⟨L,hl,hL,hv,h0,h1,hA.below b hA.lt⟩,(But.refl g w).pq b⟩
end
section
open Go Go.RowKit
section
variable {P : Program} {ops : Array Oper} {Q : Exit -> Act -> World -> Prop} {md : Region.Mode} {S : World -> Prop} {stop : Nat}
def gH (P:Program) (md:Region.Mode) (ops:Array Oper) (Q:Exit->Act->World->Prop) (S:World->Prop) (stop:Nat):Nat->Array Bool->Act->World->Prop
 | 0,listed,a,w=>Region.ready md ops listed=[]/\Q .normal a w
 | fuel+1,listed,a,w=>(Region.ready md ops listed=[]->Q .normal a w) /\
  ∀ i ∈ Region.ready md ops listed,wpOp P ops Q i (fun b u=>(i<stop->S u)/\gH P md ops Q S stop fuel (listed.setIfInBounds i true) b u) a w
theorem sV:∀ (fuel:Nat) (listed:Array Bool) (a:Act) (w:World),gH P md ops Q S stop fuel listed a w->wpAny P md ops Q fuel listed a w
 | 0,_,_,_,h=>h
 | fuel+1,_,_,_,h=>⟨h.1,fun i hi=>wpOp_mono (fun b u k=>sV fuel _ b u k.2) (h.2 i hi)⟩
theorem bA {id:Nat}{a:Act}{w:World}(S:World->Prop) (stop:Nat) (hm:P.follows .mixedOrders=true) (h:gH P .any ops Q S stop ops.size (Array.replicate ops.size false) a w.drew):(Code.region id ops true).wp P Q a w :=
 wp_region_any hm (sV _ _ _ _ h)
def waits (md:Region.Mode) (ops:Array Oper) (i stop:Nat) (C:List Nat):Bool :=
 (List.range ops.size).all fun j=>!(C.contains j || decide (stop<=j)) || (match ops[j]? with | some o=>o.after.any (fun e=>Region.binds md e&&(e.on==i || C.contains e.on)) | none=>true)
def BK (listed:Array Bool) (C:List Nat):Bool:=C.all fun k=>listed.getD k true==false
theorem Ey {i:Nat}{C:List Nat}(h:waits md ops i stop C=true) {j:Nat}{oj:Oper}(hj:ops[j]?=some oj) (hc:j ∈ C\/stop<=j):∃ e ∈ oj.after,Region.binds md e=true/\(e.on=i\/e.on ∈ C):=by
 have h1:=(List.all_eq_true.1 h) j (by simp;exact (fJ.1 hj).1);rw [hj] at h1
 have h2:(C.contains j || decide (stop<=j))=true:=by
  rcases hc with hc|hc
  · simp [hc]
  · simp [hc]
 rw [h2] at h1;simp only [Bool.not_true,Bool.false_or] at h1;rw [<-Array.any_toList] at h1;obtain ⟨e,he,hb⟩:=List.any_eq_true.1 h1;have he:=Array.mem_toList_iff.1 he;simp only [xu,Bool.or_eq_true,beq_iff_eq,List.contains_iff_mem] at hb;exact ⟨e,he,hb.1,hb.2⟩
theorem BM {i:Nat}{C:List Nat}{oi:Oper}{v:Value}(hi:ops[i]?=some oi) (hsel:∀ (j:Nat) (o:Oper) cs b,ops[j]?=some o->o.op≠.select cs b)
 (hQ:∀ x a w,Q (.panic x) (a.put oi.dst v) w->Q (.panic x) a w) (WO:waits md ops i stop C=true) :
 ∀ (fuel:Nat) (listed:Array Bool) (a:Act) (w:World),
   (∀ j oj,ops[j]?=some oj->j≠i->listed.getD j true=false->(∀ e ∈ oj.after,Region.binds md e=true->e.on≠i)->oi.apart ops oj=true) ->
   i ∈ Region.ready md ops listed->(∀ k ∈ C,listed.getD k true=false)->YieldsIf P ops S oi v a->S w ->
   gH P md ops Q S stop fuel (listed.setIfInBounds i true) (a.put oi.dst v) w->gH P md ops Q S stop (fuel+1) listed a w:=by
 intro fuel
 induction fuel with
 | zero =>
   intro listed a w _ hr _ hy hS H;refine ⟨fun h=>(by rw [h] at hr;cases hr),fun j hj=>?_⟩
   by_cases hji:j=i
   · subst hji;exact hy.wpOp hi hS ⟨fun _=>hS,H⟩
   · have:=ready_mono hj hji;rw [H.1] at this
     cases this
 | succ fuel ih =>
   intro listed a w hfree hr hcl hy hS H;refine ⟨fun h=>(by rw [h] at hr;cases hr),fun j hj=>?_⟩
   by_cases hji:j=i
   · subst hji;exact hy.wpOp hi hS ⟨fun _=>hS,H⟩
   · have h1:=H.2 j (ready_mono hj hji);obtain ⟨hjun,oj,hoj,hall⟩:=mem_ready.1 hj;have h0:=(mem_ready.1 hr).1
     have un:∀ k,listed.getD k true=false->listed.getD k false=true->False:=fun k a1 a2=>by
      rcases mH k listed.size with h'|h'
      · simp [h'] at a1 a2;rw [a1] at a2;cases a2
      · simp [Array.getElem?_eq_none h'] at a2
     have hnot:∀ e ∈ oj.after,Region.binds md e=true->e.on≠i:=fun e he hb heq=>un i h0 (heq ▸ hall e he hb)
     have hnw:¬(j ∈ C\/stop<=j):=fun hc=>by
      obtain ⟨e,he,hb,heq⟩:=Ey WO hoj hc;rcases heq with heq|heq
      · exact hnot e he hb heq
      · exact un _ (hcl _ heq) (hall e he hb)
     have hjs:j<stop:=by
      rcases mH j stop with h|h
      · exact h
      · exact (hnw (Or.inr h)).elim
     have h2:=wpOp_putIf hoj (hfree j oj hoj hji hjun hnot) (fun cs b=>hsel i oi cs b hi) (fun cs b=>hsel j oj cs b hoj) hQ hy h1
     have hfree':∀ k ok,ops[k]?=some ok->k≠i->(listed.setIfInBounds j true).getD k true=false ->
      (∀ e ∈ ok.after,Region.binds md e=true->e.on≠i)->oi.apart ops ok=true:=fun k ok hk hki hun hno=>by
      refine hfree k ok hk hki ?_ hno
      by_cases hjk:j=k
      · subst hjk;exact hjun
      · rw [Go.getD_set_ne true hjk] at hun;exact hun
     refine wpOp_mono (fun b u h3=>⟨h3.2.1,ih (listed.setIfInBounds j true) b u hfree' (ready_mono hr (Ne.symm hji)) (fun k hk=>by rw [Go.getD_set_ne true (show j≠k from fun e=>hnw (Or.inl (by rw [e];exact hk)))];exact hcl k hk) h3.1 (h3.2.1 hjs) ?_⟩) h2;rw [Array.setIfInBounds_comm _ _ hji];exact h3.2.2
theorem uZ {i:Nat}(C:List Nat) {oi:Oper}{v:Value}{fuel:Nat}{listed:Array Bool}{a:Act}{w:World}(hi:ops[i]?=some oi)
 (hs:Region.noSelect ops=true) (hf:Region.free md ops listed i=true) (hr:(Region.ready md ops listed).contains i=true) (hw:waits md ops i stop C=true) (hun:BK listed C=true)
 (hQ:∀ c a w,Q (.panic c) (a.put oi.dst v) w->Q (.panic c) a w) (hy:YieldsIf P ops S oi v a) (hS:S w)
 (h:gH P md ops Q S stop fuel (listed.setIfInBounds i true) (a.put oi.dst v) w):gH P md ops Q S stop (fuel+1) listed a w :=
 BM hi (Region.noSelect_spec hs) hQ hw fuel listed a w (Region.free_spec hi hf) (by simpa using hr) (fun k hk=>by have:=(List.all_eq_true.1 hun) k hk;simpa using this) hy hS h
theorem tk (i:Nat)(C:List Nat){oi:Oper}{v:Value}{fuel:Nat}{listed:Array Bool}{a:Act}{w:World}(hi:ops[i]?=some oi)(hS:S w)(h:gH P md ops Q S stop fuel (listed.setIfInBounds i true) (a.put oi.dst v) w)(hy:∀ w,S w->(execOp a.eval oi).run P w=.ok (.value v) w:=by intro u hSu;(try dsimp only at hSu);first|(go_simp;done)|(go_simp;with_reducible rfl))(hs:Region.noSelect ops=true:=by kernel_rfl)(hf:Region.free md ops listed i=true:=by kernel_rfl)(hr:(Region.ready md ops listed).contains i=true:=by kernel_rfl)(hw:waits md ops i stop C=true:=by kernel_rfl)(hun:BK listed C=true:=by kernel_rfl)(hQ:∀ c a w,Q (.panic c) (a.put oi.dst v) w->Q (.panic c) a w:=by exact fun _ _ _ h=>h)(h1:Region.wanted oi (yielded ops a.tmps)=true:=by rfl):gH P md ops Q S stop (fuel+1) listed a w:=uZ C hi hs hf hr hw hun hQ (Or.inl ⟨h1,hy⟩) hS h
theorem sa {α:Type _}{l:List α}{i:Nat}{a:α}:l.toArray.setIfInBounds i a=(l.set i a).toArray:=List.setIfInBounds_toArray _ _ _
theorem sb {α:Type _}{x a:α}{l:List α}:(x::l).set 0 a=a::l:=rfl
theorem sc {α:Type _}{x a:α}{l:List α}{n:Nat}:(x::l).set (n+1) a=x::l.set n a:=rfl
theorem aj {i:Nat}{o:Oper}{fuel:Nat}{listed:Array Bool}{a:Act}{w:World}(hr:Region.ready md ops listed=[i]) (ho:ops[i]?=some o)
 (h:∀ K':Act->World->Prop,Shut (∀ b u,(i<stop->S u)->gH P md ops Q S stop fuel (listed.setIfInBounds i true) b u->K' b u)->if Region.wanted o (yielded ops a.tmps)=true then Oper.wp P o a w K' Q else K' (a.put o.dst undef) w):gH P md ops Q S stop (fuel+1) listed a w :=
 ⟨fun h0=>(by rw [hr] at h0;cases h0),fun j hj=>by
  rw [hr] at hj;obtain rfl:=yC.1 hj
  exact wpOp_step ho (fun K' hK=>h K' (fun b u h1 h2=>hK b u ⟨h1,h2⟩))⟩
theorem bG {listed:Array Bool}{a:Act}{w:World}(hr:Region.ready md ops listed=[]) (h:Q .normal a w):∀ fuel,gH P md ops Q S stop fuel listed a w
 | 0=>⟨hr,h⟩
 | _+1=>⟨fun _=>h,by rw [hr];simp⟩
end
end
section
open Go.RowKit
theorem M6 (g:Nat) (L xs:List Nat) (V T:Int) (s:Sp) (k:Nat) (ng:Bool) (ao:Option Addr) (n cap p:Nat) (w:World) (hs:s.ok) (hk:k<=5) (hA:Ac w g L s) (hl:L.length=133) (hL:Wf L) (hv:(val L:Int)=V%(PB:Int)) (h0:-(HB:Int)<V) (h1:V<(HB:Int))
 (hx:Arg w ao n cap xs) (hp:p+32*n<=4256) (hT:kD ng (val xs*2^p)=T) (hT0:-(HB:Int)<T) (hT1:T<(HB:Int)) :
 Calls Tryz.prog 139 #[.pointer (some ⟨g,0,none⟩),.agg #[.int .i64 (k:Nat),.bool ng,.slice ao n cap,.int .i64 (p:Nat)]] w (VZ g w (tT V s k T)):=by
 obtain ⟨t,ht⟩:=ah (s.cnt k 1);obtain ⟨X,hX⟩:=ah (tT V s k T);rw [<-hX];have HC:=hid (fun u:World=>Bq s k 1 u hk hs aO aO);rw [<-ht] at HC;obtain ⟨sn,su,sd,sm,sp,sa⟩:=s;obtain ⟨tn,tu,td,tm,tp,ta⟩:=t;have HR:Aside (Ac w g L ⟨sn,su,sd,sm,sp,sa⟩/\L.length=133/\Wf L/\(val L:Int)=V%(PB:Int)/\-(HB:Int)<V/\V<(HB:Int)/\Arg w ao n cap xs/\p+32*n<=4256/\kD ng (val xs*2^p)=T/\-(HB:Int)<T/\T<(HB:Int)):=⟨hA,hl,hL,hv,h0,h1,hx,hp,hT,hT0,hT1⟩;have HX:Aside (X=tT V ⟨sn,su,sd,sm,sp,sa⟩ k T/\⟨tn,tu,td,tm,tp,ta⟩=Sp.cnt ⟨sn,su,sd,sm,sp,sa⟩ k 1):=⟨hX,ht⟩;simp only [Sp.agg] at HC;clear hA hl hL hv h0 h1 hx hp hT hT0 hT1 hX ht hs;go_enter Tryz.func139,Tryz.ntmps139;have a5:=HR.o.1.cell HR.o.2.1 5 _ rfl;have alt:=HR.o.1.lt
 by_cases hmax:sa=1099511627776
 · subst hmax;go_wp2;go_ret;rw [HX.o.1];unfold tT;rw [if_pos rfl];obtain ⟨hA,hl,hL,hv,h0,h1,_⟩:=HR.o;exact ⟨rfl,⟨L,hl,hL,hv,h0,h1,hA.alloc _⟩,(But.refl g w).pq (au _ _)⟩
 have WQ:(sa==1099511627776)=false:=by simpa using hmax
 go_wp2
 have HP:Aside (X=xX V ⟨sn,su,sd,sm,sp,sa⟩ T ⟨tn,tu,td,tm,tp,ta⟩):=by
  refine ay ?_;rw [HX.o.1,HX.o.2];unfold tT;rw [if_neg hmax]
 obtain ⟨w1,hw1⟩:=ah (w.alloc (Obj.cells #[.int .i64 (k:Nat),.bool ng,.slice ao n cap,.int .i64 (p:Nat)] 166));rw [<-hw1]
 have H1:Aside (Bl w1 w.heap.size 166 [.int .i64 (k:Nat),.bool ng,.slice ao n cap,.int .i64 (p:Nat)]/\Below w.heap.size w w1/\w1.heap.size=w.heap.size+1):=by
  subst hw1;exact ⟨Bl.new w 166 [_,_,_,_],au _ _,aW⟩
 clear hw1 hmax WQ a5 alt;have hu:=Tryz.jw;have hsz:(Tryz.prog.info? 161).map (·.size)=some (L.map U).length:=by rw [Tryz.jv,xm,HR.o.2.1]
 have A0:=ay (HR.o.1.below H1.o.2.1 HR.o.1.lt);have BB:Aside (Below w1.heap.size w1 w1.drew):=(ak _ _).drew;have kS:=r9 (A0.o.drew.range) (A0.o.drew.cell HR.o.2.1 0 _ rfl) (A0.o.drew.cell HR.o.2.1 1 _ rfl) (A0.o.drew.cell HR.o.2.1 2 _ rfl) (A0.o.drew.cell HR.o.2.1 3 _ rfl) (A0.o.drew.cell HR.o.2.1 4 _ rfl) (A0.o.drew.cell HR.o.2.1 5 _ rfl) (H1.o.1.drew.four);have HW:=hid (fun (u:World) (hb:Below w1.heap.size w1 u)=>Md L xs ao n cap p (k:Nat) ng u HR.o.2.1 HR.o.r2.1 ((HR.o.r6.1.below H1.o.2.1).below hb) HR.o.r7.1)
 have Z7:Aside (kD ng (val xs*2^p)=T/\-(HB:Int)<T/\T<(HB:Int)):=by
  have h:=HR.o.r8;refine ⟨?_,ae,ae⟩
  first | exact h.1 | (rw [<-h.1];cases ng <;> simp [kD])
 refine bA (fun w'=>w'.rangeAt g 0 (L.map U)/\w'.cell? ⟨g,133,none⟩=some (.int .i64 sn)/\w'.cell? ⟨g,134,none⟩=some (.int .i64 su)/\w'.cell? ⟨g,135,none⟩=some (.int .i64 sd)/\w'.cell? ⟨g,136,none⟩=some (.int .i64 sm)/\w'.cell? ⟨g,137,none⟩=some (.int .i64 sp)/\w'.cell? ⟨g,138,none⟩=some (.int .i64 sa)/\w'.cell? ⟨w.heap.size,0,none⟩=some (.int .i64 (k:Nat))/\w'.cell? ⟨w.heap.size,1,none⟩=some (.bool ng)/\w'.cell? ⟨w.heap.size,2,none⟩=some (.slice ao n cap)/\w'.cell? ⟨w.heap.size,3,none⟩=some (.int .i64 (p:Nat))) 14 bS ?_
 refine tk 0 [] rfl kS.o ?_;try simp only [Act.put,sa,sb,sc]
 refine tk 1 [2,3,4,6] rfl kS.o ?_;try simp only [Act.put,sa,sb,sc]
 refine tk 2 [3,4,6] rfl kS.o ?_;try simp only [Act.put,sa,sb,sc]
 refine tk 3 [4,6] rfl kS.o ?_;try simp only [Act.put,sa,sb,sc]
 refine uZ (i:=4) [6] rfl bS bS bS bS bS (fun _ _ _ h=>h) (yieldsIf_load_mid (by rfl) _ _ rfl g 0 rfl (L.map U) _ (fun u h=>h.1) hu rfl hsz) kS.o ?_
 try simp only [Act.put,sa,sb,sc]
 refine tk 5 [6] rfl kS.o ?_;try simp only [Act.put,sa,sb,sc]
 refine tk 7 [8,9,10,13] rfl kS.o ?_;try simp only [Act.put,sa,sb,sc]
 refine tk 8 [9,10,13] rfl kS.o ?_;try simp only [Act.put,sa,sb,sc]
 refine tk 9 [10,13] rfl kS.o ?_;try simp only [Act.put,sa,sb,sc]
 refine tk 10 [13] rfl kS.o ?_;try simp only [Act.put,sa,sb,sc]
 refine tk 11 [12,13] rfl kS.o ?_;try simp only [Act.put,sa,sb,sc]
 refine tk 12 [13] rfl kS.o ?_;try simp only [Act.put,sa,sb,sc]
 refine aj (i:=6) bS rfl (fun K' hK=>?_);go_simp;refine (HW.o _ BB.o).mono ?_;rintro r u1 ⟨M,rfl,dx,bu,oz,hb⟩;have HM:=fB dx bu oz;have BB:=ay (BB.o.trans (hb.mono BB.o.size));have A1:=A0.o.below BB.o A0.o.lt;have Z1:=H1.o.1.below BB.o H1.o.1.lt;have kS:=r9 (A1.range) (A1.cell HR.o.2.1 0 _ rfl) (A1.cell HR.o.2.1 1 _ rfl) (A1.cell HR.o.2.1 2 _ rfl) (A1.cell HR.o.2.1 3 _ rfl) (A1.cell HR.o.2.1 4 _ rfl) (A1.cell HR.o.2.1 5 _ rfl) (Z1.four);clear hb A1 Z1 dx bu oz;dsimp only;refine hK.out _ _ (fun _=>kS.o) ?_;clear hK K'
 try simp only [Act.put,sa,sb,sc]
 refine aj (i:=13) bS rfl (fun K' hK=>?_);go_simp;refine (HC.o _).mono ?_;rintro r u2 ⟨rfl,hb⟩;have BB:=ay (BB.o.trans (hb.mono BB.o.size));have A1:=A0.o.below BB.o A0.o.lt;have Z1:=H1.o.1.below BB.o H1.o.1.lt;have kS:=r9 (A1.range) (A1.cell HR.o.2.1 0 _ rfl) (A1.cell HR.o.2.1 1 _ rfl) (A1.cell HR.o.2.1 2 _ rfl) (A1.cell HR.o.2.1 3 _ rfl) (A1.cell HR.o.2.1 4 _ rfl) (A1.cell HR.o.2.1 5 _ rfl) (Z1.four);clear hb A1 Z1;dsimp only;refine hK.out _ _ (fun _=>kS.o) ?_;clear hK K'
 try simp only [Act.put,sa,sb,sc]
 refine aj (i:=14) bS rfl (fun K' hK=>?_);go_simp;have CB:=Ex g L M V T ⟨sn,su,sd,sm,sp,sa⟩ ⟨tn,tu,td,tm,tp,ta⟩ u2 (A0.o.below BB.o A0.o.lt) HR.o.2.1 HR.o.r2.1 HR.o.r3.1 HR.o.r4.1 HR.o.r5.1 HM.o.2.1 HM.o.1 (by rw [HM.o.r2,Z7.o.1,HR.o.r3.1,q8]) Z7.o.2.1 Z7.o.r2;rw [<-HP.o] at CB;simp only [Sp.agg] at CB;refine CB.mono ?_;rintro r u3 hD;have HD3:=ay hD;obtain ⟨rfl,_,_⟩:=hD;clear CB;dsimp only;refine hK.out _ _ (fun h=>absurd h aO) ?_;clear hK K'
 try simp only [Act.put,sa,sb,sc]
 refine aj (i:=15) bS rfl (fun K' hK=>?_);go_simp;refine hK.out _ _ (fun h=>absurd h aO) ?_;clear hK K';refine bG bS ?_ _;clear kS;go_wp2;go_ret;obtain ⟨h1,h2,h3⟩:=HD3.o;exact ⟨rfl,h2,((But.refl g w).pq H1.o.2.1).trans (((But.refl g w1).pq BB.o).trans h3)⟩
def sW (x:Nat):Bool:=decide (9223372036854775808<=x)
def eW (x:Nat):Nat:=x%9223372036854775808/4503599627370496
def fW (x:Nat):Nat:=x%4503599627370496
theorem iM (x:Nat) (hx:x<18446744073709551616):x=B.bw (sW x) (eW x) (fW x)/\eW x<2048/\fW x<4503599627370496:=by
 unfold B.bw sW eW fW;refine ⟨?_,ae,ae⟩
 by_cases h:9223372036854775808<=x
 · simp only [h,decide_true,jc];omega
 · simp only [h,decide_false,jd];omega
def o6 (x:Nat):Int:=B.cls (eW x) (fW x)
def Dq (x:Nat):Int:=B.xp (eW x)
def ve (x:Nat):Nat:=(B.fr (eW x) (fW x)).toNat
def SX (x:Nat):Bool:=B.ng (sW x) (eW x) (fW x)
def pK (x y:Nat):Nat:=pk (max (o6 x) (o6 y)) (min (o6 x) (o6 y)) (!SX x==SX y)
def pT (x y:Nat):Int:=SQ (max (o6 x) (o6 y)) (min (o6 x) (o6 y)) (!SX x==SX y) (ve x) (ve y) (Dq x+Dq y)
theorem GI (hi lo:Int) (ng:Bool):pk hi lo ng<=5:=by
 unfold pk
 split
 · omega
 · split
   · split <;> omega
   · split
     · split <;> omega
     · omega
theorem zh (k:Nat) (hk:k=4238):HB=2^k:=by
 obtain ⟨j,hj⟩:=ah (32*132);rw [Mh,DY,<-hj,show k=14+j by omega,aR]
theorem xY (ng:Bool) (X B:Nat) (h:X<B):-(B:Int)<kD ng X/\kD ng X<(B:Int):=by cases ng <;> simp only [kD,if_true,if_false] <;> constructor <;> (try simp) <;> omega
theorem BN (x y:Nat) (hx:x<18446744073709551616) (hy:y<18446744073709551616):-(HB:Int)<pT x y/\pT x y<(HB:Int):=by
 unfold pT SQ;have hp:=q9
 split
 · refine xY _ _ _ ?_;have f1:=lC (eW x) (fW x) (iM x hx).2.2;have f2:=lC (eW y) (fW y) (iM y hy).2.2;have x1:=lq (eW x) (iM x hx).2.1;have x2:=lq (eW y) (iM y hy).2.1
   have h1:ve x*ve y<2^106:=by
    have:ve x*ve y<=9007199254740991*9007199254740991:=kM (by unfold ve;omega) (by unfold ve;omega);exact iy this aO
   obtain ⟨k,hk⟩:∃ k,k=4238:=⟨_,rfl⟩;rw [zh k hk];refine iF (fM h1 (bK _)) ?_;rw [<-aR];exact fE aO (by unfold Dq;omega)
 · constructor <;> omega
theorem BO (x y:Nat) (hx:x<18446744073709551616) (hy:y<18446744073709551616) (w:World) :
 Calls Tryz.prog 140 #[.float .f64 x,.float .f64 y] w fun r w'=>∃ v,r=.returned v/\Th w.heap.size w' v (pK x y) (pT x y)/\Below w.heap.size w w':=by
 obtain ⟨a1,a2,a3⟩:=iM x hx;obtain ⟨b1,b2,b3⟩:=iM y hy;have h1:=GH (sW x) (eW x) (fW x) a2 a3;have h2:=GH (sW y) (eW y) (fW y) b2 b3;rw [<-a1] at h1;rw [<-b1] at h2;exact BJ x y _ _ _ _ _ _ _ _ w h1 h2 (lq _ a2) (lq _ b2) (lC _ _ a3) (lC _ _ b3)
theorem Qn (x:Nat) (hx:x<18446744073709551616) (w:World) :
 Calls Tryz.prog 160 #[.float .f64 x] w fun r w'=>∃ v,r=.returned v/\Th w.heap.size w' v (pK x 4607182418800017408) (pT x 4607182418800017408)/\Below w.heap.size w w':=by
 have HP:=hid (fun u:World=>BO x 4607182418800017408 hx aO u);clear hx;go_enter Tryz.func160,Tryz.ntmps160;go_wp2_with fail;refine (HP.o _).mono ?_;rintro r w1 ⟨v,rfl,hT,hb⟩;obtain ⟨ng,a,n,c,p,xs,hlo,rfl,hA,hp,hv⟩:=hT;have HL:=ay hlo;have Z:=ay ((Bl.new w 166 [Value.int .i64 0,Value.bool false,Value.slice none 0 0,Value.int .i64 0]).below hb aW);have HA:=jK hA hp hv hb;obtain ⟨z0,z1,z2,z3⟩:=Z.o.four;have g0:=Z.o.frozen 0;have g1:=Z.o.frozen 1;have g2:=Z.o.frozen 2;have g3:=Z.o.frozen 3;clear hA hp hv hb hlo;go_wp2;obtain ⟨w5,lZ⟩:=ah (((((w1.setCell ⟨w.heap.size,0,none⟩ (.int .i64 (pK x 4607182418800017408:Nat))).setCell ⟨w.heap.size,1,none⟩ (.bool ng)).setCell ⟨w.heap.size,2,none⟩ (.slice a n c)).setCell ⟨w.heap.size,3,none⟩ (.int .i64 (p:Nat))));rw [<-lZ];have q:Bl w5 w.heap.size 166 [.int .i64 (pK x 4607182418800017408:Nat),.bool ng,.slice a n c,.int .i64 (p:Nat)]:=by rw [lZ];exact BI Z.o
 have aG:But w.heap.size w1 w5:=by rw [lZ];exact ((((But.refl _ w1).set 0 _).set 1 _).set 2 _).set 3 _
 have hBw:Below w.heap.size w w1:=(au w _).trans (HA.o.r3.mono aW);have qb:Below w.heap.size w w5:=But.below hBw aG hBw.size (aH _);clear lZ;obtain ⟨q0,q1,q2,q3⟩:=q.four;refine aI (v:=.agg #[.int .i64 (pK x 4607182418800017408:Nat),.bool ng,.slice a n c,.int .i64 (p:Nat)]) (by simp [results,Tryz.results160,go_sem,q0,q1,q2,q3]) rfl ?_;refine ⟨_,rfl,⟨ng,a,n,c,p,xs,fun ad e=>?_,rfl,?_,HA.o.2.1,HA.o.r2.1⟩,qb⟩
 · have:=HL.o ad e;simp at this;omega
 · obtain ⟨r1,r2,r3,r4,r5,r6⟩:=HA.o.1;refine ⟨r1,r2,r3,r4,fun hne=>?_,r6⟩;obtain ⟨b,off,hlt,rfl,hc⟩:=r5 hne;have hbb:=HL.o _ rfl;simp at hbb;refine ⟨b,off,iF hlt aG.size,rfl,fun i hi=>?_⟩;rw [<-hc i hi];exact wF (a:=⟨b,off+i,none⟩) (aG.block b hlt ae)
theorem WR (g:Nat) (V T:Int) (s:Sp) (k lo:Nat) (v:Value) (w:World) (hA:mo w g V s) (hs:s.ok) (hk:k<=5) (ht:Th lo w v k T) (h0:-(HB:Int)<T) (h1:T<(HB:Int)) :
 Calls Tryz.prog 139 #[.pointer (some ⟨g,0,none⟩),v] w (VZ g w (tT V s k T)):=by
 obtain ⟨L,a1,a2,a3,a4,a5,a6⟩:=hA;obtain ⟨ng,a,n,c,p,xs,_,rfl,hx,hp,hv⟩:=ht;exact M6 g L xs V T s k ng a n c p w hs hk a6 a1 a2 a3 a4 a5 hx hp hv h0 h1
theorem Z8 (g:Nat) (V:Int) (s:Sp) (x:Nat) (w:World) (hA:mo w g V s) (hs:s.ok) (hx:x<18446744073709551616) :
 Calls Tryz.prog 111 #[.pointer (some ⟨g,0,none⟩),.float .f64 x] w (VZ g w (tT V s (pK x 4607182418800017408) (pT x 4607182418800017408))):=by
 obtain ⟨X,hX⟩:=ah (tT V s (pK x 4607182418800017408) (pT x 4607182418800017408));rw [<-hX];have HP:=hid (fun u:World=>Qn x hx u);have HB:=ay (BN x 4607182418800017408 hx aO);have HA:=fB hA hs hX;clear hA hs hX hx;go_enter Tryz.func111,Tryz.ntmps111;go_wp2_with fail;refine (HP.o _).mono ?_;rintro r w1 ⟨v,rfl,hT,hb⟩;have HT:=bB hT hb;clear hT hb;go_wp2_with fail;have CP:=WR g V (pT x 4607182418800017408) s (pK x 4607182418800017408) w.heap.size v w1 (HA.o.1.aF HT.o.2) HA.o.2.1 (GI _ _ _) HT.o.1 HB.o.1 HB.o.2;rw [<-HA.o.r2] at CP;refine CP.mono ?_;rintro r w2 hD;have HD:=ay hD;obtain ⟨rfl,_,_⟩:=hD;clear CP;go_wp2;go_ret;exact ⟨rfl,HD.o.2.1,((But.refl g w).pq HT.o.2).trans HD.o.r2⟩
theorem BZ (g:Nat) (V:Int) (s:Sp) (x y:Nat) (w:World) (hA:mo w g V s) (hs:s.ok) (hx:x<18446744073709551616) (hy:y<18446744073709551616) :
 Calls Tryz.prog 95 #[.pointer (some ⟨g,0,none⟩),.float .f64 x,.float .f64 y] w (VZ g w (tT V s (pK x y) (pT x y))):=by
 obtain ⟨X,hX⟩:=ah (tT V s (pK x y) (pT x y));rw [<-hX];have HP:=hid (fun u:World=>BO x y hx hy u);have HB:=ay (BN x y hx hy);have HA:=fB hA hs hX;clear hA hs hX hx hy;go_enter Tryz.func95,Tryz.ntmps95;go_wp2_with fail;refine (HP.o _).mono ?_;rintro r w1 ⟨v,rfl,hT,hb⟩;have HT:=bB hT hb;clear hT hb;go_wp2_with fail;have CP:=WR g V (pT x y) s (pK x y) w.heap.size v w1 (HA.o.1.aF HT.o.2) HA.o.2.1 (GI _ _ _) HT.o.1 HB.o.1 HB.o.2;rw [<-HA.o.r2] at CP;refine CP.mono ?_;rintro r w2 hD;have HD:=ay hD;obtain ⟨rfl,_,_⟩:=hD;clear CP;go_wp2;go_ret;exact ⟨rfl,HD.o.2.1,((But.refl g w).pq HT.o.2).trans HD.o.r2⟩
theorem M7 (N:Nat) (V:Int) (h:(N:Int)=V%(PB:Int)) (h0:-(HB:Int)<V) (h1:V<(HB:Int)):ru N=decide (V<0)/\Mk N=V.natAbs:=by
 have e:=SV;have hp:=q9;unfold Mk ru
 by_cases hv:0<=V
 · rw [xe hv ae] at h;rw [decide_eq_false ae,decide_eq_false ae];refine ⟨rfl,?_⟩;rw [if_neg aO];omega
 · have h2:V%(PB:Int)=V+PB:=by
    rw [<-Int.add_emod_right,xe ae ae]
   rw [h2] at h;rw [decide_eq_true ae,decide_eq_true ae];refine ⟨rfl,?_⟩;rw [if_pos rfl];omega
def GJ (V:Int):Option (Bool×Nat×Int):=mkS (decide (V<0)) V.natAbs (-2148)
theorem _root_.Nat.le.ne7 {a b c:Nat}(h:a<=b) (e:a=c+1):b≠c:=ae
theorem Nt.lo7 {lo k:Nat}{w:World}{v:Value}{X:Nat}(h:Nt lo w v X) (hk:k<=lo):k<=lo:=hk
theorem Tryz.vg:∃ d:TypeDesc,Tryz.prog.underlying 62=some d/\d.isRow=true:=by
 have h:(Tryz.prog.underlying 62).any (·.isRow)=true:=by kernel_rfl
 obtain ⟨d,h1,h2⟩:=(Option.any_eq_true _ _).1 h;exact ⟨d,h1,h2⟩
theorem Tryz.rC:(Tryz.prog.info? 62).map (·.size)=some 3:=by kernel_rfl
theorem jB {fn:Func}{p:Tmp}{ty:TypeId}(h:fn.results=#[.cell p ty]) (tmps:Array Value) (w:World) (g:Nat) (cs:List Value)
 (hp:tmps.getD p undef=.pointer (some ⟨g,0,none⟩)) (hg:Bl w g ty cs) (hdr:∃ d:TypeDesc,Tryz.prog.underlying ty=some d/\d.isRow=true) (hi:(Tryz.prog.info? ty).map (·.size)=some cs.toArray.size) :
 (results fn tmps).run Tryz.prog w=.ok (.agg cs.toArray) w:=by
 obtain ⟨d,h1,h2⟩:=hdr
 cases d <;> first
  | exact results_cell_row (P:=Tryz.prog) h tmps w g ty _ _ _ hp hg h1 rfl hi
  | exact absurd h2 (by simp [TypeDesc.isRow])
theorem Ca {w base:World}{tmps:Array Value}{o:Option (Bool×Nat×Int)}{v x y z:Value}{lo:Nat}(h2:tmps.getD 2 undef=.pointer (some ⟨w.heap.size,0,none⟩))
 (hZ:Bl base w.heap.size 62 [x,y,z]) (hbw:Below w.heap.size w base) (hN:Nt lo base v (dX o)) (hlo:w.heap.size<lo) :
 bodyPost Tryz.prog Tryz.f96 (fun r w'=>∃ v,r=.returned (.agg #[.bool (dN o),v,.int .i64 (dE o)])/\Nt w.heap.size w' v (dX o)/\Below w.heap.size w w') .ret ⟨tmps,[]⟩
  (((base.setCell ⟨w.heap.size,0,none⟩ (.bool (dN o))).setCell ⟨w.heap.size,1,none⟩ v).setCell ⟨w.heap.size,2,none⟩ (.int .i64 (dE o))):=by
 have q:Bl (((base.setCell ⟨w.heap.size,0,none⟩ (.bool (dN o))).setCell ⟨w.heap.size,1,none⟩ v).setCell ⟨w.heap.size,2,none⟩ (.int .i64 (dE o))) w.heap.size 62 [.bool (dN o),v,.int .i64 (dE o)]:=((hZ.set 0 _).set 1 _).set 2 _;have aG:But w.heap.size base (((base.setCell ⟨w.heap.size,0,none⟩ (.bool (dN o))).setCell ⟨w.heap.size,1,none⟩ v).setCell ⟨w.heap.size,2,none⟩ (.int .i64 (dE o))):=(((But.refl _ _).set 0 _).set 1 _).set 2 _;refine aI (v:=.agg #[.bool (dN o),v,.int .i64 (dE o)]) (jB Tryz.results96 _ _ w.heap.size [.bool (dN o),v,.int .i64 (dE o)] h2 q Tryz.vg (by rw [Tryz.rC];rfl)) rfl ?_;exact ⟨v,rfl,(hN.MZ aG hlo).mono ae,But.below hbw aG hbw.size (aH _)⟩
theorem zi {w base:World}{tmps:Array Value}{o:Option (Bool×Nat×Int)}{v x y z:Value}{lo:Nat}{ob:Obj}(h2:tmps.getD 2 undef=.pointer (some ⟨w.heap.size,0,none⟩))
 (hZ:Bl base w.heap.size 62 [x,y,z]) (hbw:Below w.heap.size w base) (hN:Nt lo base v (dX o)) (hlo:w.heap.size<lo) :
 bodyPost Tryz.prog Tryz.f96 (fun r w'=>∃ v,r=.returned (.agg #[.bool (dN o),v,.int .i64 (dE o)])/\Nt w.heap.size w' v (dX o)/\Below w.heap.size w w') .ret ⟨tmps,[]⟩
  ((((base.setCell ⟨w.heap.size,0,none⟩ (.bool (dN o))).setCell ⟨w.heap.size,1,none⟩ v).setCell ⟨w.heap.size,2,none⟩ (.int .i64 (dE o))).alloc ob):=by
 have q:Bl (((base.setCell ⟨w.heap.size,0,none⟩ (.bool (dN o))).setCell ⟨w.heap.size,1,none⟩ v).setCell ⟨w.heap.size,2,none⟩ (.int .i64 (dE o))) w.heap.size 62 [.bool (dN o),v,.int .i64 (dE o)]:=((hZ.set 0 _).set 1 _).set 2 _;have aG:But w.heap.size base (((base.setCell ⟨w.heap.size,0,none⟩ (.bool (dN o))).setCell ⟨w.heap.size,1,none⟩ v).setCell ⟨w.heap.size,2,none⟩ (.int .i64 (dE o))):=(((But.refl _ _).set 0 _).set 1 _).set 2 _;have hW:=But.below hbw aG hbw.size (aH _);refine aI (v:=.agg #[.bool (dN o),v,.int .i64 (dE o)]) (jB Tryz.results96 _ _ w.heap.size [.bool (dN o),v,.int .i64 (dE o)] h2 (q.alloc ob) Tryz.vg (by rw [Tryz.rC];rfl)) rfl ?_;exact ⟨v,rfl,((hN.MZ aG hlo).mono ae).below (au _ _),hW.trans ((au _ _).mono hW.size)⟩
theorem M8 (g:Nat) (V:Int) (s:Sp) (w:World) (hA:mo w g V s) (hT:il w):Calls Tryz.prog 96 #[.pointer (some ⟨g,0,none⟩)] w fun r w' =>
 ∃ v,r=.returned (.agg #[.bool (dN (GJ V)),v,.int .i64 (dE (GJ V))])/\Nt w.heap.size w' v (dX (GJ V))/\Below w.heap.size w w':=by
 obtain ⟨o,ho⟩:=ah (GJ V);rw [<-ho];obtain ⟨L,a1,a2,a3,a4,a5,a6⟩:=hA;have hnm:=M7 (val L) V a3 a4 a5;have HA:=jE a1 a2 a6.hd hT ho hnm;have hlt:=a6.lt;clear a1 a2 a3 a4 a5 a6 hT ho hnm;have WS:=ay hlt;clear hlt;obtain ⟨W1,hW1⟩:=ah (w.alloc (.cells #[.bool false,.slice none 0 0,.int .i64 0] 62))
 have H1:Aside (Below w.heap.size w W1/\Bl W1 w.heap.size 62 [.bool false,.slice none 0 0,.int .i64 0]/\W1.heap.size=w.heap.size+1):=by
  subst hW1;exact ⟨au _ _,Bl.new _ 62 [_,_,_],aW⟩
 go_enter Tryz.func96,Tryz.ntmps96;go_wp2;rw [<-hW1];clear hW1;have BB:Aside (Below W1.heap.size W1 W1.drew):=(ak _ _).drew;have HH:Aside (∀ W:World,Below W1.heap.size W1 W->Hd W g L):=fun W h=>(HA.o.r2.1.below H1.o.1 WS.o (aH _)).below h (iF WS.o H1.o.1.size) (aH _);have HTT:Aside (∀ W:World,Below W1.heap.size W1 W->il W):=fun W h=>(HA.o.r3.1.belows H1.o.1).belows h
 go_region_with (first
  | (go_at_call 141
     with_reducible refine (xP g L _ HA.o.1 HA.o.2.1 (HH.o _ (by first | exact BB.o | exact BB.o.trans ((au _ _).mono BB.o.size) | exact (au _ _).drew))).mono ?_
     rintro r u ⟨rfl,rfl⟩)
  | (go_at_call 142
     with_reducible refine (I9 L g _ HA.o.1 HA.o.2.1 (HH.o _ (by first | exact BB.o | exact BB.o.trans ((au _ _).mono BB.o.size) | exact (au _ _).drew))).mono ?_
     rintro r u ⟨b,cap,M,rfl,hM,oz,hb⟩;have hu:Below W1.heap.size W1 u:=by first | exact BB.o.trans (hb.mono BB.o.size) | exact (BB.o.trans ((au _ _).mono BB.o.size)).trans (hb.mono (by have:=BB.o.size;simp;omega)) | exact ((au _ _).drew).trans (hb.mono aW)
     try have DZ:=bB (DZ.o.1.below hb DZ.o.1.lt) DZ.o.2
     try have DZ:=bB ((Bl.new _ 62 [Value.bool false,Value.slice none 0 0,Value.int .i64 0]).below hb aW) BB.o.size
     try have DZ:=bB ((Bl.new W1 62 [Value.bool false,Value.slice none 0 0,Value.int .i64 0]).drew.below hb aW) (aH W1.heap.size)
     have BB:=ay hu;have HM:=bB hM (show mkS (ru (val L)) (val M) (-2148)=o by rw [HA.o.r4.1,oz,HA.o.r5.1,HA.o.r6];rfl)
     clear hM oz hb hu)
  | (go_at_call 86
     with_reducible refine (fP (by first | exact HM.o.1 | exact HM.o.1.below (au _ _)) (HTT.o _ (by first | exact BB.o | exact BB.o.trans ((au _ _).mono BB.o.size) | exact (au _ _).drew)) (ru (val L)) (-2148) aO aO).mono ?_
     rintro r u ⟨hD,hb⟩;rw [HM.o.2] at hD;obtain ⟨v,rfl,hN⟩:=hD
     try have DL:=ay DZ.o.1.lt
     have hu:Below W1.heap.size W1 u:=by first | exact BB.o.trans (hb.mono BB.o.size) | exact (BB.o.trans ((au _ _).mono BB.o.size)).trans (hb.mono (by have:=BB.o.size;simp;omega)) | exact ((au _ _).drew).trans (hb.mono aW)
     try have DZ:=bB (DZ.o.1.below hb DZ.o.1.lt) DZ.o.2
     try have DZ:=bB ((Bl.new _ 62 [Value.bool false,Value.slice none 0 0,Value.int .i64 0]).below hb aW) BB.o.size
     try have DZ:=bB ((Bl.new W1 62 [Value.bool false,Value.slice none 0 0,Value.int .i64 0]).drew.below hb aW) (aH W1.heap.size)
     have Dp:=ai hN (hN.lo7 (k:=W1.heap.size) (by first | exact BB.o.size | (have:=BB.o.size;simp;omega)))
     obtain ⟨a,c,rfl,_⟩:=hN.arg (by
      refine dD ((aV _ 133).2 ?_) aO;have e:=HM.o.2;have hm:=cK M HM.o.1.wf;rw [<-HM.o.1.len] at hm;rw [<-e];refine iy ?_ hm;unfold mkS dX
      split
      · exact lh _
      · split
        · exact lh _
        · exact oL _ _)
     have HN:=bB Dp hu;have Z:=ay (H1.o.2.1.below hu (by have:=H1.o.r2;omega));have z0:=Z.o.cell 0 _ rfl;have z1:=Z.o.cell 1 _ rfl;have z2:=Z.o.cell 2 _ rfl;have g0:=Z.o.frozen 0;have g1:=Z.o.frozen 1;have g2:=Z.o.frozen 2
     try have d0:=DZ.o.1.cell 0 _ rfl
     try have d1:=DZ.o.1.cell 1 _ rfl
     try have d2:=DZ.o.1.cell 2 _ rfl
     try have e0:=DZ.o.1.frozen 0
     try have e1:=DZ.o.1.frozen 1
     try have e2:=DZ.o.1.frozen 2
     have VW:w.heap.size<u.heap.size:=Z.o.lt
     try have nx:=DZ.o.2.ne7 H1.o.r2
     try have ny:=nx.symm
     clear hN Dp hb hu))
 all_goals (
  clear HM HA HH HTT BB;go_wp2;have hW:Below w.heap.size w u:=H1.o.1.trans (HN.o.2.mono H1.o.1.size);have hlo:=HN.o.1.2;have hl1:=H1.o.r2
  first
   | (with_reducible refine zi (x:=.bool false) (y:=.slice none 0 0) (z:=.int .i64 0) ?_ Z.o hW HN.o.1.1 ae
      rfl)
   | (with_reducible refine Ca (x:=.bool false) (y:=.slice none 0 0) (z:=.int .i64 0) ?_ (Bl.but Z.o ((((But.refl _ _).set 0 _).set 1 _).set 2 _) ny) (But.below hW ((((But.refl _ _).set 0 _).set 1 _).set 2 _) hW.size (by have:=DZ.o.2;omega)) (HN.o.1.1.MZ ((((But.refl _ _).set 0 _).set 1 _).set 2 _) (by first | exact DL.o | (simp;done) | (simp;omega))) ae
      rfl))
end
namespace B
theorem M9 (s t:Bool) (e f u v:Nat) (he:e<2048) (hf:f<4503599627370496) (hu:u<2048) (hv:v<4503599627370496) :
 (FloatKind.f64.format.order (bw s e f) (bw t u v)==some .lt)=(!odd e f&&(!odd u v&&decide (pl s e f<pl t u v))):=by
 rw [ord s t e f u v he hf hu hv]
 cases odd e f <;> cases odd u v <;> simp
 by_cases h:pl s e f<pl t u v
 · rw [sD.2 h];simp [h]
 · rw [decide_eq_false h]
   by_cases h2:pl t u v<pl s e f
   · rw [sF.2 h2];rfl
   · rw [sG.2 ae];rfl
theorem Ub (s t:Bool) (e f u v:Nat) (he:e<2048) (hf:f<4503599627370496) (hu:u<2048) (hv:v<4503599627370496) :
 (FloatKind.f64.format.order (bw s e f) (bw t u v)==some .gt)=(!odd e f&&(!odd u v&&decide (pl t u v<pl s e f))):=by
 rw [ord s t e f u v he hf hu hv]
 cases odd e f <;> cases odd u v <;> simp
 by_cases h:pl t u v<pl s e f
 · rw [sF.2 h];simp [h]
 · rw [decide_eq_false h]
   by_cases h2:pl s e f<pl t u v
   · rw [sD.2 h2];rfl
   · rw [sG.2 ae];rfl
theorem Uc (s t:Bool) (e f u v:Nat) (he:e<2048) (hf:f<4503599627370496) (hu:u<2048) (hv:v<4503599627370496) :
 (FloatKind.f64.format.order (bw s e f) (bw t u v)==some .eq)=(!odd e f&&(!odd u v&&decide (pl s e f=pl t u v))):=by
 rw [ord s t e f u v he hf hu hv]
 cases odd e f <;> cases odd u v <;> simp
 by_cases h:pl s e f<pl t u v
 · rw [sD.2 h,decide_eq_false ae];rfl
 · by_cases h2:pl t u v<pl s e f
   · rw [sF.2 h2,decide_eq_false ae];rfl
   · rw [sG.2 ae,decide_eq_true ae];rfl
theorem zk (e f:Nat) (h:e<2047):odd e f=false:=by
 have:(e==2047)=false:=by simp;omega
 simp [odd,this]
theorem Nc (e:Nat):odd e 0=false:=by simp [odd]
theorem GK:bw false 0 0=0:=rfl
theorem Ud:bw false 2046 4503599627370495=9218868437227405311:=rfl
theorem Ue (s:Bool) (e f:Nat) (he:e<2048) (hf:f<4503599627370496) :
 (FloatKind.f64.format.order (bw s e f) 9218868437227405311==some .gt)=(!s&&(e==2047&&f==0)):=by
 have h:=Ub s false e f 2046 4503599627370495 he hf ae ae;rw [Ud] at h;rw [h,zk 2046 _ ae]
 cases ho:odd e f
 · have:=Gw e f ho;rw [xw]
   cases s <;> simp [pl,sg] <;> omega
 · obtain ⟨h1,h2⟩:=Ms e f ho;have h3:(f==0)=false:=by simp [h2]
   simp [h1,h3]
theorem GL (s:Bool) (e f:Nat) (he:e<2048) (hf:f<4503599627370496) :
 (FloatKind.f64.format.order (bw s e f) 0==some .eq)=(e==0&&f==0):=by
 have h:=Uc s false e f 0 0 he hf ae ae;rw [GK] at h;rw [h,zk 0 _ ae]
 cases ho:odd e f
 · rw [xw]
   cases s <;> simp [pl,sg] <;> omega
 · obtain ⟨h1,h2⟩:=Ms e f ho;have h3:(e==0)=false:=by simp [h1]
   simp [h3]
theorem GM (s:Bool) (e f:Nat) (he:e<2048) (hf:f<4503599627370496) (ho:odd e f=false) (hz:(e==0&&f==0)=false) :
 (FloatKind.f64.format.order (bw s e f) 0==some .lt)=s:=by
 have h:=M9 s false e f 0 0 he hf ae ae;rw [GK] at h;rw [h,zk 0 _ ae,ho];have hz':¬ (e=0/\f=0):=by rintro ⟨rfl,rfl⟩;simp at hz
 rw [xw]
 cases s <;> simp [pl,sg] <;> omega
theorem Nf (s:Bool) (e f:Nat) (he:e<2048) (hf:f<4503599627370496):bits .andNot .u64 ((bw s e f:Nat):Int) 9223372036854775808=(bw false e f:Int):=by
 have h:=u64_andNot_nat (bw s e f) 9223372036854775808 (ql s e f he hf) ae;rw [show (((9223372036854775808:Nat)):Int)=9223372036854775808 from rfl] at h;rw [h,show 18446744073709551615-9223372036854775808=2^63-1 from rfl,DJ];congr 1;unfold bw;cases s <;> simp only [jc,jd] <;> omega
end B
section
open Go.RowKit
open Go.Proofs.YtblkpkgebigojaaGreatDoor.B (bO aJ bw)
attribute [local go_sem] bO aJ
def kn (a:Int):Bool:=decide (0<=a)&&decide (a<=2)
def may (a b:Int):Bool:=kn a&&kn b
theorem rD (a:Int) (w:World):Calls Tryz.prog 189 #[.int .i64 a] w fun r w'=>r=.returned (.bool (kn a))/\w'=w:=by
 unfold kn
 by_cases h:0<=a
 · have hd:decide (0<=a)=true:=decide_eq_true h;rw [hd];go_enter Tryz.func189,Tryz.ntmps189;go_wp2;go_ret;exact ⟨by first | rfl | simp,rfl⟩
 · have hd:decide (0<=a)=false:=decide_eq_false h;rw [hd];go_enter Tryz.func189,Tryz.ntmps189;go_wp2;go_ret;exact ⟨by first | rfl | simp,rfl⟩
theorem zl (a b:Int) (w:World):Calls Tryz.prog 145 #[.agg #[.int .i64 a,.int .i64 b]] w fun r w'=>r=.returned (.bool (may a b))/\Below w.heap.size w w':=by
 unfold may;rcases ha:kn a with _|_
 · have H:=hid (fun w=>ha ▸ rD a w);clear ha;go_enter Tryz.func145,Tryz.ntmps145;go_wp2_with fail;refine (H.o _).mono ?_;rintro r w1 ⟨rfl,rfl⟩;go_wp2;go_ret;exact ⟨rfl,(ak _ _).alloc (aH _) _⟩
 · have H:=hid (fun w=>ha ▸ rD a w);have H2:=hid (fun w=>rD b w);obtain ⟨kb,hkb⟩:∃ k,kn b=k:=⟨_,rfl⟩;rw [hkb] at H2 |-;clear ha hkb;go_enter Tryz.func145,Tryz.ntmps145;go_wp2_with fail;refine (H.o _).mono ?_;rintro r w1 ⟨rfl,rfl⟩;go_wp2_with fail;refine (H2.o _).mono ?_;rintro r w1 ⟨rfl,rfl⟩;go_wp2;go_ret;exact ⟨by first | rfl | simp,(ak _ _).alloc (aH _) _⟩
open Go.RowKit
open Go.Proofs.YtblkpkgebigojaaGreatDoor.B (bO aJ bw cO)
attribute [local go_sem] bO aJ
end
section
open Go.RowKit
theorem lD {w:World}{a:Option Addr}{n c:Nat}{xs:List Nat}(h1:Arg w a n c xs) (hn:n<=2000000) (neg:Bool) (e:Int) (he0:-9223372036854775808<=e) (he1:e<=9223372036854775807) :
 Calls Tryz.prog 117 #[.agg #[.bool neg,.slice a n c,.int .i64 e]] w fun r w'=>zf w.heap.size w' r (mkS neg (val xs) e)/\Below w.heap.size w w':=by
 have HB:=ay (show Below w.heap.size w ((w.alloc (.cells #[.bool neg,.slice a n c,.int .i64 e] 62)).alloc (.cells #[.bool false,.slice none 0 0,.int .i64 0] 62)) from (((ak _ _).alloc (aH _) _).alloc aW _));have H1:=hid (nZ (h1.below HB.o) hn neg e he0 he1);have hl:=aS neg (val xs) e;obtain ⟨o,ho⟩:∃ o,mkS neg (val xs) e=o:=⟨_,rfl⟩;rw [ho] at H1 hl |-;unfold zf at H1 |-;obtain ⟨dn,hdn⟩:∃ d,dN o=d:=⟨_,rfl⟩;obtain ⟨X,Ez⟩:∃ d,dX o=d:=⟨_,rfl⟩;obtain ⟨de,hde⟩:∃ d,dE o=d:=⟨_,rfl⟩;obtain ⟨er,her⟩:∃ d,o.isSome=d:=⟨_,rfl⟩;rw [hdn,Ez,hde,her] at H1 |-;rw [Ez] at hl;clear h1 ho hdn Ez hde her hn he0 he1;go_enter Tryz.func117,Tryz.ntmps117;go_wp2_with fail;refine H1.o.mono ?_;rintro r w2 ⟨⟨v,rfl,hN⟩,hb⟩;obtain ⟨a2,c2,rfl,_⟩:=hN.arg ae;obtain ⟨hc,hf⟩:=cO hb;have HF:=ay (Fin.of 2 HB.o aW hN hb);have hz:w.heap.size+1<w2.heap.size:=by have:=hb.size;simp at this;omega
 clear hN hb;go_wp2;exact aI (v:=.tuple #[.agg #[.bool dn,.slice a2 (ws X).length c2,.int .i64 de],.bool er]) (by simp [results,Tryz.results117,go_sem,hc]) rfl (Fin.jA (m:=w.heap.size+2) (by repeat (first | exact HF.o | refine Fin.alloc ?_ _ | refine Fin.set ?_ _ _ _ ae ae)) ae)
theorem lG {w:World}{a:Option Addr}{n c:Nat}{xs:List Nat}(h1:Arg w a n c xs) (hT:il w) (neg:Bool) (e:Int) (he0:-9223372036854775808<=e) (he1:e<=9223372036854775807) :
 Calls Tryz.prog 156 #[.agg #[.bool neg,.slice a n c,.int .i64 e]] w fun r w'=>di w.heap.size w' r (mkS neg (val xs) e)/\Below w.heap.size w w':=by
 have HB:=ay (show Below w.heap.size w ((w.alloc (.cells #[.bool neg,.slice a n c,.int .i64 e] 62)).alloc (.cells #[.bool false,.slice none 0 0,.int .i64 0] 62)) from (((ak _ _).alloc (aH _) _).alloc aW _));have H1:=hid (fP (h1.below HB.o) (hT.belows HB.o) neg e he0 he1);have hl:=aS neg (val xs) e;obtain ⟨o,ho⟩:∃ o,mkS neg (val xs) e=o:=⟨_,rfl⟩;rw [ho] at H1 hl |-;unfold di at H1 |-;obtain ⟨dn,hdn⟩:∃ d,dN o=d:=⟨_,rfl⟩;obtain ⟨X,Ez⟩:∃ d,dX o=d:=⟨_,rfl⟩;obtain ⟨de,hde⟩:∃ d,dE o=d:=⟨_,rfl⟩;obtain ⟨er,her⟩:∃ d,uw o=d:=⟨_,rfl⟩;rw [hdn,Ez,hde,her] at H1 |-;rw [Ez] at hl;clear h1 ho hdn Ez hde her hT he0 he1;go_enter Tryz.func156,Tryz.ntmps156;go_wp2_with fail;refine H1.o.mono ?_;rintro r w2 ⟨⟨v,rfl,hN⟩,hb⟩;obtain ⟨a2,c2,rfl,_⟩:=hN.arg ae;obtain ⟨hc,hf⟩:=cO hb;have HF:=ay (Fin.of 2 HB.o aW hN hb);have hz:w.heap.size+1<w2.heap.size:=by have:=hb.size;simp at this;omega
 clear hN hb;go_wp2;exact aI (v:=.tuple #[.agg #[.bool dn,.slice a2 (ws X).length c2,.int .i64 de],.int .i64 er]) (by simp [results,Tryz.results156,go_sem,hc]) rfl (Fin.jA (m:=w.heap.size+2) (by repeat (first | exact HF.o | refine Fin.alloc ?_ _ | refine Fin.set ?_ _ _ _ ae ae)) ae)
def dP (lo:Nat) (w:World) (r:Ending) (o:Option (Bool×Nat×Int)):Prop :=
 ∃ v,r=.returned (.agg #[.bool (dN o),v,.int .i64 (dE o)])/\Nt lo w v (dX o)
theorem Fin.Qo {lo m:Nat}{w0 w:World}{n:Bool}{v:Value}{X:Nat}{e:Int}(H:Fin lo m w0 w v X) (h:lo<=m) :
 (∃ v',Ending.returned (.agg #[.bool n,v,.int .i64 e])=.returned (.agg #[.bool n,v',.int .i64 e])/\Nt lo w v' X)/\Below lo w0 w:=⟨⟨v,rfl,H.nt.mono h⟩,H.aF⟩
theorem EC (a:Option Addr) (n c:Nat) (neg:Bool) (e:Int) (w:World) :
 Calls Tryz.prog 161 #[.agg #[.bool neg,.slice a n c,.int .i64 e]] w fun r w'=>r=.returned (.agg #[.bool (!neg),.slice a n c,.int .i64 e])/\Below w.heap.size w w':=by
 go_enter Tryz.func161,Tryz.ntmps161;go_wp2;exact aI (v:=.agg #[.bool (!neg),.slice a n c,.int .i64 e]) (by simp [results,Tryz.results161,go_sem]) rfl ⟨rfl,by repeat (first | exact ak _ _ | refine Below.alloc ?_ (by first | omega | simp) _ | refine Below.nH ?_ _ _ _ ae aW)⟩
theorem Cb (a:Option Addr) (n c:Nat) (neg:Bool) (e:Int) (w:World) :
 Calls Tryz.prog 120 #[.agg #[.bool neg,.slice a n c,.int .i64 e]] w fun r w'=>r=.returned (.agg #[.bool (!neg),.slice a n c,.int .i64 e])/\Below w.heap.size w w':=by
 go_enter Tryz.func120,Tryz.ntmps120;go_wp2;exact aI (v:=.agg #[.bool (!neg),.slice a n c,.int .i64 e]) (by simp [results,Tryz.results120,go_sem]) rfl ⟨rfl,by repeat (first | exact ak _ _ | refine Below.alloc ?_ (by first | omega | simp) _ | refine Below.nH ?_ _ _ _ ae aW)⟩
end
namespace B
open Go.RowKit
attribute [local go_sem] bO aJ
theorem GN (a c:Bool) (k l x y f g:Int) (w:World):(Op.equalIn 10000 104 (.agg #[.bool a,.int .i64 k,.int .i64 x,.int .u64 f]) (.agg #[.bool c,.int .i64 l,.int .i64 y,.int .u64 g])).run Tryz.prog w=.ok (a==c&&(k==l&&(x==y&&f==g))) w:=by
 have u3:=Tryz.underlying3;have u4:=Tryz.underlying4;have u23:=Tryz.underlying52;have hS:Tryz.prog.underlying 104=some (.struct (Tryz.prog.fieldsOf 104)):=by kernel_rfl
 have hp:Tryz.prog.stoodInHeld 104=false:=by kernel_rfl
 rw [show (10000:Nat)=9999+1 from rfl,run_equalIn_agg w 9999 104 _ _ hS hp];simp only [Program.fieldsOf,Tryz.underlying104];go_simp
 by_cases h1:a=c <;> by_cases h2:k=l <;> by_cases h3:x=y <;> by_cases h4:f=g <;> simp [h1,h2,h3,h4]
attribute [local go_sem] GN
theorem WT (a:Bool) (k x f:Int) (w:World):(Instr.field 104 (.agg #[.bool a,.int .i64 k,.int .i64 x,.int .u64 f]) 0).run Tryz.prog w=.ok (.bool a) w:=by kernel_rfl
theorem WU (a:Bool) (k x f:Int) (w:World):(Instr.field 104 (.agg #[.bool a,.int .i64 k,.int .i64 x,.int .u64 f]) 1).run Tryz.prog w=.ok (.int .i64 k) w:=by kernel_rfl
theorem WV (a:Bool) (k x f:Int) (w:World):(Instr.field 104 (.agg #[.bool a,.int .i64 k,.int .i64 x,.int .u64 f]) 2).run Tryz.prog w=.ok (.int .i64 x) w:=by kernel_rfl
theorem WW (a:Bool) (k x f:Int) (w:World):(Instr.field 104 (.agg #[.bool a,.int .i64 k,.int .i64 x,.int .u64 f]) 3).run Tryz.prog w=.ok (.int .u64 f) w:=by kernel_rfl
attribute [local go_sem] WT WU WV WW
theorem Js (s:Bool) (e f:Nat) (he:e<2048) (hf:f<4503599627370496) (w:World) :
 Calls Tryz.prog 133 #[.int .u64 (bw s e f),.int .i64 11,.int .i64 52] w fun r w'=>r=.returned (.agg #[.bool (ng s e f),.int .i64 (cls e f),.int .i64 (xp e),.int .u64 (fr e f)])/\Below w.heap.size w w' :=
 nX s e f he hf w
theorem WX (s:Bool) (e f:Nat) (he:e<2048) (hf:f<4503599627370496):∃ t u v,u<2048/\v<4503599627370496/\cb s e f=bw t u v/\(Value.agg #[.bool (ng t u v),.int .i64 (cls u v),.int .i64 (xp u),.int .u64 (fr u v)])=(.agg #[.bool (ng s e f),.int .i64 (cls e f),.int .i64 (xp e),.int .u64 (fr e f)]):=by
 by_cases h:e=2047/\f≠0
 · refine ⟨false,2047,2251799813685248,ae,ae,?_,?_⟩
   · rw [Mt s e f h];rfl
   · obtain ⟨rfl,h2⟩:=h;simp [ng,cls,xp,fr,h2]
 · exact ⟨s,e,f,he,hf,Gx s e f h,rfl⟩
theorem ED (s:Bool) (e f:Nat) (he:e<2048) (hf:f<4503599627370496) (w:World) :
 Calls Tryz.prog 90 #[.float .f64 (bw s e f)] w fun r w'=>r=.returned (.agg #[.bool (ng s e f),.int .i64 (cls e f),.int .i64 (xp e),.int .u64 (fr e f)])/\Below w.heap.size w w':=by
 obtain ⟨t,u,v,hu,hv,hE,hV⟩:=WX s e f he hf;have HE:Hid (cb s e f=bw t u v):=hE;rw [<-hV];clear hE hV;go_enter Tryz.func90,Tryz.ntmps90
 go_wp2_with (first
  | (go_at_call 134;refine (ry s e f he hf _).mono ?_;rintro r w1 ⟨rfl,rfl⟩;rw [HE.o])
  | (go_at_call 133;refine (Js t u v hu hv _).mono ?_;rintro r w1 ⟨rfl,hb⟩;(obtain ⟨hc,hfz⟩:=cO hb;have hz:w.heap.size<w1.heap.size:=by (have:=hb.size;simp at this;omega))))
 exact aI (v:=.agg #[.bool (ng t u v),.int .i64 (cls u v),.int .i64 (xp u),.int .u64 (fr u v)]) (by simp [results,Tryz.results90,go_sem,hc]) rfl ⟨rfl,(by repeat (first | exact ak _ _ | exact ((ak _ _).alloc (aH _) _).trans (hb.mono aW) | exact aH _ | (simp;done) | (simp;omega) | refine Below.alloc ?_ ?_ _ | refine Below.setCell ?_ ?_ _ | refine jF ?_))⟩
theorem EF (s:Bool) (e f:Nat) (he:e<2048) (hf:f<4503599627370496) (w:World) :
 Calls Tryz.prog 54 #[.float .f64 (bw s e f)] w fun r w'=>r=.returned (.int .i64 (cls e f))/\Below w.heap.size w w':=by
 go_enter Tryz.func54,Tryz.ntmps54
 go_wp2_with (go_at_call 90;refine (ED s e f he hf _).mono ?_;rintro r w1 ⟨rfl,hb⟩)
 go_ret;exact ⟨rfl,hb⟩
end B
namespace B
open Go.RowKit
attribute [local go_sem] bO aJ
theorem zm (s:Bool) (e f:Nat) (he:e<2048) (hf:f<4503599627370496) (w:World) :
 Calls Tryz.prog 85 #[.float .f64 (bw s e f)] w fun r w'=>r=.returned (.float .f64 (bw false e f))/\w'=w:=by
 have h1:=Nf s e f he hf;go_enter Tryz.func85,Tryz.ntmps85;go_wp2;go_ret;exact ⟨rfl,rfl⟩
end B
section
open Go.RowKit
attribute [local go_sem] B.GN B.WT B.WU B.WV B.WW
def V6 (s:Bool) (e f:Nat):Option (Bool×Nat×Int):=if e=2047 then none else mkS s (if e=0 then f else f+4503599627370496) (if e=0 then -1074 else (e:Int)-1075)
def SY (e:Nat):Int:=if e=2047 then 30 else 0
def WY (lo:Nat) (w:World) (r:Ending) (o:Option (Bool×Nat×Int)) (er:Int):Prop :=
 ∃ v,r=.returned (.tuple #[.agg #[.bool (dN o),v,.int .i64 (dE o)],.int .i64 er])/\Nt lo w v (dX o)
theorem qz (X:Nat) (h:X<9007199254740992):bl X<=53:=by
 by_cases h0:X=0
 · subst h0;rw [dJ];omega
 · have:=(jP (a:=2) ae).1 (iy (iG X h0) (show X<2^53 from h));omega
theorem GQ (s:Bool) (X:Nat) (x:Int) (hX:X<9007199254740992) (h0:-1100<=x) (h1:x<=1000):∃ d,mkS s X x=some d:=by
 unfold mkS
 by_cases h:X=0
 · rw [if_pos h];exact ⟨_,rfl⟩
 · rw [if_neg h];obtain ⟨m,_,_,hb⟩:=iB X h;have:=qz X hX;rw [if_neg ae];exact ⟨_,rfl⟩
theorem Qp (s:Bool) (b:Nat) (F:Nat) (k x:Int) (w:World) (hT:il w) (hF:F<9007199254740992) (hx0:-1100<=x) (hx1:x<=1000)
 (HA:Hid (∀ u,Calls Tryz.prog 85 #[.float .f64 b] u fun r w'=>r=.returned (.float .f64 (b%9223372036854775808))/\w'=u))
 (HS:Hid (∀ u,Calls Tryz.prog 84 #[.float .f64 (b%9223372036854775808)] u fun r w'=>r=.returned (.agg #[.bool false,.int .i64 k,.int .i64 x,.int .u64 (F:Nat)])/\Below u.heap.size u w'))
 (H0:Hid (∀ u,Calls Tryz.prog 84 #[.float .f64 0] u fun r w'=>r=.returned (.agg #[.bool false,.int .i64 0,.int .i64 (-1074),.int .u64 0])/\Below u.heap.size u w'))
 (hlt:(FloatKind.f64.format.order b 0==some .lt)=s) (k0:(k==0)=false) (k3:(k==3)=false) (k4:(k==4)=false) :
 Calls Tryz.prog 51 #[.float .f64 b] w fun r w'=>di w.heap.size w' r (mkS s F x)/\Below w.heap.size w w':=by
 generalize hb2:b%9223372036854775808=b2 at *;clear hb2;have HO:Hid (∀ u,Calls Tryz.prog 87 #[.int .u64 (F:Nat)] u fun r w'=>∃ v,r=.returned v/\Nt u.heap.size w' v F/\Below u.heap.size u w'):=fun u=>mf F u ae
 have HM:Hid (∀ (u:World) (a:Option Addr) (c:Nat),il u->Arg u a (ws F).length c (ws F)->Calls Tryz.prog 86 #[.bool s,.slice a (ws F).length c,.int .i64 x] u fun r w'=>di u.heap.size w' r (mkS s F x)/\Below u.heap.size u w'):=by
  intro u a c WZ hA;have:=fP hA WZ s x ae ae;rw [ax] at this;exact this
 have hFl:(ws F).length<=100:=by have:=gW F;have:=qz F hF;omega
 have hl:=aS s F x;obtain ⟨o,ho⟩:∃ o,mkS s F x=o:=⟨_,rfl⟩;rw [ho] at HM hl |-;unfold di at HM |-;obtain ⟨dn,hdn⟩:∃ d,dN o=d:=⟨_,rfl⟩;obtain ⟨X,Ez⟩:∃ d,dX o=d:=⟨_,rfl⟩;obtain ⟨de,hde⟩:∃ d,dE o=d:=⟨_,rfl⟩;obtain ⟨er,her⟩:∃ d,uw o=d:=⟨_,rfl⟩;rw [hdn,Ez,hde,her] at HM |-;rw [Ez] at hl;have HT:=ay hT;clear ho hdn Ez hde her hT hF hx0 hx1;go_enter Tryz.func51,Tryz.ntmps51;go_wp2_with fail;refine (dQ (HA.o _)) ?_;rintro r w1 ⟨rfl,rfl⟩;go_wp2_with fail;refine (dQ (HS.o _)) ?_;rintro r w2 ⟨rfl,hb⟩;obtain ⟨hc,hf⟩:=cO hb;have hz:w.heap.size<w2.heap.size:=by have:=hb.size;simp at this;omega
 have hbw:Below w.heap.size w w2:=((ak _ _).alloc (aH _) _).trans (hb.mono aW);have SB:=ay hbw;clear hb hbw;obtain ⟨W2,hW2⟩:=ah (w2.alloc (.cells #[.bool false,.int .i64 k,.int .i64 x,.int .u64 (F:Nat)] 104));have hbW:Below w.heap.size w W2:=by rw [hW2];exact SB.o.alloc ae _
 have P:W2.heap[w2.heap.size]?=some (.cells #[.bool false,.int .i64 k,.int .i64 x,.int .u64 (F:Nat)] 104 (0,0)):=by rw [hW2,iJ]
 have p0:W2.cell? ⟨w2.heap.size,0,none⟩=some (.bool false):=by simp [World.cell?,P]
 have p1:W2.cell? ⟨w2.heap.size,1,none⟩=some (.int .i64 k):=by simp [World.cell?,P]
 have p2:W2.cell? ⟨w2.heap.size,2,none⟩=some (.int .i64 x):=by simp [World.cell?,P]
 have p3:W2.cell? ⟨w2.heap.size,3,none⟩=some (.int .u64 (F:Nat)):=by simp [World.cell?,P]
 have r0:W2.cell? ⟨w.heap.size,0,none⟩=some (.bool false):=by rw [hW2];go_simp
 have r1:W2.cell? ⟨w.heap.size,1,none⟩=some (.slice none 0 0):=by rw [hW2];go_simp
 have r2:W2.cell? ⟨w.heap.size,2,none⟩=some (.int .i64 0):=by rw [hW2];go_simp
 have f0:W2.frozen? ⟨w.heap.size,0,none⟩=false:=by rw [hW2];go_simp
 have f1:W2.frozen? ⟨w.heap.size,1,none⟩=false:=by rw [hW2];go_simp
 have f2:W2.frozen? ⟨w.heap.size,2,none⟩=false:=by rw [hW2];go_simp
 have hz2:w2.heap.size<W2.heap.size:=by rw [hW2];simp
 have hz3:w.heap.size<W2.heap.size:=ae
 have SW:=ay hbW;go_wp2_with fail;rw [<-hW2];clear hW2 hbW P hc hf SB
 go_region_with (go_at_call 84;refine (H0.o _).mono ?_;rintro r w3 ⟨rfl,hb3⟩;have hb4:Below W2.heap.size W2 w3:=(by first | exact hb3 | exact ((ak _ W2).drew).trans (hb3.mono (aH _)));obtain ⟨hc,hf⟩:=cO hb4;have S3:=ay hb4;clear hb3 hb4)
 all_goals (
  go_wp2_with fail;have Jt:w2.heap.size<w3.heap.size:=by have:=S3.o.size;omega
  have Ju:w.heap.size<w3.heap.size:=by have:=S3.o.size;omega
  go_region_with (first
   | (go_at_call 87
      refine (HO.o _).mono ?_;rintro r w4 ⟨v4,rfl,hN,hb⟩;obtain ⟨a4,c4,rfl,A4⟩:=hN.arg ae;have Ng:Below w3.heap.size w3 w4:=(by first | exact hb | exact ((ak _ w3).drew).trans (hb.mono (aH _)));have T4:il w4:=(HT.o.belows SW.o).belows (S3.o.trans (Ng.mono S3.o.size));obtain ⟨hc4,hf4⟩:=cO Ng;have Uf:w.heap.size<w4.heap.size:=by have:=Ng.size;omega
      have S4:=(fB Ng A4 T4)
      clear hN hb Ng A4 T4)
   | (go_at_call 86
      refine (HM.o _ a4 c4 (by first | exact S4.o.r2 | exact S4.o.r2) (by first | exact S4.o.2.1 | exact Arg.drew' S4.o.2.1)).mono ?_;rintro r w5 ⟨⟨v5,rfl,hN⟩,hb⟩;obtain ⟨a5,c5,rfl,_⟩:=hN.arg ae;have Qq:Below w4.heap.size w4 w5:=(by first | exact hb | exact ((ak _ w4).drew).trans (hb.mono (aH _)));obtain ⟨Z9,hf5⟩:=cO Qq;have HF:=ay (show Fin w.heap.size w4.heap.size w w5 (.slice a5 (ws X).length c5) X from ⟨hN,((SW.o.trans (S3.o.mono ae)).trans (S4.o.1.mono ae)).trans (Qq.mono ae),by have:=Qq.size;omega⟩)
      clear hN hb Qq))
  all_goals (
   go_wp2
   exact aI (v:=.tuple #[.agg #[.bool dn,.slice a5 (ws X).length c5,.int .i64 de],.int .i64 er]) (by simp [results,Tryz.results51,go_sem,Z9,hc4,hc,Uf,Ju,hz3,r0,r1,r2]) rfl (Fin.jA (m:=w4.heap.size) (by repeat (first | exact HF.o | refine Fin.alloc ?_ _ | refine Fin.set ?_ _ _ _ ae ae)) ae)))
theorem Jv (b b2:Nat) (w:World)
 (HA:Hid (∀ u,Calls Tryz.prog 85 #[.float .f64 b] u fun r w'=>r=.returned (.float .f64 b2)/\w'=u))
 (HS:Hid (∀ u,Calls Tryz.prog 84 #[.float .f64 b2] u fun r w'=>r=.returned (.agg #[.bool false,.int .i64 0,.int .i64 (-1074),.int .u64 0])/\Below u.heap.size u w'))
 (H0:Hid (∀ u,Calls Tryz.prog 84 #[.float .f64 0] u fun r w'=>r=.returned (.agg #[.bool false,.int .i64 0,.int .i64 (-1074),.int .u64 0])/\Below u.heap.size u w')) :
 Calls Tryz.prog 51 #[.float .f64 b] w fun r w'=>r=.returned (.tuple #[.agg #[.bool false,.slice none 0 0,.int .i64 0],.int .i64 0])/\Below w.heap.size w w':=by
 go_enter Tryz.func51,Tryz.ntmps51;go_wp2_with fail;refine (dQ (HA.o _)) ?_;rintro r w1 ⟨rfl,rfl⟩;go_wp2_with fail;refine (dQ (HS.o _)) ?_;rintro r w2 ⟨rfl,hb⟩;obtain ⟨hc,hf⟩:=cO hb;have hz:w.heap.size<w2.heap.size:=by have:=hb.size;simp at this;omega
 have hbw:Below w.heap.size w w2:=((ak _ _).alloc (aH _) _).trans (hb.mono aW);have SB:=ay hbw;clear hb hbw;obtain ⟨W2,hW2⟩:=ah (w2.alloc (.cells #[.bool false,.int .i64 0,.int .i64 (-1074),.int .u64 0] 104));have hbW:Below w.heap.size w W2:=by rw [hW2];exact SB.o.alloc ae _
 have P:W2.heap[w2.heap.size]?=some (.cells #[.bool false,.int .i64 0,.int .i64 (-1074),.int .u64 0] 104 (0,0)):=by rw [hW2,iJ]
 have p0:W2.cell? ⟨w2.heap.size,0,none⟩=some (.bool false):=by simp [World.cell?,P]
 have p1:W2.cell? ⟨w2.heap.size,1,none⟩=some (.int .i64 0):=by simp [World.cell?,P]
 have p2:W2.cell? ⟨w2.heap.size,2,none⟩=some (.int .i64 (-1074)):=by simp [World.cell?,P]
 have p3:W2.cell? ⟨w2.heap.size,3,none⟩=some (.int .u64 0):=by simp [World.cell?,P]
 have r0:W2.cell? ⟨w.heap.size,0,none⟩=some (.bool false):=by rw [hW2];go_simp
 have r1:W2.cell? ⟨w.heap.size,1,none⟩=some (.slice none 0 0):=by rw [hW2];go_simp
 have r2:W2.cell? ⟨w.heap.size,2,none⟩=some (.int .i64 0):=by rw [hW2];go_simp
 have f0:W2.frozen? ⟨w.heap.size,0,none⟩=false:=by rw [hW2];go_simp
 have f1:W2.frozen? ⟨w.heap.size,1,none⟩=false:=by rw [hW2];go_simp
 have f2:W2.frozen? ⟨w.heap.size,2,none⟩=false:=by rw [hW2];go_simp
 have hz2:w2.heap.size<W2.heap.size:=by rw [hW2];simp
 have hz3:w.heap.size<W2.heap.size:=ae
 have SW:=ay hbW;go_wp2_with fail;rw [<-hW2];clear hW2 hbW P hc hf SB
 go_region_with (go_at_call 84;refine (H0.o _).mono ?_;rintro r w3 ⟨rfl,hb3⟩;have hb4:Below W2.heap.size W2 w3:=(by first | exact hb3 | exact ((ak _ W2).drew).trans (hb3.mono (aH _)));obtain ⟨hc,hf⟩:=cO hb4;have S3:=ay hb4;clear hb3 hb4)
 all_goals (
  go_wp2;have hbf:=SW.o.trans (S3.o.mono ae);have Ta:w.heap.size<=w3.heap.size:=by have:=S3.o.size;omega
  exact aI (v:=.tuple #[.agg #[.bool false,.slice none 0 0,.int .i64 0],.int .i64 0]) (by simp [results,Tryz.results51,go_sem,hc,hz3,r0,r1,r2]) rfl ⟨rfl,Below.nH (Below.nH (Below.nH hbf _ _ _ (aH _) Ta) _ _ _ (aH _) (by simpa [World.setCell] using Ta)) _ _ _ (aH _) (by simpa [World.setCell] using Ta)⟩)
theorem Qr (b b2:Nat) (k:Int) (w:World) (hk:k=3\/k=4)
 (HA:Hid (∀ u,Calls Tryz.prog 85 #[.float .f64 b] u fun r w'=>r=.returned (.float .f64 b2)/\w'=u))
 (HS:Hid (∀ u,Calls Tryz.prog 84 #[.float .f64 b2] u fun r w'=>r=.returned (.agg #[.bool false,.int .i64 k,.int .i64 0,.int .u64 0])/\Below u.heap.size u w'))
 (H0:Hid (∀ u,Calls Tryz.prog 84 #[.float .f64 0] u fun r w'=>r=.returned (.agg #[.bool false,.int .i64 0,.int .i64 (-1074),.int .u64 0])/\Below u.heap.size u w')) :
 Calls Tryz.prog 51 #[.float .f64 b] w fun r w'=>r=.returned (.tuple #[.agg #[.bool false,.slice none 0 0,.int .i64 0],.int .i64 30])/\Below w.heap.size w w':=by
 have k0:(k==0)=false:=by rcases hk with rfl | rfl <;> rfl
 go_enter Tryz.func51,Tryz.ntmps51;go_wp2_with fail;refine (dQ (HA.o _)) ?_;rintro r w1 ⟨rfl,rfl⟩;go_wp2_with fail;refine (dQ (HS.o _)) ?_;rintro r w2 ⟨rfl,hb⟩;obtain ⟨hc,hf⟩:=cO hb;have hz:w.heap.size<w2.heap.size:=by have:=hb.size;simp at this;omega
 have hbw:Below w.heap.size w w2:=((ak _ _).alloc (aH _) _).trans (hb.mono aW);have SB:=ay hbw;clear hb hbw;obtain ⟨W2,hW2⟩:=ah (w2.alloc (.cells #[.bool false,.int .i64 k,.int .i64 0,.int .u64 0] 104));have hbW:Below w.heap.size w W2:=by rw [hW2];exact SB.o.alloc ae _
 have P:W2.heap[w2.heap.size]?=some (.cells #[.bool false,.int .i64 k,.int .i64 0,.int .u64 0] 104 (0,0)):=by rw [hW2,iJ]
 have p0:W2.cell? ⟨w2.heap.size,0,none⟩=some (.bool false):=by simp [World.cell?,P]
 have p1:W2.cell? ⟨w2.heap.size,1,none⟩=some (.int .i64 k):=by simp [World.cell?,P]
 have p2:W2.cell? ⟨w2.heap.size,2,none⟩=some (.int .i64 0):=by simp [World.cell?,P]
 have p3:W2.cell? ⟨w2.heap.size,3,none⟩=some (.int .u64 0):=by simp [World.cell?,P]
 have r0:W2.cell? ⟨w.heap.size,0,none⟩=some (.bool false):=by rw [hW2];go_simp
 have r1:W2.cell? ⟨w.heap.size,1,none⟩=some (.slice none 0 0):=by rw [hW2];go_simp
 have r2:W2.cell? ⟨w.heap.size,2,none⟩=some (.int .i64 0):=by rw [hW2];go_simp
 have f0:W2.frozen? ⟨w.heap.size,0,none⟩=false:=by rw [hW2];go_simp
 have f1:W2.frozen? ⟨w.heap.size,1,none⟩=false:=by rw [hW2];go_simp
 have f2:W2.frozen? ⟨w.heap.size,2,none⟩=false:=by rw [hW2];go_simp
 have hz2:w2.heap.size<W2.heap.size:=by rw [hW2];simp
 have hz3:w.heap.size<W2.heap.size:=ae
 have SW:=ay hbW;go_wp2_with fail;rw [<-hW2];clear hW2 hbW P hc hf SB
 go_region_with (go_at_call 84;refine (H0.o _).mono ?_;rintro r w3 ⟨rfl,hb3⟩;have hb4:Below W2.heap.size W2 w3:=(by first | exact hb3 | exact ((ak _ W2).drew).trans (hb3.mono (aH _)));obtain ⟨hc,hf⟩:=cO hb4;have S3:=ay hb4;clear hb3 hb4)
 all_goals (
  have hbf:=ay (SW.o.trans (S3.o.mono ae));have Ta:w.heap.size<=w3.heap.size:=by have:=S3.o.size;omega
  rcases hk with rfl|rfl
  all_goals (
   go_wp2
   exact aI (v:=.tuple #[.agg #[.bool false,.slice none 0 0,.int .i64 0],.int .i64 30]) (by simp [results,Tryz.results51,go_sem,hc,hz3,r0,r1,r2]) rfl ⟨rfl,Below.nH (Below.nH (Below.nH hbf.o _ _ _ (aH _) Ta) _ _ _ (aH _) (by simpa [World.setCell] using Ta)) _ _ _ (aH _) (by simpa [World.setCell] using Ta)⟩))
theorem Ug (s:Bool) (e f:Nat) (he:e<2048) (hf:f<4503599627370496) (w:World) (hT:il w) :
 Calls Tryz.prog 51 #[.float .f64 (B.bw s e f)] w fun r w'=>WY w.heap.size w' r (V6 s e f) (SY e)/\Below w.heap.size w w':=by
 have HA:Hid (∀ u,Calls Tryz.prog 85 #[.float .f64 (B.bw s e f)] u fun r w'=>r=.returned (.float .f64 (B.bw false e f))/\w'=u):=fun u=>B.zm s e f he hf u;have HS:∀ u,Calls Tryz.prog 84 #[.float .f64 (B.bw false e f)] u fun r w'=>r=.returned (.agg #[.bool (B.ng false e f),.int .i64 (B.cls e f),.int .i64 (B.xp e),.int .u64 (B.fr e f)])/\Below u.heap.size u w':=fun u=>B.nW false e f he hf u;have H0:Hid (∀ u,Calls Tryz.prog 84 #[.float .f64 0] u fun r w'=>r=.returned (.agg #[.bool false,.int .i64 0,.int .i64 (-1074),.int .u64 0])/\Below u.heap.size u w'):=fun u=>B.nW false 0 0 ae ae u;have Ql:B.ng false e f=false:=by unfold B.ng;split <;> rfl
 rw [Ql] at HS;unfold V6 SY
 by_cases h7:e=2047
 · rw [if_pos h7,if_pos h7];have h2:B.xp e=0/\B.fr e f=0:=by unfold B.xp B.fr;rw [if_pos h7,if_pos h7];exact ⟨rfl,rfl⟩
   rw [h2.1,h2.2] at HS;have hk:B.cls e f=3\/B.cls e f=4:=by unfold B.cls;rw [if_pos h7];split <;> simp
   exact (Qr _ _ _ w hk HA (hid HS) H0).mono fun r w' ⟨h1,h3⟩=>⟨⟨_,h1,Nt.nil _ _⟩,h3⟩
 · rw [if_neg h7,if_neg h7];have hx:B.xp e=(if e=0 then -1074 else (e:Int)-1075):=by unfold B.xp;rw [if_neg h7]
   have hfr:B.fr e f=(((if e=0 then f else f+4503599627370496:Nat)):Int):=by unfold B.fr;rw [if_neg h7];split <;> simp
   rw [hx,hfr] at HS
   by_cases h0:e=0/\f=0
   · obtain ⟨rfl,rfl⟩:=h0;rw [show B.cls 0 0=0 from rfl] at HS;simp only [if_pos,Int.ofNat_zero] at HS;rw [if_pos rfl,fA];exact (Jv _ _ w HA (hid HS) H0).mono fun r w' ⟨h1,h3⟩=>⟨⟨_,h1,Nt.nil _ _⟩,h3⟩
   · have hcl:B.cls e f=1\/B.cls e f=2:=by
      unfold B.cls;rw [if_neg h7]
      by_cases h1:e=0
      · rw [if_pos h1,if_neg (fun h=>h0 ⟨h1,h⟩)];simp
      · rw [if_neg h1];simp
     obtain ⟨F,hF⟩:∃ F:Nat,(if e=0 then f else f+4503599627370496:Nat)=F:=⟨_,rfl⟩;obtain ⟨x,fH⟩:∃ x:Int,(if e=0 then -1074 else (e:Int)-1075)=x:=⟨_,rfl⟩;have hFb:F<9007199254740992:=by rw [<-hF];split <;> omega
     have hxb:-1100<=x/\x<=1000:=by rw [<-fH];split <;> omega
     rw [hF,fH] at HS |-;have ho:B.odd e f=false:=by unfold B.odd;simp [h7]
     have hz:(e==0&&f==0)=false:=by
      cases h1:(e==0&&f==0)
      · rfl
      · exact absurd (by simpa using h1) h0
     have hb2:B.bw false e f=B.bw s e f%9223372036854775808:=by
      have h1:=B.Mv s e f he hf;have h2:(B.bw false e f:Int)=(e:Int)*4503599627370496+f:=by unfold B.bw;simp
      omega
     rw [hb2] at HA HS;obtain ⟨d,hd⟩:=GQ s F x hFb hxb.1 hxb.2;have:=Qp s (B.bw s e f) F (B.cls e f) x w hT hFb hxb.1 hxb.2 HA (hid HS) H0 (B.GM s e f he hf ho hz) (by rcases hcl with h | h <;> rw [h] <;> rfl) (by rcases hcl with h | h <;> rw [h] <;> rfl) (by rcases hcl with h | h <;> rw [h] <;> rfl);refine this.mono fun r w' ⟨⟨v,h1,h2⟩,h3⟩=>⟨⟨v,?_,h2⟩,h3⟩;rw [h1,hd];rfl
end
section
open Go.RowKit
attribute [local go_sem] B.bO B.aJ
def gK (k:Nat):Nat×Int:=if k/4503599627370496=0 then (k%4503599627370496,-1074) else (4503599627370496+k%4503599627370496,-1074+((k/4503599627370496:Nat):Int)-1)
theorem wJ (K:Int) (V:Nat) (w:World) (e1:K/4503599627370496=0) (hK0:0<=K) (hK1:K<=9218868437227405312)
 (HO:Hid (∀ u,Calls Tryz.prog 83 #[.int .u64 (K%4503599627370496)] u fun r w'=>∃ v,r=.returned v/\Nt u.heap.size w' v V/\Below u.heap.size u w')) :
 Calls Tryz.prog 135 #[.agg #[.int .i64 53,.int .i64 (-1074),.int .u64 9218868437227405312],.int .u64 K] w fun r w'=>∃ v,r=.returned (.tuple #[v,.int .i64 (-1074)])/\Nt w.heap.size w' v V/\Below w.heap.size w w':=by
 obtain ⟨W1,hW1⟩:=ah (w.alloc (.cells #[.int .i64 53,.int .i64 (-1074),.int .u64 9218868437227405312] 108));have P:W1.heap[w.heap.size]?=some (.cells #[.int .i64 53,.int .i64 (-1074),.int .u64 9218868437227405312] 108 (0,0)):=by rw [hW1,iJ]
 have p1:W1.cell? ⟨w.heap.size,1,none⟩=some (.int .i64 (-1074)):=by simp [World.cell?,P]
 have hz:w.heap.size<W1.heap.size:=by rw [hW1];simp
 have HB:=ay (show Below w.heap.size w W1 by rw [hW1];exact af w _);go_enter Tryz.func135,Tryz.ntmps135;go_wp2;rw [<-hW1];clear hW1 P e1
 go_region_held3 (fun w'=>w'.cell? ⟨w.heap.size,1,none⟩=some (.int .i64 (-1074))) (go_keep) (first | (go_at_call 83;refine (HO.o _).mono ?_;rintro r w2 ⟨v,rfl,hN,hb⟩;have hb2:Below W1.heap.size W1 w2:=(by first | exact hb | exact ((ak _ W1).drew).trans (hb.mono (aH _)));have p2:w2.cell? ⟨w.heap.size,1,none⟩=some (.int .i64 (-1074)):=(hb2.cell (p:=⟨w.heap.size,1,none⟩) hz).trans p1;have S2:=(bB hb2 hN);clear hb hb2 hN))
 all_goals (
  go_wp2;go_simp
  go_ret2
  exact ⟨v,rfl,S2.o.2.mono (jN hz),HB.o.trans (S2.o.1.mono (jN hz))⟩)
theorem vk (K q f g x y:Int) (V:Nat) (w:World) (e1:K/4503599627370496=q) (e2:K%4503599627370496=f) (e3:IntKind.u64.wrap (4503599627370496+f)=g) (e4:IntKind.i64.wrap q=q) (e5:IntKind.i64.wrap (-1074+q)=x) (e6:IntKind.i64.wrap (x-1)=y) (hK0:0<=K) (hK1:K<=9218868437227405312) (hq0:(q==0)=false)
 (HO:Hid (∀ u,Calls Tryz.prog 83 #[.int .u64 g] u fun r w'=>∃ v,r=.returned v/\Nt u.heap.size w' v V/\Below u.heap.size u w')) :
 Calls Tryz.prog 135 #[.agg #[.int .i64 53,.int .i64 (-1074),.int .u64 9218868437227405312],.int .u64 K] w fun r w'=>∃ v,r=.returned (.tuple #[v,.int .i64 y])/\Nt w.heap.size w' v V/\Below w.heap.size w w':=by
 obtain ⟨W1,hW1⟩:=ah (w.alloc (.cells #[.int .i64 53,.int .i64 (-1074),.int .u64 9218868437227405312] 108));have P:W1.heap[w.heap.size]?=some (.cells #[.int .i64 53,.int .i64 (-1074),.int .u64 9218868437227405312] 108 (0,0)):=by rw [hW1,iJ]
 have p1:W1.cell? ⟨w.heap.size,1,none⟩=some (.int .i64 (-1074)):=by simp [World.cell?,P]
 have hz:w.heap.size<W1.heap.size:=by rw [hW1];simp
 have HB:=ay (show Below w.heap.size w W1 by rw [hW1];exact af w _);go_enter Tryz.func135,Tryz.ntmps135;go_wp2;rw [<-hW1]
 try simp only [e1,e2]
 clear hW1 P e1 e2 hK0 hK1
 go_region_held3 (fun w'=>w'.cell? ⟨w.heap.size,1,none⟩=some (.int .i64 (-1074))) (go_keep) (first | (go_at_call 83;refine (HO.o _).mono ?_;rintro r w2 ⟨v,rfl,hN,hb⟩;have hb2:Below W1.heap.size W1 w2:=(by first | exact hb | exact ((ak _ W1).drew).trans (hb.mono (aH _)));have p2:w2.cell? ⟨w.heap.size,1,none⟩=some (.int .i64 (-1074)):=(hb2.cell (p:=⟨w.heap.size,1,none⟩) hz).trans p1;have S2:=(bB hb2 hN);clear hb hb2 hN))
 all_goals (
  go_wp2;go_simp
  go_ret2
  exact ⟨v,rfl,S2.o.2.mono (jN hz),HB.o.trans (S2.o.1.mono (jN hz))⟩)
theorem xZ (k:Nat) (hk:k<=9218868437227405312) (w:World) :
 Calls Tryz.prog 135 #[.agg #[.int .i64 53,.int .i64 (-1074),.int .u64 9218868437227405312],.int .u64 (k:Nat)] w fun r w'=>∃ v,r=.returned (.tuple #[v,.int .i64 (gK k).2])/\Nt w.heap.size w' v (gK k).1/\Below w.heap.size w w':=by
 unfold gK
 by_cases h0:k/4503599627370496=0
 · rw [if_pos h0];exact wJ (k:Int) (k%4503599627370496) w ae ae ae (hid fun u=>by simpa using uq (k%4503599627370496) u ae)
 · rw [if_neg h0];have hw:∀ n:Int,0<=n->n<18446744073709551616->IntKind.u64.wrap n=n:=fun n h1 h2=>by simp [IntKind.wrap,IntKind.bits,IntKind.signed];omega
   have hv:∀ n:Int,-4000<=n->n<4000->IntKind.i64.wrap n=n:=fun n h1 h2=>by simp [IntKind.wrap,IntKind.bits,IntKind.signed];omega
   have e3:(4503599627370496:Int)+((k%4503599627370496:Nat):Int)=((4503599627370496+k%4503599627370496:Nat):Int):=ae
   exact vk (k:Int) ((k/4503599627370496:Nat):Int) ((k%4503599627370496:Nat):Int) ((4503599627370496+k%4503599627370496:Nat):Int) (-1074+((k/4503599627370496:Nat):Int)) (-1074+((k/4503599627370496:Nat):Int)-1) (4503599627370496+k%4503599627370496) w ae ae (by rw [e3];exact hw _ ae ae) (hv _ ae ae) (hv _ ae ae) (hv _ ae ae) ae ae (beq_eq_false_iff_ne.2 ae) (hid fun u=>uq _ u ae)
theorem EG (e f:Nat) (hf:f<4503599627370496):gK (e*4503599627370496+f)=(if e=0 then f else f+4503599627370496,if e=0 then -1074 else (e:Int)-1075):=by
 have h1:(e*4503599627370496+f)/4503599627370496=e:=ae
 have h2:(e*4503599627370496+f)%4503599627370496=f:=ae
 unfold gK;rw [h1,h2]
 by_cases h:e=0
 · rw [if_pos h,if_pos h,if_pos h]
 · rw [if_neg h,if_neg h,if_neg h];refine Prod.ext (by simp;omega) (by simp;omega)
theorem qA (w:World):Calls Tryz.prog 91 #[] w fun r w'=>r=.returned (.agg #[.int .i64 53,.int .i64 (-1074),.int .u64 9218868437227405312])/\Below w.heap.size w w':=by
 go_enter Tryz.func91,Tryz.ntmps91;go_wp2;exact aI (v:=.agg #[.int .i64 53,.int .i64 (-1074),.int .u64 9218868437227405312]) (by simp [results,Tryz.results91,go_sem]) rfl ⟨rfl,by repeat (first | exact ak _ _ | refine Below.alloc ?_ (by first | omega | simp) _ | refine Below.nH ?_ _ _ _ ae aW)⟩
theorem EH (neg:Bool) (k:Int) (w:World) (hk:9218868437227405312<=k) (hk2:k<9223372036854775808) :
 Calls Tryz.prog 92 #[.agg #[.int .i64 53,.int .i64 (-1074),.int .u64 9218868437227405312],.bool neg,.int .u64 k] w fun r w'=>r=.returned (.tuple #[.agg #[.bool false,.slice none 0 0,.int .i64 0],.bool false])/\Below w.heap.size w w':=by
 have HB:=ay (show Below w.heap.size w ((w.alloc (.cells #[.int .i64 53,.int .i64 (-1074),.int .u64 9218868437227405312] 108)).alloc (.cells #[.bool false,.slice none 0 0,.int .i64 0] 62)) from (af w _).alloc aW _);go_enter Tryz.func92,Tryz.ntmps92;go_wp2;exact aI (v:=.tuple #[.agg #[.bool false,.slice none 0 0,.int .i64 0],.bool false]) (by simp [results,Tryz.results92,go_sem]) rfl ⟨rfl,HB.o⟩
theorem EI (neg:Bool) (k:Int) (F:Nat) (x:Int) (w:World) (hk:k<9218868437227405312) (hF:F<9007199254740992) (hx0:-1100<=x) (hx1:x<=1000)
 (HN0:Hid (∀ u,Calls Tryz.prog 135 #[.agg #[.int .i64 53,.int .i64 (-1074),.int .u64 9218868437227405312],.int .u64 k] u fun r w'=>∃ v,r=.returned (.tuple #[v,.int .i64 x])/\Nt u.heap.size w' v F/\Below u.heap.size u w')) :
 Calls Tryz.prog 92 #[.agg #[.int .i64 53,.int .i64 (-1074),.int .u64 9218868437227405312],.bool neg,.int .u64 k] w fun r w'=>zf w.heap.size w' r (mkS neg F x)/\Below w.heap.size w w':=by
 have HB:=ay (show Below w.heap.size w ((w.alloc (.cells #[.int .i64 53,.int .i64 (-1074),.int .u64 9218868437227405312] 108)).alloc (.cells #[.bool false,.slice none 0 0,.int .i64 0] 62)) from (af w _).alloc aW _);have HN:=hid (HN0.o ((w.alloc (.cells #[.int .i64 53,.int .i64 (-1074),.int .u64 9218868437227405312] 108)).alloc (.cells #[.bool false,.slice none 0 0,.int .i64 0] 62)));have hl:=aS neg F x;have hFl:(ws F).length<=100:=by have:=gW F;have:=qz F hF;omega
 have HM:Hid (∀ (u:World) (a:Option Addr) (c:Nat),Arg u a (ws F).length c (ws F)->Calls Tryz.prog 82 #[.bool neg,.slice a (ws F).length c,.int .i64 x] u fun r w'=>zf u.heap.size w' r (mkS neg F x)/\Below u.heap.size u w'):=by
  intro u a c hA;have:=nZ hA ae neg x ae ae;rw [ax] at this;exact this
 obtain ⟨o,ho⟩:∃ o,mkS neg F x=o:=⟨_,rfl⟩;rw [ho] at HM hl |-;unfold zf at HM |-;obtain ⟨dn,hdn⟩:∃ d,dN o=d:=⟨_,rfl⟩;obtain ⟨X,Ez⟩:∃ d,dX o=d:=⟨_,rfl⟩;obtain ⟨de,hde⟩:∃ d,dE o=d:=⟨_,rfl⟩;obtain ⟨er,her⟩:∃ d,o.isSome=d:=⟨_,rfl⟩;rw [hdn,Ez,hde,her] at HM |-;rw [Ez] at hl;clear ho hdn Ez hde her hF hx0 hx1 HN0;go_enter Tryz.func92,Tryz.ntmps92;go_wp2_with fail;refine HN.o.mono ?_;rintro r w2 ⟨v,rfl,hN,hb⟩;obtain ⟨a2,c2,rfl,A2⟩:=hN.arg ae;obtain ⟨hc,hf⟩:=cO hb;have hz:w.heap.size+1<w2.heap.size:=by have:=hb.size;simp at this;omega
 have H2:=hid (HM.o w2 a2 c2 A2);have S2:=ay (HB.o.trans (hb.mono (by simp;omega)));clear hN hb A2;go_wp2_with fail;refine H2.o.mono ?_;rintro r w3 ⟨⟨v3,rfl,hN⟩,hb⟩;obtain ⟨a3,c3,rfl,_⟩:=hN.arg ae;obtain ⟨hc3,hf3⟩:=cO hb;have HF:=ay (show Fin w.heap.size w2.heap.size w w3 (.slice a3 (ws X).length c3) X from ⟨hN,S2.o.trans (hb.mono ae),by have:=hb.size;omega⟩);clear hN hb;go_wp2;exact aI (v:=.tuple #[.agg #[.bool dn,.slice a3 (ws X).length c3,.int .i64 de],.bool er]) (by simp [results,Tryz.results92,go_sem,hc,hc3,hz]) rfl (Fin.jA (m:=w2.heap.size) (by repeat (first | exact HF.o | refine Fin.alloc ?_ _ | refine Fin.set ?_ _ _ _ ae ae)) ae)
theorem ry (neg:Bool) (k:Nat) (w:World) (hk:k<9218868437227405312) :
 Calls Tryz.prog 92 #[.agg #[.int .i64 53,.int .i64 (-1074),.int .u64 9218868437227405312],.bool neg,.int .u64 (k:Nat)] w fun r w'=>zf w.heap.size w' r (mkS neg (gK k).1 (gK k).2)/\Below w.heap.size w w':=by
 have hb1:(gK k).1<9007199254740992/\-1100<=(gK k).2/\(gK k).2<=1000:=by unfold gK;split <;> simp <;> omega
 exact EI neg (k:Int) _ _ w ae hb1.1 hb1.2.1 hb1.2.2 (hid fun u=>xZ k ae u)
end
end Go.Proofs.YtblkpkgebigojaaGreatDoor
