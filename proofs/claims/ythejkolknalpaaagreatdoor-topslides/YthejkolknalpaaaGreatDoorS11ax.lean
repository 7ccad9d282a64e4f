import Derived.Test.YthejkolknalpaaaGreatDoorBIeeex
import Derived.Deep.RegionHeld
import Derived.Laws.BitsAllLaws
import Derived.WalkLawsBesides
import Derived.Test.YthejkolknalpaaaGreatDoorW24x
import Derived.Deep.RegionWith
set_option linter.unusedVariables false
set_option linter.unusedSimpArgs false
set_option maxHeartbeats 16000000
set_option maxRecDepth 20000
namespace Go.Proofs.YthejkolknalpaaaGreatDoor
section
open Go Go.RowKit
section
variable {P : Program} {ops : Array Oper} {Q : Exit → Act → World → Prop} {md : Region.Mode} {S : World → Prop} {stop : Nat}
def wpUntil (P:Program) (md:Region.Mode) (ops:Array Oper) (Q:Exit→Act→World→Prop) (S:World→Prop) (stop:Nat):Nat→Array Bool→Act→World→Prop
 | 0,listed,a,w=>Region.ready md ops listed=[]∧Q .normal a w
 | fuel+1,listed,a,w=>(Region.ready md ops listed=[]→Q .normal a w) ∧
  ∀ i ∈ Region.ready md ops listed,wpOp P ops Q i (fun b u=>(i<stop→S u)∧wpUntil P md ops Q S stop fuel (listed.setIfInBounds i true) b u) a w
theorem wpAny_until:∀ (fuel:Nat) (listed:Array Bool) (a:Act) (w:World),wpUntil P md ops Q S stop fuel listed a w→wpAny P md ops Q fuel listed a w
 | 0,_,_,_,h=>h
 | fuel+1,_,_,_,h=>⟨h.1,fun i hi=>wpOp_mono (fun b u k=>wpAny_until fuel _ b u k.2) (h.2 i hi)⟩
theorem until_region {id:Nat}{a:Act}{w:World}(S:World→Prop) (stop:Nat) (hm:P.follows .mixedOrders=true) (h:wpUntil P .any ops Q S stop ops.size (Array.replicate ops.size false) a w.drew):(Code.region id ops true).wp P Q a w :=
 wp_region_any hm (wpAny_until _ _ _ _ h)
def waits (md:Region.Mode) (ops:Array Oper) (i stop:Nat) (C:List Nat):Bool :=
 (List.range ops.size).all fun j=>!(C.contains j || decide (stop≤j)) || (match ops[j]? with | some o=>o.after.any (fun e=>Region.binds md e&&(e.on==i || C.contains e.on)) | none=>true)
def unlisted (listed:Array Bool) (C:List Nat):Bool:=C.all fun k=>listed.getD k true==false
theorem waits_spec {i:Nat}{C:List Nat}(h:waits md ops i stop C=true) {j:Nat}{oj:Oper}(hj:ops[j]?=some oj) (hc:j ∈ C∨stop≤j):∃ e ∈ oj.after,Region.binds md e=true∧(e.on=i∨e.on ∈ C):=by
 have h1:=(List.all_eq_true.1 h) j (by simp;exact (Array.getElem?_eq_some_iff.1 hj).1)
 rw [hj] at h1
 have h2:(C.contains j || decide (stop≤j))=true:=by
  rcases hc with hc|hc
  · simp [hc]
  · simp [hc]
 rw [h2] at h1;simp only [Bool.not_true,Bool.false_or] at h1;rw [←Array.any_toList] at h1;obtain ⟨e,he,hb⟩:=List.any_eq_true.1 h1;have he:=Array.mem_toList_iff.1 he;simp only [Bool.and_eq_true,Bool.or_eq_true,beq_iff_eq,List.contains_iff_mem] at hb;exact ⟨e,he,hb.1,hb.2⟩
theorem until_first {i:Nat}{C:List Nat}{oi:Oper}{v:Value}(hi:ops[i]?=some oi) (hsel:∀ (j:Nat) (o:Oper) cs b,ops[j]?=some o→o.op≠.select cs b)
 (hQ:∀ x a w,Q (.panic x) (a.put oi.dst v) w→Q (.panic x) a w) (hlate:waits md ops i stop C=true) :
 ∀ (fuel:Nat) (listed:Array Bool) (a:Act) (w:World),
   (∀ j oj,ops[j]?=some oj→j≠i→listed.getD j true=false→(∀ e ∈ oj.after,Region.binds md e=true→e.on≠i)→oi.apart ops oj=true) →
   i ∈ Region.ready md ops listed→(∀ k ∈ C,listed.getD k true=false)→YieldsIf P ops S oi v a→S w →
   wpUntil P md ops Q S stop fuel (listed.setIfInBounds i true) (a.put oi.dst v) w→wpUntil P md ops Q S stop (fuel+1) listed a w:=by
 intro fuel
 induction fuel with
 | zero =>
   intro listed a w _ hr _ hy hS H;refine ⟨fun h=>(by rw [h] at hr;cases hr),fun j hj=>?_⟩
   by_cases hji:j=i
   · subst hji;exact hy.wpOp hi hS ⟨fun _=>hS,H⟩
   · have:=ready_mono hj hji
     rw [H.1] at this
     cases this
 | succ fuel ih =>
   intro listed a w hfree hr hcl hy hS H;refine ⟨fun h=>(by rw [h] at hr;cases hr),fun j hj=>?_⟩
   by_cases hji:j=i
   · subst hji;exact hy.wpOp hi hS ⟨fun _=>hS,H⟩
   · have h1:=H.2 j (ready_mono hj hji)
     obtain ⟨hjun,oj,hoj,hall⟩:=mem_ready.1 hj;have h0:=(mem_ready.1 hr).1
     have un:∀ k,listed.getD k true=false→listed.getD k false=true→False:=fun k a1 a2=>by
      rcases Nat.lt_or_ge k listed.size with h'|h'
      · simp [h'] at a1 a2;rw [a1] at a2;cases a2
      · simp [Array.getElem?_eq_none h'] at a2
     have hnot:∀ e ∈ oj.after,Region.binds md e=true→e.on≠i:=fun e he hb heq=>un i h0 (heq ▸ hall e he hb)
     have hnw:¬(j ∈ C∨stop≤j):=fun hc=>by
      obtain ⟨e,he,hb,heq⟩:=waits_spec hlate hoj hc
      rcases heq with heq|heq
      · exact hnot e he hb heq
      · exact un _ (hcl _ heq) (hall e he hb)
     have hjs:j<stop:=by
      rcases Nat.lt_or_ge j stop with h|h
      · exact h
      · exact (hnw (Or.inr h)).elim
     have h2:=wpOp_putIf hoj (hfree j oj hoj hji hjun hnot) (fun cs b=>hsel i oi cs b hi) (fun cs b=>hsel j oj cs b hoj) hQ hy h1
     have hfree':∀ k ok,ops[k]?=some ok→k≠i→(listed.setIfInBounds j true).getD k true=false →
      (∀ e ∈ ok.after,Region.binds md e=true→e.on≠i)→oi.apart ops ok=true:=fun k ok hk hki hun hno=>by
      refine hfree k ok hk hki ?_ hno
      by_cases hjk:j=k
      · subst hjk;exact hjun
      · rw [Go.getD_set_ne true hjk] at hun;exact hun
     refine wpOp_mono (fun b u h3=>⟨h3.2.1,ih (listed.setIfInBounds j true) b u hfree' (ready_mono hr (Ne.symm hji)) (fun k hk=>by rw [Go.getD_set_ne true (show j≠k from fun e=>hnw (Or.inl (by rw [e];exact hk)))];exact hcl k hk) h3.1 (h3.2.1 hjs) ?_⟩) h2
     rw [Array.setIfInBounds_comm _ _ hji];exact h3.2.2
theorem until_take {i:Nat}(C:List Nat) {oi:Oper}{v:Value}{fuel:Nat}{listed:Array Bool}{a:Act}{w:World}(hi:ops[i]?=some oi)
 (hs:Region.noSelect ops=true) (hf:Region.free md ops listed i=true) (hr:(Region.ready md ops listed).contains i=true) (hw:waits md ops i stop C=true) (hun:unlisted listed C=true)
 (hQ:∀ c a w,Q (.panic c) (a.put oi.dst v) w→Q (.panic c) a w) (hy:YieldsIf P ops S oi v a) (hS:S w)
 (h:wpUntil P md ops Q S stop fuel (listed.setIfInBounds i true) (a.put oi.dst v) w):wpUntil P md ops Q S stop (fuel+1) listed a w :=
 until_first hi (Region.noSelect_spec hs) hQ hw fuel listed a w (Region.free_spec hi hf) (by simpa using hr) (fun k hk=>by have:=(List.all_eq_true.1 hun) k hk;simpa using this) hy hS h
theorem until_one {i:Nat}{o:Oper}{fuel:Nat}{listed:Array Bool}{a:Act}{w:World}(hr:Region.ready md ops listed=[i]) (ho:ops[i]?=some o)
 (h:∀ K':Act→World→Prop,Shut (∀ b u,(i<stop→S u)→wpUntil P md ops Q S stop fuel (listed.setIfInBounds i true) b u→K' b u)→if Region.wanted o (yielded ops a.tmps)=true then Oper.wp P o a w K' Q else K' (a.put o.dst undef) w):wpUntil P md ops Q S stop (fuel+1) listed a w :=
 ⟨fun h0=>(by rw [hr] at h0;cases h0),fun j hj=>by
  rw [hr] at hj;obtain rfl:=List.mem_singleton.1 hj;exact wpOp_step ho (fun K' hK=>h K' (fun b u h1 h2=>hK b u ⟨h1,h2⟩))⟩
theorem until_done {listed:Array Bool}{a:Act}{w:World}(hr:Region.ready md ops listed=[]) (h:Q .normal a w):∀ fuel,wpUntil P md ops Q S stop fuel listed a w
 | 0=>⟨hr,h⟩
 | _+1=>⟨fun _=>h,by rw [hr];simp⟩
end
end
section
open Go.RowKit
theorem put_core (g:Nat) (L xs:List Nat) (V T:Int) (s:Sp) (k:Nat) (ng:Bool) (ao:Option Addr) (n cap p:Nat) (w:World) (hs:s.ok) (hk:k≤5) (hA:Ac w g L s) (hl:L.length=133) (hL:Wf L) (hv:(val L:Int)=V%(PB:Int)) (h0:-(HB:Int)<V) (h1:V<(HB:Int))
 (hx:Arg w ao n cap xs) (hp:p+32*n≤4256) (hT:sgn7 ng (val xs*2^p)=T) (hT0:-(HB:Int)<T) (hT1:T<(HB:Int)) :
 Calls Tryz.prog 76 #[.pointer (some ⟨g,0,none⟩),.agg #[.int .i64 (k:Nat),.bool ng,.slice ao n cap,.int .i64 (p:Nat)]] w (Did g w (putS V s k T)):=by
 obtain ⟨t,ht⟩:∃ t,t=s.cnt k 1:=⟨_,rfl⟩;obtain ⟨X,hX⟩:∃ X,X=putS V s k T:=⟨_,rfl⟩;rw [←hX];have HC:=hid (fun u:World=>counted_any s k 1 u hk hs (by decide) (by decide))
 rw [←ht] at HC;obtain ⟨sn,su,sd,sm,sp,sa⟩:=s;obtain ⟨tn,tu,td,tm,tp,ta⟩:=t;have HR:Aside (Ac w g L ⟨sn,su,sd,sm,sp,sa⟩∧L.length=133∧Wf L∧(val L:Int)=V%(PB:Int)∧-(HB:Int)<V∧V<(HB:Int)∧Arg w ao n cap xs∧p+32*n≤4256∧sgn7 ng (val xs*2^p)=T∧-(HB:Int)<T∧T<(HB:Int)):=⟨hA,hl,hL,hv,h0,h1,hx,hp,hT,hT0,hT1⟩;have HX:Aside (X=putS V ⟨sn,su,sd,sm,sp,sa⟩ k T∧⟨tn,tu,td,tm,tp,ta⟩=Sp.cnt ⟨sn,su,sd,sm,sp,sa⟩ k 1):=⟨hX,ht⟩;simp only [Sp.agg] at HC;clear hA hl hL hv h0 h1 hx hp hT hT0 hT1 hX ht hs;go_enter Tryz.func76,Tryz.ntmps76;have a5:=HR.out.1.cell HR.out.2.1 5 _ rfl;have alt:=HR.out.1.lt
 by_cases hmax:sa=1099511627776
 · subst hmax
   go_wp2;go_ret;rw [HX.out.1];unfold putS;rw [if_pos rfl];obtain ⟨hA,hl,hL,hv,h0,h1,_⟩:=HR.out;exact ⟨rfl,⟨L,hl,hL,hv,h0,h1,hA.alloc _⟩,(But.refl g w).of_bel (bel_alloc _ _)⟩
 have hmax':(sa==1099511627776)=false:=by simpa using hmax
 go_wp2
 have HP:Aside (X=step7 V ⟨sn,su,sd,sm,sp,sa⟩ T ⟨tn,tu,td,tm,tp,ta⟩):=by
  refine qsd ?_;rw [HX.out.1,HX.out.2];unfold putS;rw [if_neg hmax]
 obtain ⟨w1,hw1⟩:∃ w1,w1=w.alloc (Obj.cells #[.int .i64 (k:Nat),.bool ng,.slice ao n cap,.int .i64 (p:Nat)] 117):=⟨_,rfl⟩;rw [←hw1]
 have H1:Aside (Bl w1 w.heap.size 117 [.int .i64 (k:Nat),.bool ng,.slice ao n cap,.int .i64 (p:Nat)]∧Below w.heap.size w w1∧w1.heap.size=w.heap.size+1):=by
  subst hw1;exact ⟨Bl.new w 117 [_,_,_,_],bel_alloc _ _,by simp⟩
 clear hw1 hmax hmax' a5 alt;have hu:=Tryz.desc_words;have hsz:(Tryz.prog.info? 91).map (·.size)=some (L.map U).length:=by rw [Tryz.size_words,List.length_map,HR.out.2.1]
 have A0:=qsd (HR.out.1.below H1.out.2.1 HR.out.1.lt);have BB:Aside (Below w1.heap.size w1 w1.drew):=(Below.refl _ _).drew;have kS:=qsd (ai (A0.out.drew.range) (ai (A0.out.drew.cell HR.out.2.1 0 _ rfl) (ai (A0.out.drew.cell HR.out.2.1 1 _ rfl) (ai (A0.out.drew.cell HR.out.2.1 2 _ rfl) (ai (A0.out.drew.cell HR.out.2.1 3 _ rfl) (ai (A0.out.drew.cell HR.out.2.1 4 _ rfl) (ai (A0.out.drew.cell HR.out.2.1 5 _ rfl) (H1.out.1.drew.four))))))));have HW:=hid (fun (u:World) (hb:Below w1.heap.size w1 u)=>with_any L xs ao n cap p (k:Nat) ng u HR.out.2.1 HR.out.2.2.1 ((HR.out.2.2.2.2.2.2.1.below H1.out.2.1).below hb) HR.out.2.2.2.2.2.2.2.1)
 have hTT:Aside (sgn7 ng (val xs*2^p)=T∧-(HB:Int)<T∧T<(HB:Int)):=by
  have h:=HR.out.2.2.2.2.2.2.2.2;refine ⟨?_,by omega,by omega⟩
  first | exact h.1 | (rw [←h.1];cases ng <;> simp [sgn7])
 refine until_region (fun w'=>w'.rangeAt g 0 (L.map U)∧w'.cell? ⟨g,133,none⟩=some (.int .i64 sn)∧w'.cell? ⟨g,134,none⟩=some (.int .i64 su)∧w'.cell? ⟨g,135,none⟩=some (.int .i64 sd)∧w'.cell? ⟨g,136,none⟩=some (.int .i64 sm)∧w'.cell? ⟨g,137,none⟩=some (.int .i64 sp)∧w'.cell? ⟨g,138,none⟩=some (.int .i64 sa)∧w'.cell? ⟨w.heap.size,0,none⟩=some (.int .i64 (k:Nat))∧w'.cell? ⟨w.heap.size,1,none⟩=some (.bool ng)∧w'.cell? ⟨w.heap.size,2,none⟩=some (.slice ao n cap)∧w'.cell? ⟨w.heap.size,3,none⟩=some (.int .i64 (p:Nat))) 14 (by kernel_rfl) ?_
 refine until_take (i:=0) [] (v:=?_) rfl (by kernel_rfl) (by kernel_rfl) (by kernel_rfl) (by kernel_rfl) (by kernel_rfl) (fun _ _ _ h=>h) (Or.inl ⟨by rfl,?_⟩) kS.out ?_
 rotate_left
 · intro u hSu
   try dsimp only at hSu
   first | (go_simp;done) | (go_simp;with_reducible rfl)
 try simp only [Act.put,List.setIfInBounds_toArray,List.set_cons_zero,List.set_cons_succ]
 refine until_take (i:=1) [2,3,4,6] (v:=?_) rfl (by kernel_rfl) (by kernel_rfl) (by kernel_rfl) (by kernel_rfl) (by kernel_rfl) (fun _ _ _ h=>h) (Or.inl ⟨by rfl,?_⟩) kS.out ?_
 rotate_left
 · intro u hSu
   try dsimp only at hSu
   first | (go_simp;done) | (go_simp;with_reducible rfl)
 try simp only [Act.put,List.setIfInBounds_toArray,List.set_cons_zero,List.set_cons_succ]
 refine until_take (i:=2) [3,4,6] (v:=?_) rfl (by kernel_rfl) (by kernel_rfl) (by kernel_rfl) (by kernel_rfl) (by kernel_rfl) (fun _ _ _ h=>h) (Or.inl ⟨by rfl,?_⟩) kS.out ?_
 rotate_left
 · intro u hSu
   try dsimp only at hSu
   first | (go_simp;done) | (go_simp;with_reducible rfl)
 try simp only [Act.put,List.setIfInBounds_toArray,List.set_cons_zero,List.set_cons_succ]
 refine until_take (i:=3) [4,6] (v:=?_) rfl (by kernel_rfl) (by kernel_rfl) (by kernel_rfl) (by kernel_rfl) (by kernel_rfl) (fun _ _ _ h=>h) (Or.inl ⟨by rfl,?_⟩) kS.out ?_
 rotate_left
 · intro u hSu
   try dsimp only at hSu
   first | (go_simp;done) | (go_simp;with_reducible rfl)
 try simp only [Act.put,List.setIfInBounds_toArray,List.set_cons_zero,List.set_cons_succ]
 refine until_take (i:=4) [6] rfl (by kernel_rfl) (by kernel_rfl) (by kernel_rfl) (by kernel_rfl) (by kernel_rfl) (fun _ _ _ h=>h) (yieldsIf_load_mid (by rfl) _ _ rfl g 0 rfl (L.map U) _ (fun u h=>h.1) hu rfl hsz) kS.out ?_
 try simp only [Act.put,List.setIfInBounds_toArray,List.set_cons_zero,List.set_cons_succ]
 refine until_take (i:=5) [6] (v:=?_) rfl (by kernel_rfl) (by kernel_rfl) (by kernel_rfl) (by kernel_rfl) (by kernel_rfl) (fun _ _ _ h=>h) (Or.inl ⟨by rfl,?_⟩) kS.out ?_
 rotate_left
 · intro u hSu
   try dsimp only at hSu
   first | (go_simp;done) | (go_simp;with_reducible rfl)
 try simp only [Act.put,List.setIfInBounds_toArray,List.set_cons_zero,List.set_cons_succ]
 refine until_take (i:=7) [8,9,10,13] (v:=?_) rfl (by kernel_rfl) (by kernel_rfl) (by kernel_rfl) (by kernel_rfl) (by kernel_rfl) (fun _ _ _ h=>h) (Or.inl ⟨by rfl,?_⟩) kS.out ?_
 rotate_left
 · intro u hSu
   try dsimp only at hSu
   first | (go_simp;done) | (go_simp;with_reducible rfl)
 try simp only [Act.put,List.setIfInBounds_toArray,List.set_cons_zero,List.set_cons_succ]
 refine until_take (i:=8) [9,10,13] (v:=?_) rfl (by kernel_rfl) (by kernel_rfl) (by kernel_rfl) (by kernel_rfl) (by kernel_rfl) (fun _ _ _ h=>h) (Or.inl ⟨by rfl,?_⟩) kS.out ?_
 rotate_left
 · intro u hSu
   try dsimp only at hSu
   first | (go_simp;done) | (go_simp;with_reducible rfl)
 try simp only [Act.put,List.setIfInBounds_toArray,List.set_cons_zero,List.set_cons_succ]
 refine until_take (i:=9) [10,13] (v:=?_) rfl (by kernel_rfl) (by kernel_rfl) (by kernel_rfl) (by kernel_rfl) (by kernel_rfl) (fun _ _ _ h=>h) (Or.inl ⟨by rfl,?_⟩) kS.out ?_
 rotate_left
 · intro u hSu
   try dsimp only at hSu
   first | (go_simp;done) | (go_simp;with_reducible rfl)
 try simp only [Act.put,List.setIfInBounds_toArray,List.set_cons_zero,List.set_cons_succ]
 refine until_take (i:=10) [13] (v:=?_) rfl (by kernel_rfl) (by kernel_rfl) (by kernel_rfl) (by kernel_rfl) (by kernel_rfl) (fun _ _ _ h=>h) (Or.inl ⟨by rfl,?_⟩) kS.out ?_
 rotate_left
 · intro u hSu
   try dsimp only at hSu
   first | (go_simp;done) | (go_simp;with_reducible rfl)
 try simp only [Act.put,List.setIfInBounds_toArray,List.set_cons_zero,List.set_cons_succ]
 refine until_take (i:=11) [12,13] (v:=?_) rfl (by kernel_rfl) (by kernel_rfl) (by kernel_rfl) (by kernel_rfl) (by kernel_rfl) (fun _ _ _ h=>h) (Or.inl ⟨by rfl,?_⟩) kS.out ?_
 rotate_left
 · intro u hSu
   try dsimp only at hSu
   first | (go_simp;done) | (go_simp;with_reducible rfl)
 try simp only [Act.put,List.setIfInBounds_toArray,List.set_cons_zero,List.set_cons_succ]
 refine until_take (i:=12) [13] (v:=?_) rfl (by kernel_rfl) (by kernel_rfl) (by kernel_rfl) (by kernel_rfl) (by kernel_rfl) (fun _ _ _ h=>h) (Or.inl ⟨by rfl,?_⟩) kS.out ?_
 rotate_left
 · intro u hSu
   try dsimp only at hSu
   first | (go_simp;done) | (go_simp;with_reducible rfl)
 try simp only [Act.put,List.setIfInBounds_toArray,List.set_cons_zero,List.set_cons_succ]
 refine until_one (i:=6) (by kernel_rfl) rfl (fun K' hK=>?_)
 go_simp
 refine (HW.out _ BB.out).mono ?_;rintro r u1 ⟨M,rfl,hMl,hMw,hMv,hb⟩;have HM:=qsd (ai hMl (ai hMw hMv));have BB:=qsd (BB.out.trans (hb.mono BB.out.size));have A1:=A0.out.below BB.out A0.out.lt;have Z1:=H1.out.1.below BB.out H1.out.1.lt;have kS:=qsd (ai (A1.range) (ai (A1.cell HR.out.2.1 0 _ rfl) (ai (A1.cell HR.out.2.1 1 _ rfl) (ai (A1.cell HR.out.2.1 2 _ rfl) (ai (A1.cell HR.out.2.1 3 _ rfl) (ai (A1.cell HR.out.2.1 4 _ rfl) (ai (A1.cell HR.out.2.1 5 _ rfl) (Z1.four))))))));clear hb A1 Z1 hMl hMw hMv
 dsimp only
 refine hK.out _ _ (fun _=>kS.out) ?_
 clear hK K'
 try simp only [Act.put,List.setIfInBounds_toArray,List.set_cons_zero,List.set_cons_succ]
 refine until_one (i:=13) (by kernel_rfl) rfl (fun K' hK=>?_)
 go_simp
 refine (HC.out _).mono ?_;rintro r u2 ⟨rfl,hb⟩;have BB:=qsd (BB.out.trans (hb.mono BB.out.size));have A1:=A0.out.below BB.out A0.out.lt;have Z1:=H1.out.1.below BB.out H1.out.1.lt;have kS:=qsd (ai (A1.range) (ai (A1.cell HR.out.2.1 0 _ rfl) (ai (A1.cell HR.out.2.1 1 _ rfl) (ai (A1.cell HR.out.2.1 2 _ rfl) (ai (A1.cell HR.out.2.1 3 _ rfl) (ai (A1.cell HR.out.2.1 4 _ rfl) (ai (A1.cell HR.out.2.1 5 _ rfl) (Z1.four))))))));clear hb A1 Z1
 dsimp only
 refine hK.out _ _ (fun _=>kS.out) ?_
 clear hK K'
 try simp only [Act.put,List.setIfInBounds_toArray,List.set_cons_zero,List.set_cons_succ]
 refine until_one (i:=14) (by kernel_rfl) rfl (fun K' hK=>?_)
 go_simp
 have CB:=become_any g L M V T ⟨sn,su,sd,sm,sp,sa⟩ ⟨tn,tu,td,tm,tp,ta⟩ u2 (A0.out.below BB.out A0.out.lt) HR.out.2.1 HR.out.2.2.1 HR.out.2.2.2.1 HR.out.2.2.2.2.1 HR.out.2.2.2.2.2.1 HM.out.2.1 HM.out.1 (by rw [HM.out.2.2,hTT.out.1,HR.out.2.2.2.1,emod_add']) hTT.out.2.1 hTT.out.2.2
 rw [←HP.out] at CB;simp only [Sp.agg] at CB;refine CB.mono ?_;rintro r u3 hD;have HD3:=qsd hD;obtain ⟨rfl,_,_⟩:=hD;clear CB
 dsimp only
 refine hK.out _ _ (fun h=>absurd h (by decide)) ?_
 clear hK K'
 try simp only [Act.put,List.setIfInBounds_toArray,List.set_cons_zero,List.set_cons_succ]
 refine until_one (i:=15) (by kernel_rfl) rfl (fun K' hK=>?_)
 go_simp
 refine hK.out _ _ (fun h=>absurd h (by decide)) ?_
 clear hK K';refine until_done (by kernel_rfl) ?_ _
 clear kS;go_wp2;go_ret;obtain ⟨h1,h2,h3⟩:=HD3.out;exact ⟨rfl,h2,((But.refl g w).of_bel H1.out.2.1).trans (((But.refl g w1).of_bel BB.out).trans h3)⟩
theorem drop_core (g:Nat) (L xs:List Nat) (V T:Int) (s:Sp) (k:Nat) (ng:Bool) (ao:Option Addr) (n cap p:Nat) (w:World) (hs:s.ok) (hk:k≤5) (hA:Ac w g L s) (hl:L.length=133) (hL:Wf L) (hv:(val L:Int)=V%(PB:Int)) (h0:-(HB:Int)<V) (h1:V<(HB:Int))
 (hx:Arg w ao n cap xs) (hp:p+32*n≤4256) (hT:sgn7 ng (val xs*2^p)=T) (hT0:-(HB:Int)<T) (hT1:T<(HB:Int)) :
 Calls Tryz.prog 87 #[.pointer (some ⟨g,0,none⟩),.agg #[.int .i64 (k:Nat),.bool ng,.slice ao n cap,.int .i64 (p:Nat)]] w (Did g w (dropS V s k T)):=by
 obtain ⟨t,ht⟩:∃ t,t=s.cnt k (-1):=⟨_,rfl⟩;obtain ⟨X,hX⟩:∃ X,X=dropS V s k T:=⟨_,rfl⟩;rw [←hX];have HC:=hid (fun u:World=>counted_any s k (-1) u hk hs (by decide) (by decide))
 rw [←ht] at HC;obtain ⟨sn,su,sd,sm,sp,sa⟩:=s;obtain ⟨tn,tu,td,tm,tp,ta⟩:=t;have HR:Aside (Ac w g L ⟨sn,su,sd,sm,sp,sa⟩∧L.length=133∧Wf L∧(val L:Int)=V%(PB:Int)∧-(HB:Int)<V∧V<(HB:Int)∧Arg w ao n cap xs∧p+32*n≤4256∧sgn7 ng (val xs*2^p)=T∧-(HB:Int)<T∧T<(HB:Int)):=⟨hA,hl,hL,hv,h0,h1,hx,hp,hT,hT0,hT1⟩;have HX:Aside (X=dropS V ⟨sn,su,sd,sm,sp,sa⟩ k T∧⟨tn,tu,td,tm,tp,ta⟩=Sp.cnt ⟨sn,su,sd,sm,sp,sa⟩ k (-1)):=⟨hX,ht⟩;simp only [Sp.agg] at HC;have HD:=hid (fun u:World=>held_any ⟨sn,su,sd,sm,sp,sa⟩ k u hk hs)
 simp only [Sp.agg] at HD;obtain ⟨hh,hhh⟩:∃ hh,hh=Sp.has ⟨sn,su,sd,sm,sp,sa⟩ k:=⟨_,rfl⟩;rw [←hhh] at HD;have HH:=qsd hhh;clear hhh;clear hA hl hL hv h0 h1 hx hp hT hT0 hT1 hX ht hs;go_enter Tryz.func87,Tryz.ntmps87;obtain ⟨w0,hw0⟩:∃ w0,w0=w.alloc (Obj.cells #[.int .i64 (k:Nat),.bool ng,.slice ao n cap,.int .i64 (p:Nat)] 117):=⟨_,rfl⟩
 have H0:Aside (Bl w0 w.heap.size 117 [.int .i64 (k:Nat),.bool ng,.slice ao n cap,.int .i64 (p:Nat)]∧Below w.heap.size w w0∧w0.heap.size=w.heap.size+1):=by
  subst hw0;exact ⟨Bl.new w 117 [_,_,_,_],bel_alloc _ _,by simp⟩
 go_wp2;rw [←hw0];clear hw0;have A0:=qsd (HR.out.1.below H0.out.2.1 HR.out.1.lt)
 have kS:Aside (w0.drew.cell? ⟨g,133,none⟩=some (.int .i64 sn)∧w0.drew.cell? ⟨g,134,none⟩=some (.int .i64 su)∧w0.drew.cell? ⟨g,135,none⟩=some (.int .i64 sd)∧w0.drew.cell? ⟨g,136,none⟩=some (.int .i64 sm)∧w0.drew.cell? ⟨g,137,none⟩=some (.int .i64 sp)∧w0.drew.cell? ⟨g,138,none⟩=some (.int .i64 sa)∧w0.drew.cell? ⟨w.heap.size,0,none⟩=some (.int .i64 (k:Nat))) :=
  ⟨A0.out.drew.cell HR.out.2.1 0 _ rfl,A0.out.drew.cell HR.out.2.1 1 _ rfl,A0.out.drew.cell HR.out.2.1 2 _ rfl,A0.out.drew.cell HR.out.2.1 3 _ rfl,A0.out.drew.cell HR.out.2.1 4 _ rfl,A0.out.drew.cell HR.out.2.1 5 _ rfl,H0.out.1.drew.four.1⟩
 go_region_held (fun w'=>w'.cell? ⟨g,133,none⟩=some (.int .i64 sn)∧w'.cell? ⟨g,134,none⟩=some (.int .i64 su)∧w'.cell? ⟨g,135,none⟩=some (.int .i64 sd)∧w'.cell? ⟨g,136,none⟩=some (.int .i64 sm)∧w'.cell? ⟨g,137,none⟩=some (.int .i64 sp)∧w'.cell? ⟨g,138,none⟩=some (.int .i64 sa)∧w'.cell? ⟨w.heap.size,0,none⟩=some (.int .i64 (k:Nat))) (with_reducible exact kS.out) (first
  | (go_at_call 119
     with_reducible refine (HD.out _).mono ?_
     rintro r u0 ⟨rfl,hb⟩;have hb0:Below w0.heap.size w0 u0:=((Below.refl _ w0).drew).trans (hb.mono (Nat.le_refl _));have A1:=A0.out.below hb0 (by have:=HR.out.1.lt;have:=H0.out.2.2;omega)
     have Z1:=H0.out.1.below hb0 (by have:=H0.out.2.2;omega)
     have kS:=qsd (ai (A1.cell HR.out.2.1 0 _ rfl) (ai (A1.cell HR.out.2.1 1 _ rfl) (ai (A1.cell HR.out.2.1 2 _ rfl) (ai (A1.cell HR.out.2.1 3 _ rfl) (ai (A1.cell HR.out.2.1 4 _ rfl) (ai (A1.cell HR.out.2.1 5 _ rfl) Z1.four.1))))));have BB:=qsd (ai A1 (ai Z1 hb0));clear hb hb0 A1 Z1))
 obtain ⟨z0,z1,z2,z3⟩:=BB.out.2.1.four;have g1:=BB.out.2.1.frozen 1;have hBw:Below w.heap.size w u0:=H0.out.2.1.trans (BB.out.2.2.mono H0.out.2.1.size);have hBw:=qsd hBw;have hsz:Aside (w.heap.size<u0.heap.size):=by have:=BB.out.2.2.size;have:=H0.out.2.2;exact (by omega:w.heap.size<u0.heap.size)
 clear kS
 by_cases hmax:hh=0
 · subst hmax
   go_wp2;go_ret;rw [HX.out.1];unfold dropS;rw [if_pos HH.out.symm];obtain ⟨hA,hl,hL,hv,h0,h1,_⟩:=HR.out;exact ⟨rfl,⟨L,hl,hL,hv,h0,h1,BB.out.1⟩,(But.refl g w).of_bel hBw.out⟩
 have hmax':(hh==0)=false:=by simpa using hmax
 go_wp2
 have HP:Aside (X=step7 V ⟨sn,su,sd,sm,sp,sa⟩ (-T) ⟨tn,tu,td,tm,tp,ta⟩):=by
  refine qsd ?_;rw [HX.out.1,HX.out.2];unfold dropS;rw [if_neg (by rw [←HH.out];exact hmax)]
 obtain ⟨w1,hw1⟩:∃ w1,w1=u0.setCell ⟨w.heap.size,1,none⟩ (.bool !ng):=⟨_,rfl⟩;rw [←hw1]
 have H1:Aside (Bl w1 w.heap.size 117 [.int .i64 (k:Nat),.bool !ng,.slice ao n cap,.int .i64 (p:Nat)]∧Below w.heap.size w w1∧w.heap.size+1≤w1.heap.size):=by
  subst hw1;exact ⟨BB.out.2.1.set 1 _,But.below hBw.out ((But.refl _ _).set 1 _) hBw.out.size (Nat.le_refl _),by have:=hsz.out;simp;omega⟩
 clear hw1 hmax hmax' z0 z1 z2 z3 g1 BB H0 A0 hBw hsz;have hu:=Tryz.desc_words;have hsz:(Tryz.prog.info? 91).map (·.size)=some (L.map U).length:=by rw [Tryz.size_words,List.length_map,HR.out.2.1]
 have A0:=qsd (HR.out.1.below H1.out.2.1 HR.out.1.lt);have BB:Aside (Below w1.heap.size w1 w1.drew):=(Below.refl _ _).drew;have kS:=qsd (ai (A0.out.drew.range) (ai (A0.out.drew.cell HR.out.2.1 0 _ rfl) (ai (A0.out.drew.cell HR.out.2.1 1 _ rfl) (ai (A0.out.drew.cell HR.out.2.1 2 _ rfl) (ai (A0.out.drew.cell HR.out.2.1 3 _ rfl) (ai (A0.out.drew.cell HR.out.2.1 4 _ rfl) (ai (A0.out.drew.cell HR.out.2.1 5 _ rfl) (H1.out.1.drew.four))))))));have HW:=hid (fun (u:World) (hb:Below w1.heap.size w1 u)=>with_any L xs ao n cap p (k:Nat) (!ng) u HR.out.2.1 HR.out.2.2.1 ((HR.out.2.2.2.2.2.2.1.below H1.out.2.1).below hb) HR.out.2.2.2.2.2.2.2.1)
 have hTT:Aside (sgn7 (!ng) (val xs*2^p)=(-T)∧-(HB:Int)<(-T)∧(-T)<(HB:Int)):=by
  have h:=HR.out.2.2.2.2.2.2.2.2;refine ⟨?_,by omega,by omega⟩
  first | exact h.1 | (rw [←h.1];cases ng <;> simp [sgn7])
 refine until_region (fun w'=>w'.rangeAt g 0 (L.map U)∧w'.cell? ⟨g,133,none⟩=some (.int .i64 sn)∧w'.cell? ⟨g,134,none⟩=some (.int .i64 su)∧w'.cell? ⟨g,135,none⟩=some (.int .i64 sd)∧w'.cell? ⟨g,136,none⟩=some (.int .i64 sm)∧w'.cell? ⟨g,137,none⟩=some (.int .i64 sp)∧w'.cell? ⟨g,138,none⟩=some (.int .i64 sa)∧w'.cell? ⟨w.heap.size,0,none⟩=some (.int .i64 (k:Nat))∧w'.cell? ⟨w.heap.size,1,none⟩=some (.bool !ng)∧w'.cell? ⟨w.heap.size,2,none⟩=some (.slice ao n cap)∧w'.cell? ⟨w.heap.size,3,none⟩=some (.int .i64 (p:Nat))) 14 (by kernel_rfl) ?_
 refine until_take (i:=0) [] (v:=?_) rfl (by kernel_rfl) (by kernel_rfl) (by kernel_rfl) (by kernel_rfl) (by kernel_rfl) (fun _ _ _ h=>h) (Or.inl ⟨by rfl,?_⟩) kS.out ?_
 rotate_left
 · intro u hSu
   try dsimp only at hSu
   first | (go_simp;done) | (go_simp;with_reducible rfl)
 try simp only [Act.put,List.setIfInBounds_toArray,List.set_cons_zero,List.set_cons_succ]
 refine until_take (i:=1) [2,3,4,6] (v:=?_) rfl (by kernel_rfl) (by kernel_rfl) (by kernel_rfl) (by kernel_rfl) (by kernel_rfl) (fun _ _ _ h=>h) (Or.inl ⟨by rfl,?_⟩) kS.out ?_
 rotate_left
 · intro u hSu
   try dsimp only at hSu
   first | (go_simp;done) | (go_simp;with_reducible rfl)
 try simp only [Act.put,List.setIfInBounds_toArray,List.set_cons_zero,List.set_cons_succ]
 refine until_take (i:=2) [3,4,6] (v:=?_) rfl (by kernel_rfl) (by kernel_rfl) (by kernel_rfl) (by kernel_rfl) (by kernel_rfl) (fun _ _ _ h=>h) (Or.inl ⟨by rfl,?_⟩) kS.out ?_
 rotate_left
 · intro u hSu
   try dsimp only at hSu
   first | (go_simp;done) | (go_simp;with_reducible rfl)
 try simp only [Act.put,List.setIfInBounds_toArray,List.set_cons_zero,List.set_cons_succ]
 refine until_take (i:=3) [4,6] (v:=?_) rfl (by kernel_rfl) (by kernel_rfl) (by kernel_rfl) (by kernel_rfl) (by kernel_rfl) (fun _ _ _ h=>h) (Or.inl ⟨by rfl,?_⟩) kS.out ?_
 rotate_left
 · intro u hSu
   try dsimp only at hSu
   first | (go_simp;done) | (go_simp;with_reducible rfl)
 try simp only [Act.put,List.setIfInBounds_toArray,List.set_cons_zero,List.set_cons_succ]
 refine until_take (i:=4) [6] rfl (by kernel_rfl) (by kernel_rfl) (by kernel_rfl) (by kernel_rfl) (by kernel_rfl) (fun _ _ _ h=>h) (yieldsIf_load_mid (by rfl) _ _ rfl g 0 rfl (L.map U) _ (fun u h=>h.1) hu rfl hsz) kS.out ?_
 try simp only [Act.put,List.setIfInBounds_toArray,List.set_cons_zero,List.set_cons_succ]
 refine until_take (i:=5) [6] (v:=?_) rfl (by kernel_rfl) (by kernel_rfl) (by kernel_rfl) (by kernel_rfl) (by kernel_rfl) (fun _ _ _ h=>h) (Or.inl ⟨by rfl,?_⟩) kS.out ?_
 rotate_left
 · intro u hSu
   try dsimp only at hSu
   first | (go_simp;done) | (go_simp;with_reducible rfl)
 try simp only [Act.put,List.setIfInBounds_toArray,List.set_cons_zero,List.set_cons_succ]
 refine until_take (i:=7) [8,9,10,13] (v:=?_) rfl (by kernel_rfl) (by kernel_rfl) (by kernel_rfl) (by kernel_rfl) (by kernel_rfl) (fun _ _ _ h=>h) (Or.inl ⟨by rfl,?_⟩) kS.out ?_
 rotate_left
 · intro u hSu
   try dsimp only at hSu
   first | (go_simp;done) | (go_simp;with_reducible rfl)
 try simp only [Act.put,List.setIfInBounds_toArray,List.set_cons_zero,List.set_cons_succ]
 refine until_take (i:=8) [9,10,13] (v:=?_) rfl (by kernel_rfl) (by kernel_rfl) (by kernel_rfl) (by kernel_rfl) (by kernel_rfl) (fun _ _ _ h=>h) (Or.inl ⟨by rfl,?_⟩) kS.out ?_
 rotate_left
 · intro u hSu
   try dsimp only at hSu
   first | (go_simp;done) | (go_simp;with_reducible rfl)
 try simp only [Act.put,List.setIfInBounds_toArray,List.set_cons_zero,List.set_cons_succ]
 refine until_take (i:=9) [10,13] (v:=?_) rfl (by kernel_rfl) (by kernel_rfl) (by kernel_rfl) (by kernel_rfl) (by kernel_rfl) (fun _ _ _ h=>h) (Or.inl ⟨by rfl,?_⟩) kS.out ?_
 rotate_left
 · intro u hSu
   try dsimp only at hSu
   first | (go_simp;done) | (go_simp;with_reducible rfl)
 try simp only [Act.put,List.setIfInBounds_toArray,List.set_cons_zero,List.set_cons_succ]
 refine until_take (i:=10) [13] (v:=?_) rfl (by kernel_rfl) (by kernel_rfl) (by kernel_rfl) (by kernel_rfl) (by kernel_rfl) (fun _ _ _ h=>h) (Or.inl ⟨by rfl,?_⟩) kS.out ?_
 rotate_left
 · intro u hSu
   try dsimp only at hSu
   first | (go_simp;done) | (go_simp;with_reducible rfl)
 try simp only [Act.put,List.setIfInBounds_toArray,List.set_cons_zero,List.set_cons_succ]
 refine until_take (i:=11) [12,13] (v:=?_) rfl (by kernel_rfl) (by kernel_rfl) (by kernel_rfl) (by kernel_rfl) (by kernel_rfl) (fun _ _ _ h=>h) (Or.inl ⟨by rfl,?_⟩) kS.out ?_
 rotate_left
 · intro u hSu
   try dsimp only at hSu
   first | (go_simp;done) | (go_simp;with_reducible rfl)
 try simp only [Act.put,List.setIfInBounds_toArray,List.set_cons_zero,List.set_cons_succ]
 refine until_take (i:=12) [13] (v:=?_) rfl (by kernel_rfl) (by kernel_rfl) (by kernel_rfl) (by kernel_rfl) (by kernel_rfl) (fun _ _ _ h=>h) (Or.inl ⟨by rfl,?_⟩) kS.out ?_
 rotate_left
 · intro u hSu
   try dsimp only at hSu
   first | (go_simp;done) | (go_simp;with_reducible rfl)
 try simp only [Act.put,List.setIfInBounds_toArray,List.set_cons_zero,List.set_cons_succ]
 refine until_one (i:=6) (by kernel_rfl) rfl (fun K' hK=>?_)
 go_simp
 refine (HW.out _ BB.out).mono ?_;rintro r u1 ⟨M,rfl,hMl,hMw,hMv,hb⟩;have HM:=qsd (ai hMl (ai hMw hMv));have BB:=qsd (BB.out.trans (hb.mono BB.out.size));have A1:=A0.out.below BB.out A0.out.lt;have Z1:=H1.out.1.below BB.out H1.out.1.lt;have kS:=qsd (ai (A1.range) (ai (A1.cell HR.out.2.1 0 _ rfl) (ai (A1.cell HR.out.2.1 1 _ rfl) (ai (A1.cell HR.out.2.1 2 _ rfl) (ai (A1.cell HR.out.2.1 3 _ rfl) (ai (A1.cell HR.out.2.1 4 _ rfl) (ai (A1.cell HR.out.2.1 5 _ rfl) (Z1.four))))))));clear hb A1 Z1 hMl hMw hMv
 dsimp only
 refine hK.out _ _ (fun _=>kS.out) ?_
 clear hK K'
 try simp only [Act.put,List.setIfInBounds_toArray,List.set_cons_zero,List.set_cons_succ]
 refine until_one (i:=13) (by kernel_rfl) rfl (fun K' hK=>?_)
 go_simp
 refine (HC.out _).mono ?_;rintro r u2 ⟨rfl,hb⟩;have BB:=qsd (BB.out.trans (hb.mono BB.out.size));have A1:=A0.out.below BB.out A0.out.lt;have Z1:=H1.out.1.below BB.out H1.out.1.lt;have kS:=qsd (ai (A1.range) (ai (A1.cell HR.out.2.1 0 _ rfl) (ai (A1.cell HR.out.2.1 1 _ rfl) (ai (A1.cell HR.out.2.1 2 _ rfl) (ai (A1.cell HR.out.2.1 3 _ rfl) (ai (A1.cell HR.out.2.1 4 _ rfl) (ai (A1.cell HR.out.2.1 5 _ rfl) (Z1.four))))))));clear hb A1 Z1
 dsimp only
 refine hK.out _ _ (fun _=>kS.out) ?_
 clear hK K'
 try simp only [Act.put,List.setIfInBounds_toArray,List.set_cons_zero,List.set_cons_succ]
 refine until_one (i:=14) (by kernel_rfl) rfl (fun K' hK=>?_)
 go_simp
 have CB:=become_any g L M V (-T) ⟨sn,su,sd,sm,sp,sa⟩ ⟨tn,tu,td,tm,tp,ta⟩ u2 (A0.out.below BB.out A0.out.lt) HR.out.2.1 HR.out.2.2.1 HR.out.2.2.2.1 HR.out.2.2.2.2.1 HR.out.2.2.2.2.2.1 HM.out.2.1 HM.out.1 (by rw [HM.out.2.2,hTT.out.1,HR.out.2.2.2.1,emod_add']) hTT.out.2.1 hTT.out.2.2
 rw [←HP.out] at CB;simp only [Sp.agg] at CB;refine CB.mono ?_;rintro r u3 hD;have HD3:=qsd hD;obtain ⟨rfl,_,_⟩:=hD;clear CB
 dsimp only
 refine hK.out _ _ (fun h=>absurd h (by decide)) ?_
 clear hK K'
 try simp only [Act.put,List.setIfInBounds_toArray,List.set_cons_zero,List.set_cons_succ]
 refine until_one (i:=15) (by kernel_rfl) rfl (fun K' hK=>?_)
 go_simp
 refine hK.out _ _ (fun h=>absurd h (by decide)) ?_
 clear hK K';refine until_done (by kernel_rfl) ?_ _
 clear kS;go_wp2;go_ret;obtain ⟨h1,h2,h3⟩:=HD3.out;exact ⟨rfl,h2,((But.refl g w).of_bel H1.out.2.1).trans (((But.refl g w1).of_bel BB.out).trans h3)⟩
def sW (x:Nat):Bool:=decide (9223372036854775808≤x)
def eW (x:Nat):Nat:=x%9223372036854775808/4503599627370496
def fW (x:Nat):Nat:=x%4503599627370496
theorem bw_parts (x:Nat) (hx:x<18446744073709551616):x=B.bw (sW x) (eW x) (fW x)∧eW x<2048∧fW x<4503599627370496:=by
 unfold B.bw sW eW fW;refine ⟨?_,by omega,by omega⟩
 by_cases h:9223372036854775808≤x
 · simp only [h,decide_true,Bool.toNat_true];omega
 · simp only [h,decide_false,Bool.toNat_false];omega
def clW (x:Nat):Int:=B.cls (eW x) (fW x)
def xpW (x:Nat):Int:=B.xp (eW x)
def frW (x:Nat):Nat:=(B.fr (eW x) (fW x)).toNat
def ngW (x:Nat):Bool:=B.ng (sW x) (eW x) (fW x)
def pK (x y:Nat):Nat:=pk (max (clW x) (clW y)) (min (clW x) (clW y)) (!ngW x==ngW y)
def pT (x y:Nat):Int:=pv7 (max (clW x) (clW y)) (min (clW x) (clW y)) (!ngW x==ngW y) (frW x) (frW y) (xpW x+xpW y)
theorem pk_le (hi lo:Int) (ng:Bool):pk hi lo ng≤5:=by
 unfold pk
 split
 · omega
 · split
   · split <;> omega
   · split
     · split <;> omega
     · omega
theorem HB_two (k:Nat) (hk:k=4238):HB=2^k:=by
 obtain ⟨j,hj⟩:∃ j,j=32*132:=⟨_,rfl⟩;rw [HB_eq,pw_pow,←hj,show k=14+j by omega,Nat.pow_add]
theorem sgn_bound (ng:Bool) (X B:Nat) (h:X<B):-(B:Int)<sgn7 ng X∧sgn7 ng X<(B:Int):=by cases ng <;> simp only [sgn7,if_true,if_false] <;> constructor <;> (try simp) <;> omega
theorem pT_bound (x y:Nat) (hx:x<18446744073709551616) (hy:y<18446744073709551616):-(HB:Int)<pT x y∧pT x y<(HB:Int):=by
 unfold pT pv7;have hp:=HB_pos
 split
 · refine sgn_bound _ _ _ ?_
   have f1:=fr_bound (eW x) (fW x) (bw_parts x hx).2.2;have f2:=fr_bound (eW y) (fW y) (bw_parts y hy).2.2;have x1:=xp_bound (eW x) (bw_parts x hx).2.1;have x2:=xp_bound (eW y) (bw_parts y hy).2.1
   have h1:frW x*frW y<2^106:=by
    have:frW x*frW y≤9007199254740991*9007199254740991:=Nat.mul_le_mul (by unfold frW;omega) (by unfold frW;omega)
    exact Nat.lt_of_le_of_lt this (by decide)
   obtain ⟨k,hk⟩:∃ k,k=4238:=⟨_,rfl⟩;rw [HB_two k hk];refine Nat.lt_of_lt_of_le (Nat.mul_lt_mul_of_pos_right h1 (Nat.two_pow_pos _)) ?_;rw [←Nat.pow_add];exact Nat.pow_le_pow_right (by decide) (by unfold xpW;omega)
 · constructor <;> omega
theorem product7 (x y:Nat) (hx:x<18446744073709551616) (hy:y<18446744073709551616) (w:World) :
 Calls Tryz.prog 88 #[.float .f64 x,.float .f64 y] w fun r w'=>∃ v,r=.returned v∧Th w.heap.size w' v (pK x y) (pT x y)∧Below w.heap.size w w':=by
 obtain ⟨a1,a2,a3⟩:=bw_parts x hx;obtain ⟨b1,b2,b3⟩:=bw_parts y hy;have h1:=splitIs (sW x) (eW x) (fW x) a2 a3;have h2:=splitIs (sW y) (eW y) (fW y) b2 b3;rw [←a1] at h1;rw [←b1] at h2;exact product_any x y _ _ _ _ _ _ _ _ w h1 h2 (xp_bound _ a2) (xp_bound _ b2) (fr_bound _ _ a3) (fr_bound _ _ b3)
theorem number7 (x:Nat) (hx:x<18446744073709551616) (w:World) :
 Calls Tryz.prog 77 #[.float .f64 x] w fun r w'=>∃ v,r=.returned v∧Th w.heap.size w' v (pK x 4607182418800017408) (pT x 4607182418800017408)∧Below w.heap.size w w':=by
 have HP:=hid (fun u:World=>product7 x 4607182418800017408 hx (by decide) u)
 clear hx;go_enter Tryz.func77,Tryz.ntmps77
 go_wp2_with fail
 refine (HP.out _).mono ?_;rintro r w1 ⟨v,rfl,hT,hb⟩;obtain ⟨ng,a,n,c,p,xs,hlo,rfl,hA,hp,hv⟩:=hT;have HL:=qsd hlo;have Z:=qsd ((Bl.new w 117 [Value.int .i64 0,Value.bool false,Value.slice none 0 0,Value.int .i64 0]).below hb (by simp))
 have HA:=qsd (ai hA (ai hp (ai hv hb)));obtain ⟨z0,z1,z2,z3⟩:=Z.out.four;have g0:=Z.out.frozen 0;have g1:=Z.out.frozen 1;have g2:=Z.out.frozen 2;have g3:=Z.out.frozen 3;clear hA hp hv hb hlo;go_wp2;obtain ⟨w5,hw5⟩:∃ w5,w5=((((w1.setCell ⟨w.heap.size,0,none⟩ (.int .i64 (pK x 4607182418800017408:Nat))).setCell ⟨w.heap.size,1,none⟩ (.bool ng)).setCell ⟨w.heap.size,2,none⟩ (.slice a n c)).setCell ⟨w.heap.size,3,none⟩ (.int .i64 (p:Nat))):=⟨_,rfl⟩;rw [←hw5];have q:Bl w5 w.heap.size 117 [.int .i64 (pK x 4607182418800017408:Nat),.bool ng,.slice a n c,.int .i64 (p:Nat)]:=by rw [hw5];exact put4 Z.out
 have hbut:But w.heap.size w1 w5:=by rw [hw5];exact ((((But.refl _ w1).set 0 _).set 1 _).set 2 _).set 3 _
 have hBw:Below w.heap.size w w1:=(bel_alloc w _).trans (HA.out.2.2.2.mono (by simp))
 have qb:Below w.heap.size w w5:=But.below hBw hbut hBw.size (Nat.le_refl _);clear hw5;obtain ⟨q0,q1,q2,q3⟩:=q.four;refine bodyPost_ret (v:=.agg #[.int .i64 (pK x 4607182418800017408:Nat),.bool ng,.slice a n c,.int .i64 (p:Nat)]) (by simp [results,Tryz.results77,go_sem,q0,q1,q2,q3]) rfl ?_
 refine ⟨_,rfl,⟨ng,a,n,c,p,xs,fun ad e=>?_,rfl,?_,HA.out.2.1,HA.out.2.2.1⟩,qb⟩
 · have:=HL.out ad e;simp at this;omega
 · obtain ⟨r1,r2,r3,r4,r5,r6⟩:=HA.out.1
   refine ⟨r1,r2,r3,r4,fun hne=>?_,r6⟩
   obtain ⟨b,off,hlt,rfl,hc⟩:=r5 hne;have hbb:=HL.out _ rfl;simp at hbb;refine ⟨b,off,Nat.lt_of_lt_of_le hlt hbut.size,rfl,fun i hi=>?_⟩
   rw [←hc i hi];exact World.cell?_of_block (a:=⟨b,off+i,none⟩) (hbut.block b hlt (by omega))
theorem put7 (g:Nat) (V T:Int) (s:Sp) (k lo:Nat) (v:Value) (w:World) (hA:Acc7 w g V s) (hs:s.ok) (hk:k≤5) (ht:Th lo w v k T) (h0:-(HB:Int)<T) (h1:T<(HB:Int)) :
 Calls Tryz.prog 76 #[.pointer (some ⟨g,0,none⟩),v] w (Did g w (putS V s k T)):=by
 obtain ⟨L,a1,a2,a3,a4,a5,a6⟩:=hA;obtain ⟨ng,a,n,c,p,xs,_,rfl,hx,hp,hv⟩:=ht;exact put_core g L xs V T s k ng a n c p w hs hk a6 a1 a2 a3 a4 a5 hx hp hv h0 h1
theorem drop7 (g:Nat) (V T:Int) (s:Sp) (k lo:Nat) (v:Value) (w:World) (hA:Acc7 w g V s) (hs:s.ok) (hk:k≤5) (ht:Th lo w v k T) (h0:-(HB:Int)<T) (h1:T<(HB:Int)) :
 Calls Tryz.prog 87 #[.pointer (some ⟨g,0,none⟩),v] w (Did g w (dropS V s k T)):=by
 obtain ⟨L,a1,a2,a3,a4,a5,a6⟩:=hA;obtain ⟨ng,a,n,c,p,xs,_,rfl,hx,hp,hv⟩:=ht;exact drop_core g L xs V T s k ng a n c p w hs hk a6 a1 a2 a3 a4 a5 hx hp hv h0 h1
theorem Add7 (g:Nat) (V:Int) (s:Sp) (x:Nat) (w:World) (hA:Acc7 w g V s) (hs:s.ok) (hx:x<18446744073709551616) :
 Calls Tryz.prog 40 #[.pointer (some ⟨g,0,none⟩),.float .f64 x] w (Did g w (putS V s (pK x 4607182418800017408) (pT x 4607182418800017408))):=by
 obtain ⟨X,hX⟩:∃ X,X=putS V s (pK x 4607182418800017408) (pT x 4607182418800017408):=⟨_,rfl⟩;rw [←hX];have HP:=hid (fun u:World=>number7 x hx u)
 have HB:=qsd (pT_bound x 4607182418800017408 hx (by decide))
 have HA:=qsd (ai hA (ai hs hX));clear hA hs hX hx;go_enter Tryz.func40,Tryz.ntmps40
 go_wp2_with fail
 refine (HP.out _).mono ?_;rintro r w1 ⟨v,rfl,hT,hb⟩;have HT:=qsd (ai hT hb);clear hT hb
 go_wp2_with fail
 have CP:=put7 g V (pT x 4607182418800017408) s (pK x 4607182418800017408) w.heap.size v w1 (HA.out.1.bel HT.out.2) HA.out.2.1 (pk_le _ _ _) HT.out.1 HB.out.1 HB.out.2;rw [←HA.out.2.2] at CP;refine CP.mono ?_;rintro r w2 hD;have HD:=qsd hD;obtain ⟨rfl,_,_⟩:=hD;clear CP;go_wp2;go_ret;exact ⟨rfl,HD.out.2.1,((But.refl g w).of_bel HT.out.2).trans HD.out.2.2⟩
theorem Take7 (g:Nat) (V:Int) (s:Sp) (x:Nat) (w:World) (hA:Acc7 w g V s) (hs:s.ok) (hx:x<18446744073709551616) :
 Calls Tryz.prog 52 #[.pointer (some ⟨g,0,none⟩),.float .f64 x] w (Did g w (dropS V s (pK x 4607182418800017408) (pT x 4607182418800017408))):=by
 obtain ⟨X,hX⟩:∃ X,X=dropS V s (pK x 4607182418800017408) (pT x 4607182418800017408):=⟨_,rfl⟩;rw [←hX];have HP:=hid (fun u:World=>number7 x hx u)
 have HB:=qsd (pT_bound x 4607182418800017408 hx (by decide))
 have HA:=qsd (ai hA (ai hs hX));clear hA hs hX hx;go_enter Tryz.func52,Tryz.ntmps52
 go_wp2_with fail
 refine (HP.out _).mono ?_;rintro r w1 ⟨v,rfl,hT,hb⟩;have HT:=qsd (ai hT hb);clear hT hb
 go_wp2_with fail
 have CP:=drop7 g V (pT x 4607182418800017408) s (pK x 4607182418800017408) w.heap.size v w1 (HA.out.1.bel HT.out.2) HA.out.2.1 (pk_le _ _ _) HT.out.1 HB.out.1 HB.out.2;rw [←HA.out.2.2] at CP;refine CP.mono ?_;rintro r w2 hD;have HD:=qsd hD;obtain ⟨rfl,_,_⟩:=hD;clear CP;go_wp2;go_ret;exact ⟨rfl,HD.out.2.1,((But.refl g w).of_bel HT.out.2).trans HD.out.2.2⟩
theorem AddProduct7 (g:Nat) (V:Int) (s:Sp) (x y:Nat) (w:World) (hA:Acc7 w g V s) (hs:s.ok) (hx:x<18446744073709551616) (hy:y<18446744073709551616) :
 Calls Tryz.prog 57 #[.pointer (some ⟨g,0,none⟩),.float .f64 x,.float .f64 y] w (Did g w (putS V s (pK x y) (pT x y))):=by
 obtain ⟨X,hX⟩:∃ X,X=putS V s (pK x y) (pT x y):=⟨_,rfl⟩;rw [←hX];have HP:=hid (fun u:World=>product7 x y hx hy u)
 have HB:=qsd (pT_bound x y hx hy);have HA:=qsd (ai hA (ai hs hX));clear hA hs hX hx hy;go_enter Tryz.func57,Tryz.ntmps57
 go_wp2_with fail
 refine (HP.out _).mono ?_;rintro r w1 ⟨v,rfl,hT,hb⟩;have HT:=qsd (ai hT hb);clear hT hb
 go_wp2_with fail
 have CP:=put7 g V (pT x y) s (pK x y) w.heap.size v w1 (HA.out.1.bel HT.out.2) HA.out.2.1 (pk_le _ _ _) HT.out.1 HB.out.1 HB.out.2;rw [←HA.out.2.2] at CP;refine CP.mono ?_;rintro r w2 hD;have HD:=qsd hD;obtain ⟨rfl,_,_⟩:=hD;clear CP;go_wp2;go_ret;exact ⟨rfl,HD.out.2.1,((But.refl g w).of_bel HT.out.2).trans HD.out.2.2⟩
theorem TakeProduct7 (g:Nat) (V:Int) (s:Sp) (x y:Nat) (w:World) (hA:Acc7 w g V s) (hs:s.ok) (hx:x<18446744073709551616) (hy:y<18446744073709551616) :
 Calls Tryz.prog 53 #[.pointer (some ⟨g,0,none⟩),.float .f64 x,.float .f64 y] w (Did g w (dropS V s (pK x y) (pT x y))):=by
 obtain ⟨X,hX⟩:∃ X,X=dropS V s (pK x y) (pT x y):=⟨_,rfl⟩;rw [←hX];have HP:=hid (fun u:World=>product7 x y hx hy u)
 have HB:=qsd (pT_bound x y hx hy);have HA:=qsd (ai hA (ai hs hX));clear hA hs hX hx hy;go_enter Tryz.func53,Tryz.ntmps53
 go_wp2_with fail
 refine (HP.out _).mono ?_;rintro r w1 ⟨v,rfl,hT,hb⟩;have HT:=qsd (ai hT hb);clear hT hb
 go_wp2_with fail
 have CP:=drop7 g V (pT x y) s (pK x y) w.heap.size v w1 (HA.out.1.bel HT.out.2) HA.out.2.1 (pk_le _ _ _) HT.out.1 HB.out.1 HB.out.2;rw [←HA.out.2.2] at CP;refine CP.mono ?_;rintro r w2 hD;have HD:=qsd hD;obtain ⟨rfl,_,_⟩:=hD;clear CP;go_wp2;go_ret;exact ⟨rfl,HD.out.2.1,((But.refl g w).of_bel HT.out.2).trans HD.out.2.2⟩
theorem neg7_val (N:Nat) (V:Int) (h:(N:Int)=V%(PB:Int)) (h0:-(HB:Int)<V) (h1:V<(HB:Int)):neg7 N=decide (V<0)∧mag7 N=V.natAbs:=by
 have e:=PB_HB;have hp:=HB_pos;unfold mag7 neg7
 by_cases hv:0≤V
 · rw [Int.emod_eq_of_lt hv (by omega)] at h
   rw [decide_eq_false (by omega),decide_eq_false (by omega)]
   refine ⟨rfl,?_⟩;rw [if_neg (by decide)]
   omega
 · have h2:V%(PB:Int)=V+PB:=by
    rw [←Int.add_emod_right,Int.emod_eq_of_lt (by omega) (by omega)]
   rw [h2] at h;rw [decide_eq_true (by omega),decide_eq_true (by omega)]
   refine ⟨rfl,?_⟩;rw [if_pos rfl];omega
def exV (V:Int):Option (Bool×Nat×Int):=mkS (decide (V<0)) V.natAbs (-2148)
theorem _root_.Nat.le.ne7 {a b c:Nat}(h:a≤b) (e:a=c+1):b≠c:=by omega
theorem Nt.lo7 {lo k:Nat}{w:World}{v:Value}{X:Nat}(h:Nt lo w v X) (hk:k≤lo):k≤lo:=hk
theorem Tryz.row_dyad:∃ d:TypeDesc,Tryz.prog.underlying 67=some d∧d.isRow=true:=by
 have h:(Tryz.prog.underlying 67).any (·.isRow)=true:=by kernel_rfl
 obtain ⟨d,h1,h2⟩:=(Option.any_eq_true _ _).1 h;exact ⟨d,h1,h2⟩
theorem Tryz.size_dyad:(Tryz.prog.info? 67).map (·.size)=some 3:=by kernel_rfl
theorem row_result {fn:Func}{p:Tmp}{ty:TypeId}(h:fn.results=#[.cell p ty]) (tmps:Array Value) (w:World) (g:Nat) (cs:List Value)
 (hp:tmps.getD p undef=.pointer (some ⟨g,0,none⟩)) (hg:Bl w g ty cs) (hdr:∃ d:TypeDesc,Tryz.prog.underlying ty=some d∧d.isRow=true) (hi:(Tryz.prog.info? ty).map (·.size)=some cs.toArray.size) :
 (results fn tmps).run Tryz.prog w=.ok (.agg cs.toArray) w:=by
 obtain ⟨d,h1,h2⟩:=hdr
 cases d <;> first
  | exact results_cell_row (P:=Tryz.prog) h tmps w g ty _ _ _ hp hg h1 rfl hi
  | exact absurd h2 (by simp [TypeDesc.isRow])
theorem exact_close {w base:World}{tmps:Array Value}{o:Option (Bool×Nat×Int)}{v x y z:Value}{lo:Nat}(h2:tmps.getD 2 undef=.pointer (some ⟨w.heap.size,0,none⟩))
 (hZ:Bl base w.heap.size 67 [x,y,z]) (hbw:Below w.heap.size w base) (hN:Nt lo base v (dX o)) (hlo:w.heap.size<lo) :
 bodyPost Tryz.prog Tryz.f32 (fun r w'=>∃ v,r=.returned (.agg #[.bool (dN o),v,.int .i64 (dE o)])∧Nt w.heap.size w' v (dX o)∧Below w.heap.size w w') .ret ⟨tmps,[]⟩
  (((base.setCell ⟨w.heap.size,0,none⟩ (.bool (dN o))).setCell ⟨w.heap.size,1,none⟩ v).setCell ⟨w.heap.size,2,none⟩ (.int .i64 (dE o))):=by
 have q:Bl (((base.setCell ⟨w.heap.size,0,none⟩ (.bool (dN o))).setCell ⟨w.heap.size,1,none⟩ v).setCell ⟨w.heap.size,2,none⟩ (.int .i64 (dE o))) w.heap.size 67 [.bool (dN o),v,.int .i64 (dE o)]:=((hZ.set 0 _).set 1 _).set 2 _;have hbut:But w.heap.size base (((base.setCell ⟨w.heap.size,0,none⟩ (.bool (dN o))).setCell ⟨w.heap.size,1,none⟩ v).setCell ⟨w.heap.size,2,none⟩ (.int .i64 (dE o))):=(((But.refl _ _).set 0 _).set 1 _).set 2 _;refine bodyPost_ret (v:=.agg #[.bool (dN o),v,.int .i64 (dE o)]) (row_result Tryz.results32 _ _ w.heap.size [.bool (dN o),v,.int .i64 (dE o)] h2 q Tryz.row_dyad (by rw [Tryz.size_dyad];rfl)) rfl ?_
 exact ⟨v,rfl,(hN.but7 hbut hlo).mono (by omega),But.below hbw hbut hbw.size (Nat.le_refl _)⟩
theorem exact_close2 {w base:World}{tmps:Array Value}{o:Option (Bool×Nat×Int)}{v x y z:Value}{lo:Nat}{ob:Obj}(h2:tmps.getD 2 undef=.pointer (some ⟨w.heap.size,0,none⟩))
 (hZ:Bl base w.heap.size 67 [x,y,z]) (hbw:Below w.heap.size w base) (hN:Nt lo base v (dX o)) (hlo:w.heap.size<lo) :
 bodyPost Tryz.prog Tryz.f32 (fun r w'=>∃ v,r=.returned (.agg #[.bool (dN o),v,.int .i64 (dE o)])∧Nt w.heap.size w' v (dX o)∧Below w.heap.size w w') .ret ⟨tmps,[]⟩
  ((((base.setCell ⟨w.heap.size,0,none⟩ (.bool (dN o))).setCell ⟨w.heap.size,1,none⟩ v).setCell ⟨w.heap.size,2,none⟩ (.int .i64 (dE o))).alloc ob):=by
 have q:Bl (((base.setCell ⟨w.heap.size,0,none⟩ (.bool (dN o))).setCell ⟨w.heap.size,1,none⟩ v).setCell ⟨w.heap.size,2,none⟩ (.int .i64 (dE o))) w.heap.size 67 [.bool (dN o),v,.int .i64 (dE o)]:=((hZ.set 0 _).set 1 _).set 2 _;have hbut:But w.heap.size base (((base.setCell ⟨w.heap.size,0,none⟩ (.bool (dN o))).setCell ⟨w.heap.size,1,none⟩ v).setCell ⟨w.heap.size,2,none⟩ (.int .i64 (dE o))):=(((But.refl _ _).set 0 _).set 1 _).set 2 _;have hW:=But.below hbw hbut hbw.size (Nat.le_refl _);refine bodyPost_ret (v:=.agg #[.bool (dN o),v,.int .i64 (dE o)]) (row_result Tryz.results32 _ _ w.heap.size [.bool (dN o),v,.int .i64 (dE o)] h2 (q.alloc ob) Tryz.row_dyad (by rw [Tryz.size_dyad];rfl)) rfl ?_
 exact ⟨v,rfl,((hN.but7 hbut hlo).mono (by omega)).below (bel_alloc _ _),hW.trans ((bel_alloc _ _).mono hW.size)⟩
theorem Exact7 (g:Nat) (V:Int) (s:Sp) (w:World) (hA:Acc7 w g V s) (hT:Tab w):Calls Tryz.prog 32 #[.pointer (some ⟨g,0,none⟩)] w fun r w' =>
 ∃ v,r=.returned (.agg #[.bool (dN (exV V)),v,.int .i64 (dE (exV V))])∧Nt w.heap.size w' v (dX (exV V))∧Below w.heap.size w w':=by
 obtain ⟨o,ho⟩:∃ o,o=exV V:=⟨_,rfl⟩;rw [←ho];obtain ⟨L,a1,a2,a3,a4,a5,a6⟩:=hA;have hnm:=neg7_val (val L) V a3 a4 a5;have HA:=qsd (ai a1 (ai a2 (ai a6.hd (ai hT (ai ho hnm)))));have hlt:=a6.lt;clear a1 a2 a3 a4 a5 a6 hT ho hnm;have HLT:=qsd hlt;clear hlt;obtain ⟨W1,hW1⟩:∃ W,W=w.alloc (.cells #[.bool false,.slice none 0 0,.int .i64 0] 67):=⟨_,rfl⟩
 have H1:Aside (Below w.heap.size w W1∧Bl W1 w.heap.size 67 [.bool false,.slice none 0 0,.int .i64 0]∧W1.heap.size=w.heap.size+1):=by
  subst hW1;exact ⟨bel_alloc _ _,Bl.new _ 67 [_,_,_],by simp⟩
 go_enter Tryz.func32,Tryz.ntmps32;go_wp2;rw [←hW1];clear hW1;have BB:Aside (Below W1.heap.size W1 W1.drew):=(Below.refl _ _).drew;have HH:Aside (∀ W:World,Below W1.heap.size W1 W→Hd W g L):=fun W h=>(HA.out.2.2.1.below H1.out.1 HLT.out (Nat.le_refl _)).below h (Nat.lt_of_lt_of_le HLT.out H1.out.1.size) (Nat.le_refl _)
 have HTT:Aside (∀ W:World,Below W1.heap.size W1 W→Tab W):=fun W h=>(HA.out.2.2.2.1.belows H1.out.1).belows h
 go_region_with (first
  | (go_at_call 64
     with_reducible refine (below_any g L _ HA.out.1 HA.out.2.1 (HH.out _ (by first | exact BB.out | exact BB.out.trans ((bel_alloc _ _).mono BB.out.size) | exact (bel_alloc _ _).drew))).mono ?_
     rintro r u ⟨rfl,rfl⟩)
  | (go_at_call 65
     with_reducible refine (size7_any L g _ HA.out.1 HA.out.2.1 (HH.out _ (by first | exact BB.out | exact BB.out.trans ((bel_alloc _ _).mono BB.out.size) | exact (bel_alloc _ _).drew))).mono ?_
     rintro r u ⟨b,cap,M,rfl,hM,hMv,hb⟩;have hu:Below W1.heap.size W1 u:=by first | exact BB.out.trans (hb.mono BB.out.size) | exact (BB.out.trans ((bel_alloc _ _).mono BB.out.size)).trans (hb.mono (by have:=BB.out.size;simp;omega)) | exact ((bel_alloc _ _).drew).trans (hb.mono (by simp))
     try have DZ:=qsd (ai (DZ.out.1.below hb DZ.out.1.lt) DZ.out.2)
     try have DZ:=qsd (ai ((Bl.new _ 67 [Value.bool false,Value.slice none 0 0,Value.int .i64 0]).below hb (by simp)) BB.out.size)
     try have DZ:=qsd (ai ((Bl.new W1 67 [Value.bool false,Value.slice none 0 0,Value.int .i64 0]).drew.below hb (by simp)) (Nat.le_refl W1.heap.size))
     have BB:=qsd hu;have HM:=qsd (ai hM (show mkS (neg7 (val L)) (val M) (-2148)=o by rw [HA.out.2.2.2.2.1,hMv,HA.out.2.2.2.2.2.1,HA.out.2.2.2.2.2.2];rfl))
     clear hM hMv hb hu)
  | (go_at_call 63
     with_reducible refine (Make_any (by first | exact HM.out.1 | exact HM.out.1.below (bel_alloc _ _)) (HTT.out _ (by first | exact BB.out | exact BB.out.trans ((bel_alloc _ _).mono BB.out.size) | exact (bel_alloc _ _).drew)) (neg7 (val L)) (-2148) (by decide) (by decide)).mono ?_
     rintro r u ⟨hD,hb⟩;rw [HM.out.2] at hD;obtain ⟨v,rfl,hN⟩:=hD
     try have DL:=qsd DZ.out.1.lt
     have hu:Below W1.heap.size W1 u:=by first | exact BB.out.trans (hb.mono BB.out.size) | exact (BB.out.trans ((bel_alloc _ _).mono BB.out.size)).trans (hb.mono (by have:=BB.out.size;simp;omega)) | exact ((bel_alloc _ _).drew).trans (hb.mono (by simp))
     try have DZ:=qsd (ai (DZ.out.1.below hb DZ.out.1.lt) DZ.out.2)
     try have DZ:=qsd (ai ((Bl.new _ 67 [Value.bool false,Value.slice none 0 0,Value.int .i64 0]).below hb (by simp)) BB.out.size)
     try have DZ:=qsd (ai ((Bl.new W1 67 [Value.bool false,Value.slice none 0 0,Value.int .i64 0]).drew.below hb (by simp)) (Nat.le_refl W1.heap.size))
     have hN2:=ai hN (hN.lo7 (k:=W1.heap.size) (by first | exact BB.out.size | (have:=BB.out.size;simp;omega)))
     obtain ⟨a,c,rfl,_⟩:=hN.arg (by
      refine Nat.le_trans ((ws_len_le _ 133).2 ?_) (by decide)
      have e:=HM.out.2;have hm:=val_lt M HM.out.1.wf;rw [←HM.out.1.len] at hm;rw [←e];refine Nat.lt_of_le_of_lt ?_ hm;unfold mkS dX
      split
      · exact Nat.zero_le _
      · split
        · exact Nat.zero_le _
        · exact Nat.div_le_self _ _)
     have HN:=qsd (ai hN2 hu);have Z:=qsd (H1.out.2.1.below hu (by have:=H1.out.2.2;omega))
     have z0:=Z.out.cell 0 _ rfl;have z1:=Z.out.cell 1 _ rfl;have z2:=Z.out.cell 2 _ rfl;have g0:=Z.out.frozen 0;have g1:=Z.out.frozen 1;have g2:=Z.out.frozen 2
     try have d0:=DZ.out.1.cell 0 _ rfl
     try have d1:=DZ.out.1.cell 1 _ rfl
     try have d2:=DZ.out.1.cell 2 _ rfl
     try have e0:=DZ.out.1.frozen 0
     try have e1:=DZ.out.1.frozen 1
     try have e2:=DZ.out.1.frozen 2
     have hlu:w.heap.size<u.heap.size:=Z.out.lt
     try have nx:=DZ.out.2.ne7 H1.out.2.2
     try have ny:=nx.symm
     clear hN hN2 hb hu))
 all_goals (
  clear HM HA HH HTT BB;go_wp2;have hW:Below w.heap.size w u:=H1.out.1.trans (HN.out.2.mono H1.out.1.size);have hlo:=HN.out.1.2;have hl1:=H1.out.2.2
  first
   | (with_reducible refine exact_close2 (x:=.bool false) (y:=.slice none 0 0) (z:=.int .i64 0) ?_ Z.out hW HN.out.1.1 (by omega)
      rfl)
   | (with_reducible refine exact_close (x:=.bool false) (y:=.slice none 0 0) (z:=.int .i64 0) ?_ (Bl.but Z.out ((((But.refl _ _).set 0 _).set 1 _).set 2 _) ny) (But.below hW ((((But.refl _ _).set 0 _).set 1 _).set 2 _) hW.size (by have:=DZ.out.2;omega)) (HN.out.1.1.but7 ((((But.refl _ _).set 0 _).set 1 _).set 2 _) (by first | exact DL.out | (simp;done) | (simp;omega))) (by omega)
      rfl))
end
namespace B
theorem lt_f64 (s t:Bool) (e f u v:Nat) (he:e<2048) (hf:f<4503599627370496) (hu:u<2048) (hv:v<4503599627370496) :
 (FloatKind.f64.format.order (bw s e f) (bw t u v)==some .lt)=(!odd e f&&(!odd u v&&decide (pl s e f<pl t u v))):=by
 rw [ord s t e f u v he hf hu hv]
 cases odd e f <;> cases odd u v <;> simp
 by_cases h:pl s e f<pl t u v
 · rw [Int.compare_eq_lt.2 h];simp [h]
 · rw [decide_eq_false h]
   by_cases h2:pl t u v<pl s e f
   · rw [Int.compare_eq_gt.2 h2];rfl
   · rw [Int.compare_eq_eq.2 (by omega)];rfl
theorem gt_f64 (s t:Bool) (e f u v:Nat) (he:e<2048) (hf:f<4503599627370496) (hu:u<2048) (hv:v<4503599627370496) :
 (FloatKind.f64.format.order (bw s e f) (bw t u v)==some .gt)=(!odd e f&&(!odd u v&&decide (pl t u v<pl s e f))):=by
 rw [ord s t e f u v he hf hu hv]
 cases odd e f <;> cases odd u v <;> simp
 by_cases h:pl t u v<pl s e f
 · rw [Int.compare_eq_gt.2 h];simp [h]
 · rw [decide_eq_false h]
   by_cases h2:pl s e f<pl t u v
   · rw [Int.compare_eq_lt.2 h2];rfl
   · rw [Int.compare_eq_eq.2 (by omega)];rfl
theorem eq_f64 (s t:Bool) (e f u v:Nat) (he:e<2048) (hf:f<4503599627370496) (hu:u<2048) (hv:v<4503599627370496) :
 (FloatKind.f64.format.order (bw s e f) (bw t u v)==some .eq)=(!odd e f&&(!odd u v&&decide (pl s e f=pl t u v))):=by
 rw [ord s t e f u v he hf hu hv]
 cases odd e f <;> cases odd u v <;> simp
 by_cases h:pl s e f<pl t u v
 · rw [Int.compare_eq_lt.2 h,decide_eq_false (by omega)];rfl
 · by_cases h2:pl t u v<pl s e f
   · rw [Int.compare_eq_gt.2 h2,decide_eq_false (by omega)];rfl
   · rw [Int.compare_eq_eq.2 (by omega),decide_eq_true (by omega)];rfl
theorem odd_lt (e f:Nat) (h:e<2047):odd e f=false:=by
 have:(e==2047)=false:=by simp;omega
 simp [odd,this]
theorem odd_zero (e:Nat):odd e 0=false:=by simp [odd]
theorem zero_bw:bw false 0 0=0:=rfl
theorem max_bw:bw false 2046 4503599627370495=9218868437227405311:=rfl
theorem gt_max (s:Bool) (e f:Nat) (he:e<2048) (hf:f<4503599627370496) :
 (FloatKind.f64.format.order (bw s e f) 9218868437227405311==some .gt)=(!s&&(e==2047&&f==0)):=by
 have h:=gt_f64 s false e f 2046 4503599627370495 he hf (by omega) (by omega)
 rw [max_bw] at h;rw [h,odd_lt 2046 _ (by omega)]
 cases ho:odd e f
 · have:=not_odd e f ho
   rw [Bool.eq_iff_iff]
   cases s <;> simp [pl,sg] <;> omega
 · obtain ⟨h1,h2⟩:=is_odd e f ho
   have h3:(f==0)=false:=by simp [h2]
   simp [h1,h3]
theorem eq_zero (s:Bool) (e f:Nat) (he:e<2048) (hf:f<4503599627370496) :
 (FloatKind.f64.format.order (bw s e f) 0==some .eq)=(e==0&&f==0):=by
 have h:=eq_f64 s false e f 0 0 he hf (by omega) (by omega)
 rw [zero_bw] at h;rw [h,odd_lt 0 _ (by omega)]
 cases ho:odd e f
 · rw [Bool.eq_iff_iff]
   cases s <;> simp [pl,sg] <;> omega
 · obtain ⟨h1,h2⟩:=is_odd e f ho
   have h3:(e==0)=false:=by simp [h1]
   simp [h3]
theorem lt_zero (s:Bool) (e f:Nat) (he:e<2048) (hf:f<4503599627370496) (ho:odd e f=false) (hz:(e==0&&f==0)=false) :
 (FloatKind.f64.format.order (bw s e f) 0==some .lt)=s:=by
 have h:=lt_f64 s false e f 0 0 he hf (by omega) (by omega)
 rw [zero_bw] at h;rw [h,odd_lt 0 _ (by omega),ho]
 have hz':¬ (e=0∧f=0):=by rintro ⟨rfl,rfl⟩;simp at hz
 rw [Bool.eq_iff_iff]
 cases s <;> simp [pl,sg] <;> omega
theorem abs_bw (s:Bool) (e f:Nat) (he:e<2048) (hf:f<4503599627370496):bits .andNot .u64 ((bw s e f:Nat):Int) 9223372036854775808=(bw false e f:Int):=by
 have h:=u64_andNot_nat (bw s e f) 9223372036854775808 (bw_lt s e f he hf) (by omega)
 rw [show (((9223372036854775808:Nat)):Int)=9223372036854775808 from rfl] at h
 rw [h,show 18446744073709551615-9223372036854775808=2^63-1 from rfl,Nat.and_two_pow_sub_one_eq_mod]
 congr 1
 unfold bw;cases s <;> simp only [Bool.toNat_true,Bool.toNat_false] <;> omega
def ky (s:Bool) (e f:Nat):Int:=if e=2047∧f≠0 then 9221120237041090560 else if s then -1-((e:Int)*4503599627370496+f) else (e:Int)*4503599627370496+f
def oc (a b:Int):Int:=if a<b then -1 else if b<a then 1 else 0
theorem oc_lt {a b:Int}(h:a<b):oc a b=-1:=if_pos h
theorem oc_gt {a b:Int}(h:b<a):oc a b=1:=by unfold oc;rw [if_neg (by omega),if_pos h]
theorem oc_eq {a b:Int}(h:a=b):oc a b=0:=by unfold oc;rw [if_neg (by omega),if_neg (by omega)]
theorem ky_odd (s:Bool) (e f:Nat) (h:odd e f=true):ky s e f=9221120237041090560:=if_pos (is_odd e f h)
theorem ky_lt (s:Bool) (e f:Nat) (he:e<2048) (hf:f<4503599627370496) (h:odd e f=false):ky s e f<9221120237041090560:=by
 have:=not_odd e f h;unfold ky;rw [if_neg this];split <;> omega
theorem ky_else (s:Bool) (e f:Nat) (h:odd e f=false):ky s e f=if s then -1-((e:Int)*4503599627370496+f) else (e:Int)*4503599627370496+f:=if_neg (not_odd e f h)
theorem ky_of_pl (s t:Bool) (e f u v:Nat) (h1:odd e f=false) (h2:odd u v=false) (h:pl s e f<pl t u v):ky s e f<ky t u v:=by
 rw [ky_else s e f h1,ky_else t u v h2];unfold pl sg at h
 cases s <;> cases t <;> simp at h ⊢ <;> omega
theorem bw_inj (s t:Bool) (e f u v:Nat) (he:e<2048) (hf:f<4503599627370496) (hu:u<2048) (hv:v<4503599627370496) (h:bw s e f=bw t u v):s=t∧e=u∧f=v:=by
 unfold bw at h
 cases s <;> cases t <;> simp only [Bool.toNat_true,Bool.toNat_false] at h
 · exact ⟨rfl,by omega,by omega⟩
 · omega
 · omega
 · exact ⟨rfl,by omega,by omega⟩
theorem ky_of_cb (s t:Bool) (e f u v:Nat) (he:e<2048) (hf:f<4503599627370496) (hu:u<2048) (hv:v<4503599627370496) (h:cb s e f=cb t u v):ky s e f=ky t u v:=by
 cases h1:odd e f
 · rw [cb_else s e f (not_odd e f h1)] at h
   cases h2:odd u v
   · rw [cb_else t u v (not_odd u v h2)] at h
     obtain ⟨rfl,rfl,rfl⟩:=bw_inj s t e f u v he hf hu hv h;rfl
   · rw [cb_odd t u v (is_odd u v h2)] at h
     exact absurd h (bw_ne_nan s e f he hf h1)
 · rw [cb_odd s e f (is_odd e f h1)] at h
   cases h2:odd u v
   · rw [cb_else t u v (not_odd u v h2)] at h
     exact absurd h.symm (bw_ne_nan t u v hu hv h2)
   · rw [ky_odd s e f h1,ky_odd t u v h2]
theorem ky_zero (s t:Bool) (e f u v:Nat) (h1:odd e f=false) (h2:odd u v=false) (hne:¬ bw s e f=bw t u v) (h:pl s e f=pl t u v):(s=false→ky t u v<ky s e f)∧(s=true→ky s e f<ky t u v):=by
 rw [ky_else s e f h1,ky_else t u v h2];unfold bw at hne;unfold pl sg at h
 cases s <;> cases t <;> simp at h hne ⊢ <;> omega
end B
section
open Go.RowKit
open Go.Proofs.YthejkolknalpaaaGreatDoor.B (f64bits f64frombits bw)
attribute [local go_sem] f64bits f64frombits
def kn (a:Int):Bool:=decide (0≤a)&&decide (a≤2)
def may (a b:Int):Bool:=kn a&&kn b
def ct (a:Int):Bool:=decide (0≤a)&&decide (a≤1099511627776)
theorem known_any (a:Int) (w:World):Calls Tryz.prog 75 #[.int .i64 a] w fun r w'=>r=.returned (.bool (kn a))∧w'=w:=by
 unfold kn
 by_cases h:0≤a
 · have hd:decide (0≤a)=true:=decide_eq_true h
   rw [hd];go_enter Tryz.func75,Tryz.ntmps75;go_wp2;go_ret;exact ⟨by first | rfl | simp,rfl⟩
 · have hd:decide (0≤a)=false:=decide_eq_false h
   rw [hd];go_enter Tryz.func75,Tryz.ntmps75;go_wp2;go_ret;exact ⟨by first | rfl | simp,rfl⟩
theorem countable_any (a:Int) (w:World):Calls Tryz.prog 96 #[.int .i64 a] w fun r w'=>r=.returned (.bool (ct a))∧w'=w:=by
 unfold ct
 by_cases h:0≤a
 · have hd:decide (0≤a)=true:=decide_eq_true h
   rw [hd];go_enter Tryz.func96,Tryz.ntmps96;go_wp2;go_ret;exact ⟨by first | rfl | simp,rfl⟩
 · have hd:decide (0≤a)=false:=decide_eq_false h
   rw [hd];go_enter Tryz.func96,Tryz.ntmps96;go_wp2;go_ret;exact ⟨by first | rfl | simp,rfl⟩
theorem May_any (a b:Int) (w:World):Calls Tryz.prog 39 #[.agg #[.int .i64 a,.int .i64 b]] w fun r w'=>r=.returned (.bool (may a b))∧Below w.heap.size w w':=by
 unfold may
 rcases ha:kn a with _|_
 · have H:=hid (fun w=>ha ▸ known_any a w)
   clear ha;go_enter Tryz.func39,Tryz.ntmps39
   go_wp2_with fail
   refine (H.out _).mono ?_;rintro r w1 ⟨rfl,rfl⟩;go_wp2;go_ret;exact ⟨rfl,(Below.refl _ _).alloc (Nat.le_refl _) _⟩
 · have H:=hid (fun w=>ha ▸ known_any a w)
   have H2:=hid (fun w=>known_any b w)
   obtain ⟨kb,hkb⟩:∃ k,kn b=k:=⟨_,rfl⟩;rw [hkb] at H2 ⊢;clear ha hkb;go_enter Tryz.func39,Tryz.ntmps39
   go_wp2_with fail
   refine (H.out _).mono ?_;rintro r w1 ⟨rfl,rfl⟩
   go_wp2_with fail
   refine (H2.out _).mono ?_;rintro r w1 ⟨rfl,rfl⟩;go_wp2;go_ret;exact ⟨by first | rfl | simp,(Below.refl _ _).alloc (Nat.le_refl _) _⟩
theorem mInf_up (w:World):Calls Tryz.prog 62 #[.int .i64 1] w fun r w'=>r=.returned (.float .f64 9218868437227405312)∧w'=w:=by
 go_enter Tryz.func62,Tryz.ntmps62;go_wp2;go_ret;exact ⟨rfl,rfl⟩
theorem mInf_down (w:World):Calls Tryz.prog 62 #[.int .i64 (-1)] w fun r w'=>r=.returned (.float .f64 18442240474082181120)∧w'=w:=by
 go_enter Tryz.func62,Tryz.ntmps62;go_wp2;go_ret;exact ⟨rfl,rfl⟩
theorem minus_any (w:World):Calls Tryz.prog 67 #[.float .f64 0,.float .f64 13830554455654793216] w fun r w'=>r=.returned (.float .f64 9223372036854775808)∧w'=w:=by
 have h1:bits .andNot .u64 0 9223372036854775808=0:=by decide +kernel
 have h2:bits .and .u64 13830554455654793216 9223372036854775808=9223372036854775808:=by decide +kernel
 have h3:bits .or .u64 0 9223372036854775808=9223372036854775808:=by decide +kernel
 go_enter Tryz.func67,Tryz.ntmps67;go_wp2;go_ret;exact ⟨rfl,rfl⟩
open Go.RowKit
open Go.Proofs.YthejkolknalpaaaGreatDoor.B (f64bits f64frombits bw bcell)
attribute [local go_sem] f64bits f64frombits
def snd (n u d m p a:Int):Bool:=ct n&&ct u&&ct d&&(ct m&&ct p&&ct a)&&decide (n+u+d+m+p≤a)
theorem ct_true {n:Int}(h:ct n=true):0≤n∧n≤1099511627776:=by unfold ct at h;simpa using h
theorem ct_five {n u d m p:Int}(i:Nat) (hi:i<5) (h:ct ([n,u,d,m,p].getD i 0)=false) (a:Int):snd n u d m p a=false:=by
 unfold snd;obtain rfl|rfl|rfl|rfl|rfl:i=0∨i=1∨i=2∨i=3∨i=4:=by omega
 all_goals (simp at h;simp [h])
def ps (L:List Int) (i:Nat):Int:=(L.take i).sum
theorem ps_succ (L:List Int) (i:Nat) (h:i<L.length):ps L (i+1)=ps L i+L.getD i 0:=by
 unfold ps;rw [List.take_succ_eq_append_getElem h,List.sum_append,List.getD_eq_getElem?_getD,List.getElem?_eq_getElem h];simp
theorem sound_any (n u d m p a:Int) (w:World):Calls Tryz.prog 61 #[.agg #[.int .i64 n,.int .i64 u,.int .i64 d,.int .i64 m,.int .i64 p,.int .i64 a]] w fun r w'=>r=.returned (.bool (snd n u d m p a))∧Below w.heap.size w w':=by
 obtain ⟨L,hL⟩:∃ L:List Int,L=[n,u,d,m,p]:=⟨_,rfl⟩;have hlen:L.length=5:=by rw [hL];rfl
 have HL:=(qsd (ai hL hlen));obtain ⟨W,hW⟩:∃ W,W=(w.alloc (.cells #[.int .i64 n,.int .i64 u,.int .i64 d,.int .i64 m,.int .i64 p,.int .i64 a] 59)).alloc (.cells #[.int .i64 n,.int .i64 u,.int .i64 d,.int .i64 m,.int .i64 p] 137):=⟨_,rfl⟩
 have hcell:∀ i,i<5→W.cell? ⟨w.heap.size+1,i,none⟩=some (.int .i64 (L.getD i 0)):=by
  intro i hi;have h1:=heap_alloc_new (w.alloc (.cells #[.int .i64 n,.int .i64 u,.int .i64 d,.int .i64 m,.int .i64 p,.int .i64 a] 59)) (.cells #[.int .i64 n,.int .i64 u,.int .i64 d,.int .i64 m,.int .i64 p] 137);rw [←hW] at h1;simp only [World.size_alloc] at h1;subst hL;simp only [World.cell?,h1];obtain rfl|rfl|rfl|rfl|rfl:i=0∨i=1∨i=2∨i=3∨i=4:=by omega
  all_goals simp
 have ha5:W.cell? ⟨w.heap.size,5,none⟩=some (.int .i64 a):=by rw [hW];simp [go_sem]
 have hbel:Below w.heap.size w W:=by rw [hW];exact ((Below.refl _ _).alloc (Nat.le_refl _) _).alloc (by simp) _
 have HC:=(qsd (ai hcell (ai hbel (ai hW ha5))));clear hL hlen hcell hbel hW ha5;have HA:=hid (countable_any a);go_enter Tryz.func61,Tryz.ntmps61;go_wp2
 go_loopg [4,17] 5 (fun gk sv iv wr=>∃ i:Nat,gk+i=5∧sv=.int .i64 (ps L i)∧iv=.int .i64 (i:Nat)∧wr=W∧Aside (∀ j,j<i→ct (L.getD j 0)=true)∧0≤ps L i∧ps L i≤(i:Int)*1099511627776)
 case atStart=>exact ⟨0,rfl,rfl,rfl,by rw [HC.out.2.2.1],fun j hj=>absurd hj (by omega),by simp [ps],by simp [ps]⟩
 case round =>
  obtain ⟨i,hi,rfl,rfl,rfl,HT,hp0,hp1⟩:=hrel;obtain ⟨hcell,hbel,hW,ha5⟩:=HC.out
  by_cases hi5:i=5
  · obtain rfl:gk=0:=by omega
    subst hi5
    have hs:snd n u d m p a=(ct a&&decide (ps L 5≤a)):=by
     have h0:=HT.out 0 (by omega)
     have h1:=HT.out 1 (by omega)
     have h2:=HT.out 2 (by omega)
     have h3:=HT.out 3 (by omega)
     have h4:=HT.out 4 (by omega)
     have e:=HL.out.1;subst e;have e2:ps [n,u,d,m,p] 5=n+u+d+m+p:=by simp [ps];omega
     rw [e2];simp at h0 h1 h2 h3 h4;unfold snd;rw [h0,h1,h2,h3,h4];simp
    obtain ⟨q,hq⟩:∃ q,ps L 5=q:=⟨_,rfl⟩;rw [hq] at hp0 hp1 hs ⊢;have HS:=qsd hs;clear hcell hW hs hq
    rcases ha:ct a with _|_
    · rw [ha] at HA HS
      clear ha
      go_wp2_with fail
      refine (HA.out _).mono ?_;rintro r w1 ⟨rfl,rfl⟩;go_wp2;go_ret;exact ⟨by rw [HS.out];first | rfl | simp,hbel⟩
    · rw [ha] at HA HS
      clear ha
      go_wp2_with fail
      refine (HA.out _).mono ?_;rintro r w1 ⟨rfl,rfl⟩;go_wp2;go_ret;exact ⟨by rw [HS.out];first | rfl | simp,hbel⟩
  · have hil:i<5:=by omega
    have hci:=hcell i hil;have HK:=hid (countable_any (L.getD i 0));have hps:=ps_succ L i (by rw [HL.out.2];exact hil)
    obtain ⟨x,hx⟩:∃ x,L.getD i 0=x:=⟨_,rfl⟩;rw [hx] at hci HK hps
    rcases hc:ct x with _|_
    · rw [hc] at HK
      have HS:Aside (snd n u d m p a=false):=by
       have h1:=hc;rw [←hx,HL.out.1] at h1;exact ct_five i hil h1 a
      have HB:=qsd hbel;clear hcell hbel hW ha5 hps hx hc hi5 HC HL
      go_wp2_with fail
      refine (HK.out _).mono ?_;rintro r w1 ⟨rfl,rfl⟩;go_wp2;go_ret;exact ⟨by rw [HS.out];rfl,HB.out⟩
    · rw [hc] at HK
      have hb:=ct_true hc;obtain ⟨q,hq⟩:∃ q,ps L i=q:=⟨_,rfl⟩;obtain ⟨q2,hq2⟩:∃ q,ps L (i+1)=q:=⟨_,rfl⟩;rw [hq,hq2] at hps;rw [hq] at hp0 hp1 ⊢;have hq3:q+x=q2:=hps.symm
      have hq4:0≤q2∧q2≤((i:Int)+1)*1099511627776:=by
       have:((i:Int)+1)*1099511627776=(i:Int)*1099511627776+1099511627776:=by omega
       omega
      have hq5:q2≤9223372036854775807:=by omega
      have hq6:-9223372036854775808≤q2:=by omega
      have HR:=(qsd (ai hq2 (ai hq4 (ai hx (ai hc hq3)))));clear hcell hbel hW ha5 hps hx hc hi5 HC hq2 hq hp0 hp1 hb hq4
      go_wp2_with fail
      refine (HK.out _).mono ?_;rintro r w1 ⟨rfl,rfl⟩;go_wp2
      go_roundg (5-(i+1))
      case measure=>omega
      case rel =>
       obtain ⟨hq2,hq4,hx,hc,hq3⟩:=HR.out;refine ⟨i+1,by omega,?_,by first | go_num | (congr 1;omega),rfl,?_,by rw [hq2];exact hq4.1,by rw [hq2];have:=hq4.2;push_cast;exact this⟩
       · first | (rw [hq2];done) | (rw [hq2,←hq3];done)
       · intro j hj
         by_cases hji:j=i
         · subst hji;rw [hx];exact hc
         · exact HT.out j (by omega)
def vd (ok:Bool) (n u d a b:Int):Nat×Bool :=
 if ok=false then (0,false) else if 0<n∧a=0 then (9221120237041090560,true) else if ¬ b=0 then (0,false)
 else if 0<u∧0<d then (9221120237041090560,true) else if 0<u then (9218868437227405312,true) else if 0<d then (18442240474082181120,true) else (0,false)
def nt (ok:Bool) (n u d m p a mode:Int):Nat :=
 if ok=false then 0 else if a-n-u-d=0 then 0 else if m=a-n-u-d then 9223372036854775808 else if p=a-n-u-d then 0 else if mode=3 then 9223372036854775808 else 0
theorem snd_bd {n u d m p a:Int}(h:snd n u d m p a=true):(0≤n∧n≤1099511627776)∧(0≤u∧u≤1099511627776)∧(0≤d∧d≤1099511627776)∧(0≤a∧a≤1099511627776):=by
 unfold snd at h;simp only [Bool.and_eq_true] at h;exact ⟨ct_true h.1.1.1.1,ct_true h.1.1.1.2,ct_true h.1.1.2,ct_true h.1.2.2⟩
end
end Go.Proofs.YthejkolknalpaaaGreatDoor
