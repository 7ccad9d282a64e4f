import Derived.Test.YtopgffjnejaijaaGreatDoorBIeeex
import Derived.Deep.RegionHeld
import Derived.Laws.BitsAllLaws
import Derived.WalkLawsBesides
import Derived.Test.YtopgffjnejaijaaGreatDoorW24x
import Derived.Deep.RegionWith
import Derived.Laws.StructEq
import Derived.BigQuiet
import Derived.Deep.RegionHeld3
set_option linter.unusedVariables false
set_option linter.unusedSimpArgs false
set_option maxHeartbeats 16000000
set_option maxRecDepth 20000
namespace Go.Proofs.YtopgffjnejaijaaGreatDoor
section
open Go Go.RowKit
section
variable {P : Program} {ops : Array Oper} {Q : Exit → Act → World → Prop} {md : Region.Mode} {S : World → Prop} {stop : Nat}
def wpUntil (P:Program) (md:Region.Mode) (ops:Array Oper) (Q:Exit→Act→World→Prop) (S:World→Prop) (stop:Nat):Nat→Array Bool→Act→World→Prop
 | 0,listed,a,w=>Region.ready md ops listed=[]∧Q .normal a w
 | fuel+1,listed,a,w=>(Region.ready md ops listed=[]→Q .normal a w) ∧
  ∀ i ∈ Region.ready md ops listed,wpOp P ops Q i (fun b u=>(i<stop→S u)∧wpUntil P md ops Q S stop fuel (listed.setIfInBounds i true) b u) a w
theorem wpAny_until:∀ (fuel:Nat) (listed:Array Bool) (a:Act) (w:World),wpUntil P md ops Q S stop fuel listed a w→wpAny P md ops Q fuel listed a w
 | 0,_,_,_,h=>h
 | fuel+1,_,_,_,h=>⟨h.1,fun i hi=>wpOp_mono (fun b u k=>wpAny_until fuel _ b u k.2) (h.2 i hi)⟩
theorem until_region {id:Nat}{a:Act}{w:World}(S:World→Prop) (stop:Nat) (hm:P.follows .mixedOrders=true) (h:wpUntil P .any ops Q S stop ops.size (Array.replicate ops.size false) a w.drew):(Code.region id ops true).wp P Q a w :=
 wp_region_any hm (wpAny_until _ _ _ _ h)
def waits (md:Region.Mode) (ops:Array Oper) (i stop:Nat) (C:List Nat):Bool :=
 (List.range ops.size).all fun j=>!(C.contains j || decide (stop≤j)) || (match ops[j]? with | some o=>o.after.any (fun e=>Region.binds md e&&(e.on==i || C.contains e.on)) | none=>true)
def unlisted (listed:Array Bool) (C:List Nat):Bool:=C.all fun k=>listed.getD k true==false
theorem waits_spec {i:Nat}{C:List Nat}(h:waits md ops i stop C=true) {j:Nat}{oj:Oper}(hj:ops[j]?=some oj) (hc:j ∈ C∨stop≤j):∃ e ∈ oj.after,Region.binds md e=true∧(e.on=i∨e.on ∈ C):=by
 have h1:=(List.all_eq_true.1 h) j (by simp;exact (Array.getElem?_eq_some_iff.1 hj).1)
 rw [hj] at h1
 have h2:(C.contains j || decide (stop≤j))=true:=by
  rcases hc with hc|hc
  · simp [hc]
  · simp [hc]
 rw [h2] at h1;simp only [Bool.not_true,Bool.false_or] at h1;rw [←Array.any_toList] at h1;obtain ⟨e,he,hb⟩:=List.any_eq_true.1 h1;have he:=Array.mem_toList_iff.1 he;simp only [Bool.and_eq_true,Bool.or_eq_true,beq_iff_eq,List.contains_iff_mem] at hb;exact ⟨e,he,hb.1,hb.2⟩
theorem until_first {i:Nat}{C:List Nat}{oi:Oper}{v:Value}(hi:ops[i]?=some oi) (hsel:∀ (j:Nat) (o:Oper) cs b,ops[j]?=some o→o.op≠.select cs b)
 (hQ:∀ x a w,Q (.panic x) (a.put oi.dst v) w→Q (.panic x) a w) (hlate:waits md ops i stop C=true) :
 ∀ (fuel:Nat) (listed:Array Bool) (a:Act) (w:World),
   (∀ j oj,ops[j]?=some oj→j≠i→listed.getD j true=false→(∀ e ∈ oj.after,Region.binds md e=true→e.on≠i)→oi.apart ops oj=true) →
   i ∈ Region.ready md ops listed→(∀ k ∈ C,listed.getD k true=false)→YieldsIf P ops S oi v a→S w →
   wpUntil P md ops Q S stop fuel (listed.setIfInBounds i true) (a.put oi.dst v) w→wpUntil P md ops Q S stop (fuel+1) listed a w:=by
 intro fuel
 induction fuel with
 | zero =>
   intro listed a w _ hr _ hy hS H;refine ⟨fun h=>(by rw [h] at hr;cases hr),fun j hj=>?_⟩
   by_cases hji:j=i
   · subst hji;exact hy.wpOp hi hS ⟨fun _=>hS,H⟩
   · have:=ready_mono hj hji
     rw [H.1] at this
     cases this
 | succ fuel ih =>
   intro listed a w hfree hr hcl hy hS H;refine ⟨fun h=>(by rw [h] at hr;cases hr),fun j hj=>?_⟩
   by_cases hji:j=i
   · subst hji;exact hy.wpOp hi hS ⟨fun _=>hS,H⟩
   · have h1:=H.2 j (ready_mono hj hji)
     obtain ⟨hjun,oj,hoj,hall⟩:=mem_ready.1 hj;have h0:=(mem_ready.1 hr).1
     have un:∀ k,listed.getD k true=false→listed.getD k false=true→False:=fun k a1 a2=>by
      rcases Nat.lt_or_ge k listed.size with h'|h'
      · simp [h'] at a1 a2;rw [a1] at a2;cases a2
      · simp [Array.getElem?_eq_none h'] at a2
     have hnot:∀ e ∈ oj.after,Region.binds md e=true→e.on≠i:=fun e he hb heq=>un i h0 (heq ▸ hall e he hb)
     have hnw:¬(j ∈ C∨stop≤j):=fun hc=>by
      obtain ⟨e,he,hb,heq⟩:=waits_spec hlate hoj hc
      rcases heq with heq|heq
      · exact hnot e he hb heq
      · exact un _ (hcl _ heq) (hall e he hb)
     have hjs:j<stop:=by
      rcases Nat.lt_or_ge j stop with h|h
      · exact h
      · exact (hnw (Or.inr h)).elim
     have h2:=wpOp_putIf hoj (hfree j oj hoj hji hjun hnot) (fun cs b=>hsel i oi cs b hi) (fun cs b=>hsel j oj cs b hoj) hQ hy h1
     have hfree':∀ k ok,ops[k]?=some ok→k≠i→(listed.setIfInBounds j true).getD k true=false →
      (∀ e ∈ ok.after,Region.binds md e=true→e.on≠i)→oi.apart ops ok=true:=fun k ok hk hki hun hno=>by
      refine hfree k ok hk hki ?_ hno
      by_cases hjk:j=k
      · subst hjk;exact hjun
      · rw [Go.getD_set_ne true hjk] at hun;exact hun
     refine wpOp_mono (fun b u h3=>⟨h3.2.1,ih (listed.setIfInBounds j true) b u hfree' (ready_mono hr (Ne.symm hji)) (fun k hk=>by rw [Go.getD_set_ne true (show j≠k from fun e=>hnw (Or.inl (by rw [e];exact hk)))];exact hcl k hk) h3.1 (h3.2.1 hjs) ?_⟩) h2
     rw [Array.setIfInBounds_comm _ _ hji];exact h3.2.2
theorem until_take {i:Nat}(C:List Nat) {oi:Oper}{v:Value}{fuel:Nat}{listed:Array Bool}{a:Act}{w:World}(hi:ops[i]?=some oi)
 (hs:Region.noSelect ops=true) (hf:Region.free md ops listed i=true) (hr:(Region.ready md ops listed).contains i=true) (hw:waits md ops i stop C=true) (hun:unlisted listed C=true)
 (hQ:∀ c a w,Q (.panic c) (a.put oi.dst v) w→Q (.panic c) a w) (hy:YieldsIf P ops S oi v a) (hS:S w)
 (h:wpUntil P md ops Q S stop fuel (listed.setIfInBounds i true) (a.put oi.dst v) w):wpUntil P md ops Q S stop (fuel+1) listed a w :=
 until_first hi (Region.noSelect_spec hs) hQ hw fuel listed a w (Region.free_spec hi hf) (by simpa using hr) (fun k hk=>by have:=(List.all_eq_true.1 hun) k hk;simpa using this) hy hS h
theorem until_one {i:Nat}{o:Oper}{fuel:Nat}{listed:Array Bool}{a:Act}{w:World}(hr:Region.ready md ops listed=[i]) (ho:ops[i]?=some o)
 (h:∀ K':Act→World→Prop,Shut (∀ b u,(i<stop→S u)→wpUntil P md ops Q S stop fuel (listed.setIfInBounds i true) b u→K' b u)→if Region.wanted o (yielded ops a.tmps)=true then Oper.wp P o a w K' Q else K' (a.put o.dst undef) w):wpUntil P md ops Q S stop (fuel+1) listed a w :=
 ⟨fun h0=>(by rw [hr] at h0;cases h0),fun j hj=>by
  rw [hr] at hj;obtain rfl:=List.mem_singleton.1 hj;exact wpOp_step ho (fun K' hK=>h K' (fun b u h1 h2=>hK b u ⟨h1,h2⟩))⟩
theorem until_done {listed:Array Bool}{a:Act}{w:World}(hr:Region.ready md ops listed=[]) (h:Q .normal a w):∀ fuel,wpUntil P md ops Q S stop fuel listed a w
 | 0=>⟨hr,h⟩
 | _+1=>⟨fun _=>h,by rw [hr];simp⟩
end
end
section
open Go.RowKit
theorem put_core (g:Nat) (L xs:List Nat) (V T:Int) (s:Sp) (k:Nat) (ng:Bool) (ao:Option Addr) (n cap p:Nat) (w:World) (hs:s.ok) (hk:k≤5) (hA:Ac w g L s) (hl:L.length=133) (hL:Wf L) (hv:(val L:Int)=V%(PB:Int)) (h0:-(HB:Int)<V) (h1:V<(HB:Int))
 (hx:Arg w ao n cap xs) (hp:p+32*n≤4256) (hT:sgn7 ng (val xs*2^p)=T) (hT0:-(HB:Int)<T) (hT1:T<(HB:Int)) :
 Calls Tryz.prog 78 #[.pointer (some ⟨g,0,none⟩),.agg #[.int .i64 (k:Nat),.bool ng,.slice ao n cap,.int .i64 (p:Nat)]] w (Did g w (putS V s k T)):=by
 obtain ⟨t,ht⟩:∃ t,t=s.cnt k 1:=⟨_,rfl⟩;obtain ⟨X,hX⟩:∃ X,X=putS V s k T:=⟨_,rfl⟩;rw [←hX];have HC:=hid (fun u:World=>counted_any s k 1 u hk hs (by decide) (by decide))
 rw [←ht] at HC;obtain ⟨sn,su,sd,sm,sp,sa⟩:=s;obtain ⟨tn,tu,td,tm,tp,ta⟩:=t;have HR:Aside (Ac w g L ⟨sn,su,sd,sm,sp,sa⟩∧L.length=133∧Wf L∧(val L:Int)=V%(PB:Int)∧-(HB:Int)<V∧V<(HB:Int)∧Arg w ao n cap xs∧p+32*n≤4256∧sgn7 ng (val xs*2^p)=T∧-(HB:Int)<T∧T<(HB:Int)):=⟨hA,hl,hL,hv,h0,h1,hx,hp,hT,hT0,hT1⟩;have HX:Aside (X=putS V ⟨sn,su,sd,sm,sp,sa⟩ k T∧⟨tn,tu,td,tm,tp,ta⟩=Sp.cnt ⟨sn,su,sd,sm,sp,sa⟩ k 1):=⟨hX,ht⟩;simp only [Sp.agg] at HC;clear hA hl hL hv h0 h1 hx hp hT hT0 hT1 hX ht hs;go_enter Tryz.func78,Tryz.ntmps78;have a5:=HR.out.1.cell HR.out.2.1 5 _ rfl;have alt:=HR.out.1.lt
 by_cases hmax:sa=1099511627776
 · subst hmax
   go_wp2;go_ret;rw [HX.out.1];unfold putS;rw [if_pos rfl];obtain ⟨hA,hl,hL,hv,h0,h1,_⟩:=HR.out;exact ⟨rfl,⟨L,hl,hL,hv,h0,h1,hA.alloc _⟩,(But.refl g w).of_bel (bel_alloc _ _)⟩
 have hmax':(sa==1099511627776)=false:=by simpa using hmax
 go_wp2
 have HP:Aside (X=step7 V ⟨sn,su,sd,sm,sp,sa⟩ T ⟨tn,tu,td,tm,tp,ta⟩):=by
  refine qsd ?_;rw [HX.out.1,HX.out.2];unfold putS;rw [if_neg hmax]
 obtain ⟨w1,hw1⟩:∃ w1,w1=w.alloc (Obj.cells #[.int .i64 (k:Nat),.bool ng,.slice ao n cap,.int .i64 (p:Nat)] 117):=⟨_,rfl⟩;rw [←hw1]
 have H1:Aside (Bl w1 w.heap.size 117 [.int .i64 (k:Nat),.bool ng,.slice ao n cap,.int .i64 (p:Nat)]∧Below w.heap.size w w1∧w1.heap.size=w.heap.size+1):=by
  subst hw1;exact ⟨Bl.new w 117 [_,_,_,_],bel_alloc _ _,by simp⟩
 clear hw1 hmax hmax' a5 alt;have hu:=Tryz.desc_words;have hsz:(Tryz.prog.info? 112).map (·.size)=some (L.map U).length:=by rw [Tryz.size_words,List.length_map,HR.out.2.1]
 have A0:=qsd (HR.out.1.below H1.out.2.1 HR.out.1.lt);have BB:Aside (Below w1.heap.size w1 w1.drew):=(Below.refl _ _).drew;have kS:=qsd (ai (A0.out.drew.range) (ai (A0.out.drew.cell HR.out.2.1 0 _ rfl) (ai (A0.out.drew.cell HR.out.2.1 1 _ rfl) (ai (A0.out.drew.cell HR.out.2.1 2 _ rfl) (ai (A0.out.drew.cell HR.out.2.1 3 _ rfl) (ai (A0.out.drew.cell HR.out.2.1 4 _ rfl) (ai (A0.out.drew.cell HR.out.2.1 5 _ rfl) (H1.out.1.drew.four))))))));have HW:=hid (fun (u:World) (hb:Below w1.heap.size w1 u)=>with_any L xs ao n cap p (k:Nat) ng u HR.out.2.1 HR.out.2.2.1 ((HR.out.2.2.2.2.2.2.1.below H1.out.2.1).below hb) HR.out.2.2.2.2.2.2.2.1)
 have hTT:Aside (sgn7 ng (val xs*2^p)=T∧-(HB:Int)<T∧T<(HB:Int)):=by
  have h:=HR.out.2.2.2.2.2.2.2.2;refine ⟨?_,by omega,by omega⟩
  first | exact h.1 | (rw [←h.1];cases ng <;> simp [sgn7])
 refine until_region (fun w'=>w'.rangeAt g 0 (L.map U)∧w'.cell? ⟨g,133,none⟩=some (.int .i64 sn)∧w'.cell? ⟨g,134,none⟩=some (.int .i64 su)∧w'.cell? ⟨g,135,none⟩=some (.int .i64 sd)∧w'.cell? ⟨g,136,none⟩=some (.int .i64 sm)∧w'.cell? ⟨g,137,none⟩=some (.int .i64 sp)∧w'.cell? ⟨g,138,none⟩=some (.int .i64 sa)∧w'.cell? ⟨w.heap.size,0,none⟩=some (.int .i64 (k:Nat))∧w'.cell? ⟨w.heap.size,1,none⟩=some (.bool ng)∧w'.cell? ⟨w.heap.size,2,none⟩=some (.slice ao n cap)∧w'.cell? ⟨w.heap.size,3,none⟩=some (.int .i64 (p:Nat))) 14 (by kernel_rfl) ?_
 refine until_take (i:=0) [] (v:=?_) rfl (by kernel_rfl) (by kernel_rfl) (by kernel_rfl) (by kernel_rfl) (by kernel_rfl) (fun _ _ _ h=>h) (Or.inl ⟨by rfl,?_⟩) kS.out ?_
 rotate_left
 · intro u hSu
   try dsimp only at hSu
   first | (go_simp;done) | (go_simp;with_reducible rfl)
 try simp only [Act.put,List.setIfInBounds_toArray,List.set_cons_zero,List.set_cons_succ]
 refine until_take (i:=1) [2,3,4,6] (v:=?_) rfl (by kernel_rfl) (by kernel_rfl) (by kernel_rfl) (by kernel_rfl) (by kernel_rfl) (fun _ _ _ h=>h) (Or.inl ⟨by rfl,?_⟩) kS.out ?_
 rotate_left
 · intro u hSu
   try dsimp only at hSu
   first | (go_simp;done) | (go_simp;with_reducible rfl)
 try simp only [Act.put,List.setIfInBounds_toArray,List.set_cons_zero,List.set_cons_succ]
 refine until_take (i:=2) [3,4,6] (v:=?_) rfl (by kernel_rfl) (by kernel_rfl) (by kernel_rfl) (by kernel_rfl) (by kernel_rfl) (fun _ _ _ h=>h) (Or.inl ⟨by rfl,?_⟩) kS.out ?_
 rotate_left
 · intro u hSu
   try dsimp only at hSu
   first | (go_simp;done) | (go_simp;with_reducible rfl)
 try simp only [Act.put,List.setIfInBounds_toArray,List.set_cons_zero,List.set_cons_succ]
 refine until_take (i:=3) [4,6] (v:=?_) rfl (by kernel_rfl) (by kernel_rfl) (by kernel_rfl) (by kernel_rfl) (by kernel_rfl) (fun _ _ _ h=>h) (Or.inl ⟨by rfl,?_⟩) kS.out ?_
 rotate_left
 · intro u hSu
   try dsimp only at hSu
   first | (go_simp;done) | (go_simp;with_reducible rfl)
 try simp only [Act.put,List.setIfInBounds_toArray,List.set_cons_zero,List.set_cons_succ]
 refine until_take (i:=4) [6] rfl (by kernel_rfl) (by kernel_rfl) (by kernel_rfl) (by kernel_rfl) (by kernel_rfl) (fun _ _ _ h=>h) (yieldsIf_load_mid (by rfl) _ _ rfl g 0 rfl (L.map U) _ (fun u h=>h.1) hu rfl hsz) kS.out ?_
 try simp only [Act.put,List.setIfInBounds_toArray,List.set_cons_zero,List.set_cons_succ]
 refine until_take (i:=5) [6] (v:=?_) rfl (by kernel_rfl) (by kernel_rfl) (by kernel_rfl) (by kernel_rfl) (by kernel_rfl) (fun _ _ _ h=>h) (Or.inl ⟨by rfl,?_⟩) kS.out ?_
 rotate_left
 · intro u hSu
   try dsimp only at hSu
   first | (go_simp;done) | (go_simp;with_reducible rfl)
 try simp only [Act.put,List.setIfInBounds_toArray,List.set_cons_zero,List.set_cons_succ]
 refine until_take (i:=7) [8,9,10,13] (v:=?_) rfl (by kernel_rfl) (by kernel_rfl) (by kernel_rfl) (by kernel_rfl) (by kernel_rfl) (fun _ _ _ h=>h) (Or.inl ⟨by rfl,?_⟩) kS.out ?_
 rotate_left
 · intro u hSu
   try dsimp only at hSu
   first | (go_simp;done) | (go_simp;with_reducible rfl)
 try simp only [Act.put,List.setIfInBounds_toArray,List.set_cons_zero,List.set_cons_succ]
 refine until_take (i:=8) [9,10,13] (v:=?_) rfl (by kernel_rfl) (by kernel_rfl) (by kernel_rfl) (by kernel_rfl) (by kernel_rfl) (fun _ _ _ h=>h) (Or.inl ⟨by rfl,?_⟩) kS.out ?_
 rotate_left
 · intro u hSu
   try dsimp only at hSu
   first | (go_simp;done) | (go_simp;with_reducible rfl)
 try simp only [Act.put,List.setIfInBounds_toArray,List.set_cons_zero,List.set_cons_succ]
 refine until_take (i:=9) [10,13] (v:=?_) rfl (by kernel_rfl) (by kernel_rfl) (by kernel_rfl) (by kernel_rfl) (by kernel_rfl) (fun _ _ _ h=>h) (Or.inl ⟨by rfl,?_⟩) kS.out ?_
 rotate_left
 · intro u hSu
   try dsimp only at hSu
   first | (go_simp;done) | (go_simp;with_reducible rfl)
 try simp only [Act.put,List.setIfInBounds_toArray,List.set_cons_zero,List.set_cons_succ]
 refine until_take (i:=10) [13] (v:=?_) rfl (by kernel_rfl) (by kernel_rfl) (by kernel_rfl) (by kernel_rfl) (by kernel_rfl) (fun _ _ _ h=>h) (Or.inl ⟨by rfl,?_⟩) kS.out ?_
 rotate_left
 · intro u hSu
   try dsimp only at hSu
   first | (go_simp;done) | (go_simp;with_reducible rfl)
 try simp only [Act.put,List.setIfInBounds_toArray,List.set_cons_zero,List.set_cons_succ]
 refine until_take (i:=11) [12,13] (v:=?_) rfl (by kernel_rfl) (by kernel_rfl) (by kernel_rfl) (by kernel_rfl) (by kernel_rfl) (fun _ _ _ h=>h) (Or.inl ⟨by rfl,?_⟩) kS.out ?_
 rotate_left
 · intro u hSu
   try dsimp only at hSu
   first | (go_simp;done) | (go_simp;with_reducible rfl)
 try simp only [Act.put,List.setIfInBounds_toArray,List.set_cons_zero,List.set_cons_succ]
 refine until_take (i:=12) [13] (v:=?_) rfl (by kernel_rfl) (by kernel_rfl) (by kernel_rfl) (by kernel_rfl) (by kernel_rfl) (fun _ _ _ h=>h) (Or.inl ⟨by rfl,?_⟩) kS.out ?_
 rotate_left
 · intro u hSu
   try dsimp only at hSu
   first | (go_simp;done) | (go_simp;with_reducible rfl)
 try simp only [Act.put,List.setIfInBounds_toArray,List.set_cons_zero,List.set_cons_succ]
 refine until_one (i:=6) (by kernel_rfl) rfl (fun K' hK=>?_)
 go_simp
 refine (HW.out _ BB.out).mono ?_;rintro r u1 ⟨M,rfl,hMl,hMw,hMv,hb⟩;have HM:=qsd (ai hMl (ai hMw hMv));have BB:=qsd (BB.out.trans (hb.mono BB.out.size));have A1:=A0.out.below BB.out A0.out.lt;have Z1:=H1.out.1.below BB.out H1.out.1.lt;have kS:=qsd (ai (A1.range) (ai (A1.cell HR.out.2.1 0 _ rfl) (ai (A1.cell HR.out.2.1 1 _ rfl) (ai (A1.cell HR.out.2.1 2 _ rfl) (ai (A1.cell HR.out.2.1 3 _ rfl) (ai (A1.cell HR.out.2.1 4 _ rfl) (ai (A1.cell HR.out.2.1 5 _ rfl) (Z1.four))))))));clear hb A1 Z1 hMl hMw hMv
 dsimp only
 refine hK.out _ _ (fun _=>kS.out) ?_
 clear hK K'
 try simp only [Act.put,List.setIfInBounds_toArray,List.set_cons_zero,List.set_cons_succ]
 refine until_one (i:=13) (by kernel_rfl) rfl (fun K' hK=>?_)
 go_simp
 refine (HC.out _).mono ?_;rintro r u2 ⟨rfl,hb⟩;have BB:=qsd (BB.out.trans (hb.mono BB.out.size));have A1:=A0.out.below BB.out A0.out.lt;have Z1:=H1.out.1.below BB.out H1.out.1.lt;have kS:=qsd (ai (A1.range) (ai (A1.cell HR.out.2.1 0 _ rfl) (ai (A1.cell HR.out.2.1 1 _ rfl) (ai (A1.cell HR.out.2.1 2 _ rfl) (ai (A1.cell HR.out.2.1 3 _ rfl) (ai (A1.cell HR.out.2.1 4 _ rfl) (ai (A1.cell HR.out.2.1 5 _ rfl) (Z1.four))))))));clear hb A1 Z1
 dsimp only
 refine hK.out _ _ (fun _=>kS.out) ?_
 clear hK K'
 try simp only [Act.put,List.setIfInBounds_toArray,List.set_cons_zero,List.set_cons_succ]
 refine until_one (i:=14) (by kernel_rfl) rfl (fun K' hK=>?_)
 go_simp
 have CB:=become_any g L M V T ⟨sn,su,sd,sm,sp,sa⟩ ⟨tn,tu,td,tm,tp,ta⟩ u2 (A0.out.below BB.out A0.out.lt) HR.out.2.1 HR.out.2.2.1 HR.out.2.2.2.1 HR.out.2.2.2.2.1 HR.out.2.2.2.2.2.1 HM.out.2.1 HM.out.1 (by rw [HM.out.2.2,hTT.out.1,HR.out.2.2.2.1,emod_add']) hTT.out.2.1 hTT.out.2.2
 rw [←HP.out] at CB;simp only [Sp.agg] at CB;refine CB.mono ?_;rintro r u3 hD;have HD3:=qsd hD;obtain ⟨rfl,_,_⟩:=hD;clear CB
 dsimp only
 refine hK.out _ _ (fun h=>absurd h (by decide)) ?_
 clear hK K'
 try simp only [Act.put,List.setIfInBounds_toArray,List.set_cons_zero,List.set_cons_succ]
 refine until_one (i:=15) (by kernel_rfl) rfl (fun K' hK=>?_)
 go_simp
 refine hK.out _ _ (fun h=>absurd h (by decide)) ?_
 clear hK K';refine until_done (by kernel_rfl) ?_ _
 clear kS;go_wp2;go_ret;obtain ⟨h1,h2,h3⟩:=HD3.out;exact ⟨rfl,h2,((But.refl g w).of_bel H1.out.2.1).trans (((But.refl g w1).of_bel BB.out).trans h3)⟩
end
section
open Go.RowKit
def sW (x:Nat):Bool:=decide (9223372036854775808≤x)
def eW (x:Nat):Nat:=x%9223372036854775808/4503599627370496
def fW (x:Nat):Nat:=x%4503599627370496
theorem bw_parts (x:Nat) (hx:x<18446744073709551616):x=B.bw (sW x) (eW x) (fW x)∧eW x<2048∧fW x<4503599627370496:=by
 unfold B.bw sW eW fW;refine ⟨?_,by omega,by omega⟩
 by_cases h:9223372036854775808≤x
 · simp only [h,decide_true,Bool.toNat_true];omega
 · simp only [h,decide_false,Bool.toNat_false];omega
def clW (x:Nat):Int:=B.cls (eW x) (fW x)
def xpW (x:Nat):Int:=B.xp (eW x)
def frW (x:Nat):Nat:=(B.fr (eW x) (fW x)).toNat
def ngW (x:Nat):Bool:=B.ng (sW x) (eW x) (fW x)
def pK (x y:Nat):Nat:=pk (max (clW x) (clW y)) (min (clW x) (clW y)) (!ngW x==ngW y)
def pT (x y:Nat):Int:=pv7 (max (clW x) (clW y)) (min (clW x) (clW y)) (!ngW x==ngW y) (frW x) (frW y) (xpW x+xpW y)
theorem pk_le (hi lo:Int) (ng:Bool):pk hi lo ng≤5:=by
 unfold pk
 split
 · omega
 · split
   · split <;> omega
   · split
     · split <;> omega
     · omega
theorem HB_two (k:Nat) (hk:k=4238):HB=2^k:=by
 obtain ⟨j,hj⟩:∃ j,j=32*132:=⟨_,rfl⟩;rw [HB_eq,pw_pow,←hj,show k=14+j by omega,Nat.pow_add]
theorem sgn_bound (ng:Bool) (X B:Nat) (h:X<B):-(B:Int)<sgn7 ng X∧sgn7 ng X<(B:Int):=by cases ng <;> simp only [sgn7,if_true,if_false] <;> constructor <;> (try simp) <;> omega
theorem pT_bound (x y:Nat) (hx:x<18446744073709551616) (hy:y<18446744073709551616):-(HB:Int)<pT x y∧pT x y<(HB:Int):=by
 unfold pT pv7;have hp:=HB_pos
 split
 · refine sgn_bound _ _ _ ?_
   have f1:=fr_bound (eW x) (fW x) (bw_parts x hx).2.2;have f2:=fr_bound (eW y) (fW y) (bw_parts y hy).2.2;have x1:=xp_bound (eW x) (bw_parts x hx).2.1;have x2:=xp_bound (eW y) (bw_parts y hy).2.1
   have h1:frW x*frW y<2^106:=by
    have:frW x*frW y≤9007199254740991*9007199254740991:=Nat.mul_le_mul (by unfold frW;omega) (by unfold frW;omega)
    exact Nat.lt_of_le_of_lt this (by decide)
   obtain ⟨k,hk⟩:∃ k,k=4238:=⟨_,rfl⟩;rw [HB_two k hk];refine Nat.lt_of_lt_of_le (Nat.mul_lt_mul_of_pos_right h1 (Nat.two_pow_pos _)) ?_;rw [←Nat.pow_add];exact Nat.pow_le_pow_right (by decide) (by unfold xpW;omega)
 · constructor <;> omega
theorem product7 (x y:Nat) (hx:x<18446744073709551616) (hy:y<18446744073709551616) (w:World) :
 Calls Tryz.prog 79 #[.float .f64 x,.float .f64 y] w fun r w'=>∃ v,r=.returned v∧Th w.heap.size w' v (pK x y) (pT x y)∧Below w.heap.size w w':=by
 obtain ⟨a1,a2,a3⟩:=bw_parts x hx;obtain ⟨b1,b2,b3⟩:=bw_parts y hy;have h1:=splitIs (sW x) (eW x) (fW x) a2 a3;have h2:=splitIs (sW y) (eW y) (fW y) b2 b3;rw [←a1] at h1;rw [←b1] at h2;exact product_any x y _ _ _ _ _ _ _ _ w h1 h2 (xp_bound _ a2) (xp_bound _ b2) (fr_bound _ _ a3) (fr_bound _ _ b3)
theorem number7 (x:Nat) (hx:x<18446744073709551616) (w:World) :
 Calls Tryz.prog 94 #[.float .f64 x] w fun r w'=>∃ v,r=.returned v∧Th w.heap.size w' v (pK x 4607182418800017408) (pT x 4607182418800017408)∧Below w.heap.size w w':=by
 have HP:=hid (fun u:World=>product7 x 4607182418800017408 hx (by decide) u)
 clear hx;go_enter Tryz.func94,Tryz.ntmps94
 go_wp2_with fail
 refine (HP.out _).mono ?_;rintro r w1 ⟨v,rfl,hT,hb⟩;obtain ⟨ng,a,n,c,p,xs,hlo,rfl,hA,hp,hv⟩:=hT;have HL:=qsd hlo;have Z:=qsd ((Bl.new w 117 [Value.int .i64 0,Value.bool false,Value.slice none 0 0,Value.int .i64 0]).below hb (by simp))
 have HA:=qsd (ai hA (ai hp (ai hv hb)));obtain ⟨z0,z1,z2,z3⟩:=Z.out.four;have g0:=Z.out.frozen 0;have g1:=Z.out.frozen 1;have g2:=Z.out.frozen 2;have g3:=Z.out.frozen 3;clear hA hp hv hb hlo;go_wp2;obtain ⟨w5,hw5⟩:∃ w5,w5=((((w1.setCell ⟨w.heap.size,0,none⟩ (.int .i64 (pK x 4607182418800017408:Nat))).setCell ⟨w.heap.size,1,none⟩ (.bool ng)).setCell ⟨w.heap.size,2,none⟩ (.slice a n c)).setCell ⟨w.heap.size,3,none⟩ (.int .i64 (p:Nat))):=⟨_,rfl⟩;rw [←hw5];have q:Bl w5 w.heap.size 117 [.int .i64 (pK x 4607182418800017408:Nat),.bool ng,.slice a n c,.int .i64 (p:Nat)]:=by rw [hw5];exact put4 Z.out
 have hbut:But w.heap.size w1 w5:=by rw [hw5];exact ((((But.refl _ w1).set 0 _).set 1 _).set 2 _).set 3 _
 have hBw:Below w.heap.size w w1:=(bel_alloc w _).trans (HA.out.2.2.2.mono (by simp))
 have qb:Below w.heap.size w w5:=But.below hBw hbut hBw.size (Nat.le_refl _);clear hw5;obtain ⟨q0,q1,q2,q3⟩:=q.four;refine bodyPost_ret (v:=.agg #[.int .i64 (pK x 4607182418800017408:Nat),.bool ng,.slice a n c,.int .i64 (p:Nat)]) (by simp [results,Tryz.results94,go_sem,q0,q1,q2,q3]) rfl ?_
 refine ⟨_,rfl,⟨ng,a,n,c,p,xs,fun ad e=>?_,rfl,?_,HA.out.2.1,HA.out.2.2.1⟩,qb⟩
 · have:=HL.out ad e;simp at this;omega
 · obtain ⟨r1,r2,r3,r4,r5,r6⟩:=HA.out.1
   refine ⟨r1,r2,r3,r4,fun hne=>?_,r6⟩
   obtain ⟨b,off,hlt,rfl,hc⟩:=r5 hne;have hbb:=HL.out _ rfl;simp at hbb;refine ⟨b,off,Nat.lt_of_lt_of_le hlt hbut.size,rfl,fun i hi=>?_⟩
   rw [←hc i hi];exact World.cell?_of_block (a:=⟨b,off+i,none⟩) (hbut.block b hlt (by omega))
theorem put7 (g:Nat) (V T:Int) (s:Sp) (k lo:Nat) (v:Value) (w:World) (hA:Acc7 w g V s) (hs:s.ok) (hk:k≤5) (ht:Th lo w v k T) (h0:-(HB:Int)<T) (h1:T<(HB:Int)) :
 Calls Tryz.prog 78 #[.pointer (some ⟨g,0,none⟩),v] w (Did g w (putS V s k T)):=by
 obtain ⟨L,a1,a2,a3,a4,a5,a6⟩:=hA;obtain ⟨ng,a,n,c,p,xs,_,rfl,hx,hp,hv⟩:=ht;exact put_core g L xs V T s k ng a n c p w hs hk a6 a1 a2 a3 a4 a5 hx hp hv h0 h1
theorem Add7 (g:Nat) (V:Int) (s:Sp) (x:Nat) (w:World) (hA:Acc7 w g V s) (hs:s.ok) (hx:x<18446744073709551616) :
 Calls Tryz.prog 74 #[.pointer (some ⟨g,0,none⟩),.float .f64 x] w (Did g w (putS V s (pK x 4607182418800017408) (pT x 4607182418800017408))):=by
 obtain ⟨X,hX⟩:∃ X,X=putS V s (pK x 4607182418800017408) (pT x 4607182418800017408):=⟨_,rfl⟩;rw [←hX];have HP:=hid (fun u:World=>number7 x hx u)
 have HB:=qsd (pT_bound x 4607182418800017408 hx (by decide))
 have HA:=qsd (ai hA (ai hs hX));clear hA hs hX hx;go_enter Tryz.func74,Tryz.ntmps74
 go_wp2_with fail
 refine (HP.out _).mono ?_;rintro r w1 ⟨v,rfl,hT,hb⟩;have HT:=qsd (ai hT hb);clear hT hb
 go_wp2_with fail
 have CP:=put7 g V (pT x 4607182418800017408) s (pK x 4607182418800017408) w.heap.size v w1 (HA.out.1.bel HT.out.2) HA.out.2.1 (pk_le _ _ _) HT.out.1 HB.out.1 HB.out.2;rw [←HA.out.2.2] at CP;refine CP.mono ?_;rintro r w2 hD;have HD:=qsd hD;obtain ⟨rfl,_,_⟩:=hD;clear CP;go_wp2;go_ret;exact ⟨rfl,HD.out.2.1,((But.refl g w).of_bel HT.out.2).trans HD.out.2.2⟩
theorem AddProduct7 (g:Nat) (V:Int) (s:Sp) (x y:Nat) (w:World) (hA:Acc7 w g V s) (hs:s.ok) (hx:x<18446744073709551616) (hy:y<18446744073709551616) :
 Calls Tryz.prog 50 #[.pointer (some ⟨g,0,none⟩),.float .f64 x,.float .f64 y] w (Did g w (putS V s (pK x y) (pT x y))):=by
 obtain ⟨X,hX⟩:∃ X,X=putS V s (pK x y) (pT x y):=⟨_,rfl⟩;rw [←hX];have HP:=hid (fun u:World=>product7 x y hx hy u)
 have HB:=qsd (pT_bound x y hx hy);have HA:=qsd (ai hA (ai hs hX));clear hA hs hX hx hy;go_enter Tryz.func50,Tryz.ntmps50
 go_wp2_with fail
 refine (HP.out _).mono ?_;rintro r w1 ⟨v,rfl,hT,hb⟩;have HT:=qsd (ai hT hb);clear hT hb
 go_wp2_with fail
 have CP:=put7 g V (pT x y) s (pK x y) w.heap.size v w1 (HA.out.1.bel HT.out.2) HA.out.2.1 (pk_le _ _ _) HT.out.1 HB.out.1 HB.out.2;rw [←HA.out.2.2] at CP;refine CP.mono ?_;rintro r w2 hD;have HD:=qsd hD;obtain ⟨rfl,_,_⟩:=hD;clear CP;go_wp2;go_ret;exact ⟨rfl,HD.out.2.1,((But.refl g w).of_bel HT.out.2).trans HD.out.2.2⟩
end
section
open Go.RowKit
theorem neg7_val (N:Nat) (V:Int) (h:(N:Int)=V%(PB:Int)) (h0:-(HB:Int)<V) (h1:V<(HB:Int)):neg7 N=decide (V<0)∧mag7 N=V.natAbs:=by
 have e:=PB_HB;have hp:=HB_pos;unfold mag7 neg7
 by_cases hv:0≤V
 · rw [Int.emod_eq_of_lt hv (by omega)] at h
   rw [decide_eq_false (by omega),decide_eq_false (by omega)]
   refine ⟨rfl,?_⟩;rw [if_neg (by decide)]
   omega
 · have h2:V%(PB:Int)=V+PB:=by
    rw [←Int.add_emod_right,Int.emod_eq_of_lt (by omega) (by omega)]
   rw [h2] at h;rw [decide_eq_true (by omega),decide_eq_true (by omega)]
   refine ⟨rfl,?_⟩;rw [if_pos rfl];omega
def exV (V:Int):Option (Bool×Nat×Int):=mkS (decide (V<0)) V.natAbs (-2148)
theorem _root_.Nat.le.ne7 {a b c:Nat}(h:a≤b) (e:a=c+1):b≠c:=by omega
theorem Nt.lo7 {lo k:Nat}{w:World}{v:Value}{X:Nat}(h:Nt lo w v X) (hk:k≤lo):k≤lo:=hk
theorem Tryz.row_dyad:∃ d:TypeDesc,Tryz.prog.underlying 42=some d∧d.isRow=true:=by
 have h:(Tryz.prog.underlying 42).any (·.isRow)=true:=by kernel_rfl
 obtain ⟨d,h1,h2⟩:=(Option.any_eq_true _ _).1 h;exact ⟨d,h1,h2⟩
theorem Tryz.size_dyad:(Tryz.prog.info? 42).map (·.size)=some 3:=by kernel_rfl
theorem row_result {fn:Func}{p:Tmp}{ty:TypeId}(h:fn.results=#[.cell p ty]) (tmps:Array Value) (w:World) (g:Nat) (cs:List Value)
 (hp:tmps.getD p undef=.pointer (some ⟨g,0,none⟩)) (hg:Bl w g ty cs) (hdr:∃ d:TypeDesc,Tryz.prog.underlying ty=some d∧d.isRow=true) (hi:(Tryz.prog.info? ty).map (·.size)=some cs.toArray.size) :
 (results fn tmps).run Tryz.prog w=.ok (.agg cs.toArray) w:=by
 obtain ⟨d,h1,h2⟩:=hdr
 cases d <;> first
  | exact results_cell_row (P:=Tryz.prog) h tmps w g ty _ _ _ hp hg h1 rfl hi
  | exact absurd h2 (by simp [TypeDesc.isRow])
theorem exact_close {w base:World}{tmps:Array Value}{o:Option (Bool×Nat×Int)}{v x y z:Value}{lo:Nat}(h2:tmps.getD 2 undef=.pointer (some ⟨w.heap.size,0,none⟩))
 (hZ:Bl base w.heap.size 42 [x,y,z]) (hbw:Below w.heap.size w base) (hN:Nt lo base v (dX o)) (hlo:w.heap.size<lo) :
 bodyPost Tryz.prog Tryz.f51 (fun r w'=>∃ v,r=.returned (.agg #[.bool (dN o),v,.int .i64 (dE o)])∧Nt w.heap.size w' v (dX o)∧Below w.heap.size w w') .ret ⟨tmps,[]⟩
  (((base.setCell ⟨w.heap.size,0,none⟩ (.bool (dN o))).setCell ⟨w.heap.size,1,none⟩ v).setCell ⟨w.heap.size,2,none⟩ (.int .i64 (dE o))):=by
 have q:Bl (((base.setCell ⟨w.heap.size,0,none⟩ (.bool (dN o))).setCell ⟨w.heap.size,1,none⟩ v).setCell ⟨w.heap.size,2,none⟩ (.int .i64 (dE o))) w.heap.size 42 [.bool (dN o),v,.int .i64 (dE o)]:=((hZ.set 0 _).set 1 _).set 2 _;have hbut:But w.heap.size base (((base.setCell ⟨w.heap.size,0,none⟩ (.bool (dN o))).setCell ⟨w.heap.size,1,none⟩ v).setCell ⟨w.heap.size,2,none⟩ (.int .i64 (dE o))):=(((But.refl _ _).set 0 _).set 1 _).set 2 _;refine bodyPost_ret (v:=.agg #[.bool (dN o),v,.int .i64 (dE o)]) (row_result Tryz.results51 _ _ w.heap.size [.bool (dN o),v,.int .i64 (dE o)] h2 q Tryz.row_dyad (by rw [Tryz.size_dyad];rfl)) rfl ?_
 exact ⟨v,rfl,(hN.but7 hbut hlo).mono (by omega),But.below hbw hbut hbw.size (Nat.le_refl _)⟩
theorem exact_close2 {w base:World}{tmps:Array Value}{o:Option (Bool×Nat×Int)}{v x y z:Value}{lo:Nat}{ob:Obj}(h2:tmps.getD 2 undef=.pointer (some ⟨w.heap.size,0,none⟩))
 (hZ:Bl base w.heap.size 42 [x,y,z]) (hbw:Below w.heap.size w base) (hN:Nt lo base v (dX o)) (hlo:w.heap.size<lo) :
 bodyPost Tryz.prog Tryz.f51 (fun r w'=>∃ v,r=.returned (.agg #[.bool (dN o),v,.int .i64 (dE o)])∧Nt w.heap.size w' v (dX o)∧Below w.heap.size w w') .ret ⟨tmps,[]⟩
  ((((base.setCell ⟨w.heap.size,0,none⟩ (.bool (dN o))).setCell ⟨w.heap.size,1,none⟩ v).setCell ⟨w.heap.size,2,none⟩ (.int .i64 (dE o))).alloc ob):=by
 have q:Bl (((base.setCell ⟨w.heap.size,0,none⟩ (.bool (dN o))).setCell ⟨w.heap.size,1,none⟩ v).setCell ⟨w.heap.size,2,none⟩ (.int .i64 (dE o))) w.heap.size 42 [.bool (dN o),v,.int .i64 (dE o)]:=((hZ.set 0 _).set 1 _).set 2 _;have hbut:But w.heap.size base (((base.setCell ⟨w.heap.size,0,none⟩ (.bool (dN o))).setCell ⟨w.heap.size,1,none⟩ v).setCell ⟨w.heap.size,2,none⟩ (.int .i64 (dE o))):=(((But.refl _ _).set 0 _).set 1 _).set 2 _;have hW:=But.below hbw hbut hbw.size (Nat.le_refl _);refine bodyPost_ret (v:=.agg #[.bool (dN o),v,.int .i64 (dE o)]) (row_result Tryz.results51 _ _ w.heap.size [.bool (dN o),v,.int .i64 (dE o)] h2 (q.alloc ob) Tryz.row_dyad (by rw [Tryz.size_dyad];rfl)) rfl ?_
 exact ⟨v,rfl,((hN.but7 hbut hlo).mono (by omega)).below (bel_alloc _ _),hW.trans ((bel_alloc _ _).mono hW.size)⟩
theorem Exact7 (g:Nat) (V:Int) (s:Sp) (w:World) (hA:Acc7 w g V s) (hT:Tab w):Calls Tryz.prog 51 #[.pointer (some ⟨g,0,none⟩)] w fun r w' =>
 ∃ v,r=.returned (.agg #[.bool (dN (exV V)),v,.int .i64 (dE (exV V))])∧Nt w.heap.size w' v (dX (exV V))∧Below w.heap.size w w':=by
 obtain ⟨o,ho⟩:∃ o,o=exV V:=⟨_,rfl⟩;rw [←ho];obtain ⟨L,a1,a2,a3,a4,a5,a6⟩:=hA;have hnm:=neg7_val (val L) V a3 a4 a5;have HA:=qsd (ai a1 (ai a2 (ai a6.hd (ai hT (ai ho hnm)))));have hlt:=a6.lt;clear a1 a2 a3 a4 a5 a6 hT ho hnm;have HLT:=qsd hlt;clear hlt;obtain ⟨W1,hW1⟩:∃ W,W=w.alloc (.cells #[.bool false,.slice none 0 0,.int .i64 0] 42):=⟨_,rfl⟩
 have H1:Aside (Below w.heap.size w W1∧Bl W1 w.heap.size 42 [.bool false,.slice none 0 0,.int .i64 0]∧W1.heap.size=w.heap.size+1):=by
  subst hW1;exact ⟨bel_alloc _ _,Bl.new _ 42 [_,_,_],by simp⟩
 go_enter Tryz.func51,Tryz.ntmps51;go_wp2;rw [←hW1];clear hW1;have BB:Aside (Below W1.heap.size W1 W1.drew):=(Below.refl _ _).drew;have HH:Aside (∀ W:World,Below W1.heap.size W1 W→Hd W g L):=fun W h=>(HA.out.2.2.1.below H1.out.1 HLT.out (Nat.le_refl _)).below h (Nat.lt_of_lt_of_le HLT.out H1.out.1.size) (Nat.le_refl _)
 have HTT:Aside (∀ W:World,Below W1.heap.size W1 W→Tab W):=fun W h=>(HA.out.2.2.2.1.belows H1.out.1).belows h
 go_region_with (first
  | (go_at_call 80
     with_reducible refine (below_any g L _ HA.out.1 HA.out.2.1 (HH.out _ (by first | exact BB.out | exact BB.out.trans ((bel_alloc _ _).mono BB.out.size) | exact (bel_alloc _ _).drew))).mono ?_
     rintro r u ⟨rfl,rfl⟩)
  | (go_at_call 81
     with_reducible refine (size7_any L g _ HA.out.1 HA.out.2.1 (HH.out _ (by first | exact BB.out | exact BB.out.trans ((bel_alloc _ _).mono BB.out.size) | exact (bel_alloc _ _).drew))).mono ?_
     rintro r u ⟨b,cap,M,rfl,hM,hMv,hb⟩;have hu:Below W1.heap.size W1 u:=by first | exact BB.out.trans (hb.mono BB.out.size) | exact (BB.out.trans ((bel_alloc _ _).mono BB.out.size)).trans (hb.mono (by have:=BB.out.size;simp;omega)) | exact ((bel_alloc _ _).drew).trans (hb.mono (by simp))
     try have DZ:=qsd (ai (DZ.out.1.below hb DZ.out.1.lt) DZ.out.2)
     try have DZ:=qsd (ai ((Bl.new _ 42 [Value.bool false,Value.slice none 0 0,Value.int .i64 0]).below hb (by simp)) BB.out.size)
     try have DZ:=qsd (ai ((Bl.new W1 42 [Value.bool false,Value.slice none 0 0,Value.int .i64 0]).drew.below hb (by simp)) (Nat.le_refl W1.heap.size))
     have BB:=qsd hu;have HM:=qsd (ai hM (show mkS (neg7 (val L)) (val M) (-2148)=o by rw [HA.out.2.2.2.2.1,hMv,HA.out.2.2.2.2.2.1,HA.out.2.2.2.2.2.2];rfl))
     clear hM hMv hb hu)
  | (go_at_call 34
     with_reducible refine (Make_any (by first | exact HM.out.1 | exact HM.out.1.below (bel_alloc _ _)) (HTT.out _ (by first | exact BB.out | exact BB.out.trans ((bel_alloc _ _).mono BB.out.size) | exact (bel_alloc _ _).drew)) (neg7 (val L)) (-2148) (by decide) (by decide)).mono ?_
     rintro r u ⟨hD,hb⟩;rw [HM.out.2] at hD;obtain ⟨v,rfl,hN⟩:=hD
     try have DL:=qsd DZ.out.1.lt
     have hu:Below W1.heap.size W1 u:=by first | exact BB.out.trans (hb.mono BB.out.size) | exact (BB.out.trans ((bel_alloc _ _).mono BB.out.size)).trans (hb.mono (by have:=BB.out.size;simp;omega)) | exact ((bel_alloc _ _).drew).trans (hb.mono (by simp))
     try have DZ:=qsd (ai (DZ.out.1.below hb DZ.out.1.lt) DZ.out.2)
     try have DZ:=qsd (ai ((Bl.new _ 42 [Value.bool false,Value.slice none 0 0,Value.int .i64 0]).below hb (by simp)) BB.out.size)
     try have DZ:=qsd (ai ((Bl.new W1 42 [Value.bool false,Value.slice none 0 0,Value.int .i64 0]).drew.below hb (by simp)) (Nat.le_refl W1.heap.size))
     have hN2:=ai hN (hN.lo7 (k:=W1.heap.size) (by first | exact BB.out.size | (have:=BB.out.size;simp;omega)))
     obtain ⟨a,c,rfl,_⟩:=hN.arg (by
      refine Nat.le_trans ((ws_len_le _ 133).2 ?_) (by decide)
      have e:=HM.out.2;have hm:=val_lt M HM.out.1.wf;rw [←HM.out.1.len] at hm;rw [←e];refine Nat.lt_of_le_of_lt ?_ hm;unfold mkS dX
      split
      · exact Nat.zero_le _
      · split
        · exact Nat.zero_le _
        · exact Nat.div_le_self _ _)
     have HN:=qsd (ai hN2 hu);have Z:=qsd (H1.out.2.1.below hu (by have:=H1.out.2.2;omega))
     have z0:=Z.out.cell 0 _ rfl;have z1:=Z.out.cell 1 _ rfl;have z2:=Z.out.cell 2 _ rfl;have g0:=Z.out.frozen 0;have g1:=Z.out.frozen 1;have g2:=Z.out.frozen 2
     try have d0:=DZ.out.1.cell 0 _ rfl
     try have d1:=DZ.out.1.cell 1 _ rfl
     try have d2:=DZ.out.1.cell 2 _ rfl
     try have e0:=DZ.out.1.frozen 0
     try have e1:=DZ.out.1.frozen 1
     try have e2:=DZ.out.1.frozen 2
     have hlu:w.heap.size<u.heap.size:=Z.out.lt
     try have nx:=DZ.out.2.ne7 H1.out.2.2
     try have ny:=nx.symm
     clear hN hN2 hb hu))
 all_goals (
  clear HM HA HH HTT BB;go_wp2;have hW:Below w.heap.size w u:=H1.out.1.trans (HN.out.2.mono H1.out.1.size);have hlo:=HN.out.1.2;have hl1:=H1.out.2.2
  first
   | (with_reducible refine exact_close2 (x:=.bool false) (y:=.slice none 0 0) (z:=.int .i64 0) ?_ Z.out hW HN.out.1.1 (by omega)
      rfl)
   | (with_reducible refine exact_close (x:=.bool false) (y:=.slice none 0 0) (z:=.int .i64 0) ?_ (Bl.but Z.out ((((But.refl _ _).set 0 _).set 1 _).set 2 _) ny) (But.below hW ((((But.refl _ _).set 0 _).set 1 _).set 2 _) hW.size (by have:=DZ.out.2;omega)) (HN.out.1.1.but7 ((((But.refl _ _).set 0 _).set 1 _).set 2 _) (by first | exact DL.out | (simp;done) | (simp;omega))) (by omega)
      rfl))
end
namespace B
theorem lt_f64 (s t:Bool) (e f u v:Nat) (he:e<2048) (hf:f<4503599627370496) (hu:u<2048) (hv:v<4503599627370496) :
 (FloatKind.f64.format.order (bw s e f) (bw t u v)==some .lt)=(!odd e f&&(!odd u v&&decide (pl s e f<pl t u v))):=by
 rw [ord s t e f u v he hf hu hv]
 cases odd e f <;> cases odd u v <;> simp
 by_cases h:pl s e f<pl t u v
 · rw [Int.compare_eq_lt.2 h];simp [h]
 · rw [decide_eq_false h]
   by_cases h2:pl t u v<pl s e f
   · rw [Int.compare_eq_gt.2 h2];rfl
   · rw [Int.compare_eq_eq.2 (by omega)];rfl
theorem gt_f64 (s t:Bool) (e f u v:Nat) (he:e<2048) (hf:f<4503599627370496) (hu:u<2048) (hv:v<4503599627370496) :
 (FloatKind.f64.format.order (bw s e f) (bw t u v)==some .gt)=(!odd e f&&(!odd u v&&decide (pl t u v<pl s e f))):=by
 rw [ord s t e f u v he hf hu hv]
 cases odd e f <;> cases odd u v <;> simp
 by_cases h:pl t u v<pl s e f
 · rw [Int.compare_eq_gt.2 h];simp [h]
 · rw [decide_eq_false h]
   by_cases h2:pl s e f<pl t u v
   · rw [Int.compare_eq_lt.2 h2];rfl
   · rw [Int.compare_eq_eq.2 (by omega)];rfl
theorem eq_f64 (s t:Bool) (e f u v:Nat) (he:e<2048) (hf:f<4503599627370496) (hu:u<2048) (hv:v<4503599627370496) :
 (FloatKind.f64.format.order (bw s e f) (bw t u v)==some .eq)=(!odd e f&&(!odd u v&&decide (pl s e f=pl t u v))):=by
 rw [ord s t e f u v he hf hu hv]
 cases odd e f <;> cases odd u v <;> simp
 by_cases h:pl s e f<pl t u v
 · rw [Int.compare_eq_lt.2 h,decide_eq_false (by omega)];rfl
 · by_cases h2:pl t u v<pl s e f
   · rw [Int.compare_eq_gt.2 h2,decide_eq_false (by omega)];rfl
   · rw [Int.compare_eq_eq.2 (by omega),decide_eq_true (by omega)];rfl
theorem odd_lt (e f:Nat) (h:e<2047):odd e f=false:=by
 have:(e==2047)=false:=by simp;omega
 simp [odd,this]
theorem odd_zero (e:Nat):odd e 0=false:=by simp [odd]
theorem zero_bw:bw false 0 0=0:=rfl
theorem max_bw:bw false 2046 4503599627370495=9218868437227405311:=rfl
theorem gt_max (s:Bool) (e f:Nat) (he:e<2048) (hf:f<4503599627370496) :
 (FloatKind.f64.format.order (bw s e f) 9218868437227405311==some .gt)=(!s&&(e==2047&&f==0)):=by
 have h:=gt_f64 s false e f 2046 4503599627370495 he hf (by omega) (by omega)
 rw [max_bw] at h;rw [h,odd_lt 2046 _ (by omega)]
 cases ho:odd e f
 · have:=not_odd e f ho
   rw [Bool.eq_iff_iff]
   cases s <;> simp [pl,sg] <;> omega
 · obtain ⟨h1,h2⟩:=is_odd e f ho
   have h3:(f==0)=false:=by simp [h2]
   simp [h1,h3]
theorem eq_zero (s:Bool) (e f:Nat) (he:e<2048) (hf:f<4503599627370496) :
 (FloatKind.f64.format.order (bw s e f) 0==some .eq)=(e==0&&f==0):=by
 have h:=eq_f64 s false e f 0 0 he hf (by omega) (by omega)
 rw [zero_bw] at h;rw [h,odd_lt 0 _ (by omega)]
 cases ho:odd e f
 · rw [Bool.eq_iff_iff]
   cases s <;> simp [pl,sg] <;> omega
 · obtain ⟨h1,h2⟩:=is_odd e f ho
   have h3:(e==0)=false:=by simp [h1]
   simp [h3]
theorem lt_zero (s:Bool) (e f:Nat) (he:e<2048) (hf:f<4503599627370496) (ho:odd e f=false) (hz:(e==0&&f==0)=false) :
 (FloatKind.f64.format.order (bw s e f) 0==some .lt)=s:=by
 have h:=lt_f64 s false e f 0 0 he hf (by omega) (by omega)
 rw [zero_bw] at h;rw [h,odd_lt 0 _ (by omega),ho]
 have hz':¬ (e=0∧f=0):=by rintro ⟨rfl,rfl⟩;simp at hz
 rw [Bool.eq_iff_iff]
 cases s <;> simp [pl,sg] <;> omega
theorem abs_bw (s:Bool) (e f:Nat) (he:e<2048) (hf:f<4503599627370496):bits .andNot .u64 ((bw s e f:Nat):Int) 9223372036854775808=(bw false e f:Int):=by
 have h:=u64_andNot_nat (bw s e f) 9223372036854775808 (bw_lt s e f he hf) (by omega)
 rw [show (((9223372036854775808:Nat)):Int)=9223372036854775808 from rfl] at h
 rw [h,show 18446744073709551615-9223372036854775808=2^63-1 from rfl,Nat.and_two_pow_sub_one_eq_mod]
 congr 1
 unfold bw;cases s <;> simp only [Bool.toNat_true,Bool.toNat_false] <;> omega
end B
section
open Go.RowKit
open Go.Proofs.YtopgffjnejaijaaGreatDoor.B (f64bits f64frombits bw)
attribute [local go_sem] f64bits f64frombits
def kn (a:Int):Bool:=decide (0≤a)&&decide (a≤2)
def may (a b:Int):Bool:=kn a&&kn b
theorem known_any (a:Int) (w:World):Calls Tryz.prog 109 #[.int .i64 a] w fun r w'=>r=.returned (.bool (kn a))∧w'=w:=by
 unfold kn
 by_cases h:0≤a
 · have hd:decide (0≤a)=true:=decide_eq_true h
   rw [hd];go_enter Tryz.func109,Tryz.ntmps109;go_wp2;go_ret;exact ⟨by first | rfl | simp,rfl⟩
 · have hd:decide (0≤a)=false:=decide_eq_false h
   rw [hd];go_enter Tryz.func109,Tryz.ntmps109;go_wp2;go_ret;exact ⟨by first | rfl | simp,rfl⟩
theorem May_any (a b:Int) (w:World):Calls Tryz.prog 90 #[.agg #[.int .i64 a,.int .i64 b]] w fun r w'=>r=.returned (.bool (may a b))∧Below w.heap.size w w':=by
 unfold may
 rcases ha:kn a with _|_
 · have H:=hid (fun w=>ha ▸ known_any a w)
   clear ha;go_enter Tryz.func90,Tryz.ntmps90
   go_wp2_with fail
   refine (H.out _).mono ?_;rintro r w1 ⟨rfl,rfl⟩;go_wp2;go_ret;exact ⟨rfl,(Below.refl _ _).alloc (Nat.le_refl _) _⟩
 · have H:=hid (fun w=>ha ▸ known_any a w)
   have H2:=hid (fun w=>known_any b w)
   obtain ⟨kb,hkb⟩:∃ k,kn b=k:=⟨_,rfl⟩;rw [hkb] at H2 ⊢;clear ha hkb;go_enter Tryz.func90,Tryz.ntmps90
   go_wp2_with fail
   refine (H.out _).mono ?_;rintro r w1 ⟨rfl,rfl⟩
   go_wp2_with fail
   refine (H2.out _).mono ?_;rintro r w1 ⟨rfl,rfl⟩;go_wp2;go_ret;exact ⟨by first | rfl | simp,(Below.refl _ _).alloc (Nat.le_refl _) _⟩
open Go.RowKit
open Go.Proofs.YtopgffjnejaijaaGreatDoor.B (f64bits f64frombits bw bcell)
attribute [local go_sem] f64bits f64frombits
end
section
open Go.RowKit
theorem form_any {w:World}{a:Option Addr}{n c:Nat}{xs:List Nat}(h1:Arg w a n c xs) (hT:Tab w) (neg:Bool) (e:Int) (he0:-9223372036854775808≤e) (he1:e≤9223372036854775807) :
 Calls Tryz.prog 58 #[.agg #[.bool neg,.slice a n c,.int .i64 e]] w fun r w'=>DAns w.heap.size w' r (mkS neg (val xs) e)∧Below w.heap.size w w':=by
 have HB:=qsd (show Below w.heap.size w ((w.alloc (.cells #[.bool neg,.slice a n c,.int .i64 e] 42)).alloc (.cells #[.bool false,.slice none 0 0,.int .i64 0] 42)) from (((Below.refl _ _).alloc (Nat.le_refl _) _).alloc (by simp) _))
 have H1:=hid (Make_any (h1.below HB.out) (hT.belows HB.out) neg e he0 he1);have hl:=mkS_len neg (val xs) e;obtain ⟨o,ho⟩:∃ o,mkS neg (val xs) e=o:=⟨_,rfl⟩;rw [ho] at H1 hl ⊢;unfold DAns at H1 ⊢;obtain ⟨dn,hdn⟩:∃ d,dN o=d:=⟨_,rfl⟩;obtain ⟨X,hdx⟩:∃ d,dX o=d:=⟨_,rfl⟩;obtain ⟨de,hde⟩:∃ d,dE o=d:=⟨_,rfl⟩;obtain ⟨er,her⟩:∃ d,erS o=d:=⟨_,rfl⟩;rw [hdn,hdx,hde,her] at H1 ⊢;rw [hdx] at hl;clear h1 ho hdn hdx hde her hT he0 he1;go_enter Tryz.func58,Tryz.ntmps58
 go_wp2_with fail
 refine H1.out.mono ?_;rintro r w2 ⟨⟨v,rfl,hN⟩,hb⟩;obtain ⟨a2,c2,rfl,_⟩:=hN.arg (by omega)
 obtain ⟨hc,hf⟩:=bcell hb;have HF:=qsd (Fin.of 2 HB.out (by simp) hN hb)
 have hz:w.heap.size+1<w2.heap.size:=by have:=hb.size;simp at this;omega
 clear hN hb;go_wp2;exact bodyPost_ret (v:=.tuple #[.agg #[.bool dn,.slice a2 (ws X).length c2,.int .i64 de],.int .i64 er]) (by simp [results,Tryz.results58,go_sem,hc]) rfl (Fin.dans (m:=w.heap.size+2) (by repeat (first | exact HF.out | refine Fin.alloc ?_ _ | refine Fin.set ?_ _ _ _ (by omega) (by omega))) (by omega))
def DVal (lo:Nat) (w:World) (r:Ending) (o:Option (Bool×Nat×Int)):Prop :=
 ∃ v,r=.returned (.agg #[.bool (dN o),v,.int .i64 (dE o)])∧Nt lo w v (dX o)
theorem Fin.dval {lo m:Nat}{w0 w:World}{n:Bool}{v:Value}{X:Nat}{e:Int}(H:Fin lo m w0 w v X) (h:lo≤m) :
 (∃ v',Ending.returned (.agg #[.bool n,v,.int .i64 e])=.returned (.agg #[.bool n,v',.int .i64 e])∧Nt lo w v' X)∧Below lo w0 w:=⟨⟨v,rfl,H.nt.mono h⟩,H.bel⟩
theorem turned_any (a:Option Addr) (n c:Nat) (neg:Bool) (e:Int) (w:World) :
 Calls Tryz.prog 38 #[.agg #[.bool neg,.slice a n c,.int .i64 e]] w fun r w'=>r=.returned (.agg #[.bool (!neg),.slice a n c,.int .i64 e])∧Below w.heap.size w w':=by
 go_enter Tryz.func38,Tryz.ntmps38;go_wp2;exact bodyPost_ret (v:=.agg #[.bool (!neg),.slice a n c,.int .i64 e]) (by simp [results,Tryz.results38,go_sem]) rfl ⟨rfl,by repeat (first | exact Below.refl _ _ | refine Below.alloc ?_ (by first | omega | simp) _ | refine Below.setC ?_ _ _ _ (by omega) (by simp))⟩
end
namespace B
open Go.RowKit
attribute [local go_sem] f64bits f64frombits
theorem eqParts (a c:Bool) (k l x y f g:Int) (w:World):(Op.equalIn 10000 62 (.agg #[.bool a,.int .i64 k,.int .i64 x,.int .u64 f]) (.agg #[.bool c,.int .i64 l,.int .i64 y,.int .u64 g])).run Tryz.prog w=.ok (a==c&&(k==l&&(x==y&&f==g))) w:=by
 have u3:=Tryz.underlying3;have u4:=Tryz.underlying4;have u23:=Tryz.underlying59;have hS:Tryz.prog.underlying 62=some (.struct (Tryz.prog.fieldsOf 62)):=by kernel_rfl
 have hp:Tryz.prog.stoodInHeld 62=false:=by kernel_rfl
 rw [show (10000:Nat)=9999+1 from rfl,run_equalIn_agg w 9999 62 _ _ hS hp]
 simp only [Program.fieldsOf,Tryz.underlying62]
 go_simp
 by_cases h1:a=c <;> by_cases h2:k=l <;> by_cases h3:x=y <;> by_cases h4:f=g <;> simp [h1,h2,h3,h4]
attribute [local go_sem] eqParts
theorem fld0 (a:Bool) (k x f:Int) (w:World):(Instr.field 62 (.agg #[.bool a,.int .i64 k,.int .i64 x,.int .u64 f]) 0).run Tryz.prog w=.ok (.bool a) w:=by kernel_rfl
theorem fld1 (a:Bool) (k x f:Int) (w:World):(Instr.field 62 (.agg #[.bool a,.int .i64 k,.int .i64 x,.int .u64 f]) 1).run Tryz.prog w=.ok (.int .i64 k) w:=by kernel_rfl
theorem fld2 (a:Bool) (k x f:Int) (w:World):(Instr.field 62 (.agg #[.bool a,.int .i64 k,.int .i64 x,.int .u64 f]) 2).run Tryz.prog w=.ok (.int .i64 x) w:=by kernel_rfl
theorem fld3 (a:Bool) (k x f:Int) (w:World):(Instr.field 62 (.agg #[.bool a,.int .i64 k,.int .i64 x,.int .u64 f]) 3).run Tryz.prog w=.ok (.int .u64 f) w:=by kernel_rfl
attribute [local go_sem] fld0 fld1 fld2 fld3
end B
namespace B
open Go.RowKit
attribute [local go_sem] f64bits f64frombits
theorem abs_any (s:Bool) (e f:Nat) (he:e<2048) (hf:f<4503599627370496) (w:World) :
 Calls Tryz.prog 33 #[.float .f64 (bw s e f)] w fun r w'=>r=.returned (.float .f64 (bw false e f))∧w'=w:=by
 have h1:=abs_bw s e f he hf;go_enter Tryz.func33,Tryz.ntmps33;go_wp2;go_ret;exact ⟨rfl,rfl⟩
end B
section
open Go.RowKit
attribute [local go_sem] B.eqParts B.fld0 B.fld1 B.fld2 B.fld3
def ofR (s:Bool) (e f:Nat):Option (Bool×Nat×Int):=if e=2047 then none else mkS s (if e=0 then f else f+4503599627370496) (if e=0 then -1074 else (e:Int)-1075)
def ofE (e:Nat):Int:=if e=2047 then 30 else 0
def OAns (lo:Nat) (w:World) (r:Ending) (o:Option (Bool×Nat×Int)) (er:Int):Prop :=
 ∃ v,r=.returned (.tuple #[.agg #[.bool (dN o),v,.int .i64 (dE o)],.int .i64 er])∧Nt lo w v (dX o)
theorem bl_le53 (X:Nat) (h:X<9007199254740992):bl X≤53:=by
 by_cases h0:X=0
 · subst h0;rw [bl_zero];omega
 · have:=(Nat.pow_lt_pow_iff_right (a:=2) (by omega)).1 (Nat.lt_of_le_of_lt (bl_ge X h0) (show X<2^53 from h))
   omega
theorem of_some (s:Bool) (X:Nat) (x:Int) (hX:X<9007199254740992) (h0:-1100≤x) (h1:x≤1000):∃ d,mkS s X x=some d:=by
 unfold mkS
 by_cases h:X=0
 · rw [if_pos h];exact ⟨_,rfl⟩
 · rw [if_neg h]
   obtain ⟨m,_,_,hb⟩:=odd_part X h;have:=bl_le53 X hX;rw [if_neg (by omega)]
   exact ⟨_,rfl⟩
theorem of_core (s:Bool) (b:Nat) (F:Nat) (k x:Int) (w:World) (hT:Tab w) (hF:F<9007199254740992) (hx0:-1100≤x) (hx1:x≤1000)
 (HA:Hid (∀ u,Calls Tryz.prog 33 #[.float .f64 b] u fun r w'=>r=.returned (.float .f64 (b%9223372036854775808))∧w'=u))
 (HS:Hid (∀ u,Calls Tryz.prog 32 #[.float .f64 (b%9223372036854775808)] u fun r w'=>r=.returned (.agg #[.bool false,.int .i64 k,.int .i64 x,.int .u64 (F:Nat)])∧Below u.heap.size u w'))
 (H0:Hid (∀ u,Calls Tryz.prog 32 #[.float .f64 0] u fun r w'=>r=.returned (.agg #[.bool false,.int .i64 0,.int .i64 (-1074),.int .u64 0])∧Below u.heap.size u w'))
 (hlt:(FloatKind.f64.format.order b 0==some .lt)=s) (k0:(k==0)=false) (k3:(k==3)=false) (k4:(k==4)=false) :
 Calls Tryz.prog 16 #[.float .f64 b] w fun r w'=>DAns w.heap.size w' r (mkS s F x)∧Below w.heap.size w w':=by
 generalize hb2:b%9223372036854775808=b2 at *;clear hb2;have HO:Hid (∀ u,Calls Tryz.prog 35 #[.int .u64 (F:Nat)] u fun r w'=>∃ v,r=.returned v∧Nt u.heap.size w' v F∧Below u.heap.size u w'):=fun u=>of_any F u (by omega)
 have HM:Hid (∀ (u:World) (a:Option Addr) (c:Nat),Tab u→Arg u a (ws F).length c (ws F)→Calls Tryz.prog 34 #[.bool s,.slice a (ws F).length c,.int .i64 x] u fun r w'=>DAns u.heap.size w' r (mkS s F x)∧Below u.heap.size u w'):=by
  intro u a c hTu hA;have:=Make_any hA hTu s x (by omega) (by omega)
  rw [val_ws] at this;exact this
 have hFl:(ws F).length≤100:=by have:=ws_len_bl F;have:=bl_le53 F hF;omega
 have hl:=mkS_len s F x;obtain ⟨o,ho⟩:∃ o,mkS s F x=o:=⟨_,rfl⟩;rw [ho] at HM hl ⊢;unfold DAns at HM ⊢;obtain ⟨dn,hdn⟩:∃ d,dN o=d:=⟨_,rfl⟩;obtain ⟨X,hdx⟩:∃ d,dX o=d:=⟨_,rfl⟩;obtain ⟨de,hde⟩:∃ d,dE o=d:=⟨_,rfl⟩;obtain ⟨er,her⟩:∃ d,erS o=d:=⟨_,rfl⟩;rw [hdn,hdx,hde,her] at HM ⊢;rw [hdx] at hl;have HT:=qsd hT;clear ho hdn hdx hde her hT hF hx0 hx1;go_enter Tryz.func16,Tryz.ntmps16
 go_wp2_with fail
 refine (Calls.mono (HA.out _)) ?_;rintro r w1 ⟨rfl,rfl⟩
 go_wp2_with fail
 refine (Calls.mono (HS.out _)) ?_;rintro r w2 ⟨rfl,hb⟩;obtain ⟨hc,hf⟩:=bcell hb;have hz:w.heap.size<w2.heap.size:=by have:=hb.size;simp at this;omega
 have hbw:Below w.heap.size w w2:=((Below.refl _ _).alloc (Nat.le_refl _) _).trans (hb.mono (by simp))
 have SB:=qsd hbw;clear hb hbw;obtain ⟨W2,hW2⟩:∃ W,W=w2.alloc (.cells #[.bool false,.int .i64 k,.int .i64 x,.int .u64 (F:Nat)] 62):=⟨_,rfl⟩;have hbW:Below w.heap.size w W2:=by rw [hW2];exact SB.out.alloc (by omega) _
 have P:W2.heap[w2.heap.size]?=some (.cells #[.bool false,.int .i64 k,.int .i64 x,.int .u64 (F:Nat)] 62 (0,0)):=by rw [hW2,heap_alloc_new]
 have p0:W2.cell? ⟨w2.heap.size,0,none⟩=some (.bool false):=by simp [World.cell?,P]
 have p1:W2.cell? ⟨w2.heap.size,1,none⟩=some (.int .i64 k):=by simp [World.cell?,P]
 have p2:W2.cell? ⟨w2.heap.size,2,none⟩=some (.int .i64 x):=by simp [World.cell?,P]
 have p3:W2.cell? ⟨w2.heap.size,3,none⟩=some (.int .u64 (F:Nat)):=by simp [World.cell?,P]
 have r0:W2.cell? ⟨w.heap.size,0,none⟩=some (.bool false):=by rw [hW2];go_simp
 have r1:W2.cell? ⟨w.heap.size,1,none⟩=some (.slice none 0 0):=by rw [hW2];go_simp
 have r2:W2.cell? ⟨w.heap.size,2,none⟩=some (.int .i64 0):=by rw [hW2];go_simp
 have f0:W2.frozen? ⟨w.heap.size,0,none⟩=false:=by rw [hW2];go_simp
 have f1:W2.frozen? ⟨w.heap.size,1,none⟩=false:=by rw [hW2];go_simp
 have f2:W2.frozen? ⟨w.heap.size,2,none⟩=false:=by rw [hW2];go_simp
 have hz2:w2.heap.size<W2.heap.size:=by rw [hW2];simp
 have hz3:w.heap.size<W2.heap.size:=by omega
 have SW:=qsd hbW
 go_wp2_with fail
 rw [←hW2];clear hW2 hbW P hc hf SB
 go_region_with (go_at_call 32;refine (H0.out _).mono ?_;rintro r w3 ⟨rfl,hb3⟩;have hb4:Below W2.heap.size W2 w3:=(by first | exact hb3 | exact ((Below.refl _ W2).drew).trans (hb3.mono (Nat.le_refl _)));obtain ⟨hc,hf⟩:=bcell hb4;have S3:=qsd hb4;clear hb3 hb4)
 all_goals (
  go_wp2_with fail
  have hz4:w2.heap.size<w3.heap.size:=by have:=S3.out.size;omega
  have hz5:w.heap.size<w3.heap.size:=by have:=S3.out.size;omega
  go_region_with (first
   | (go_at_call 35
      refine (HO.out _).mono ?_;rintro r w4 ⟨v4,rfl,hN,hb⟩;obtain ⟨a4,c4,rfl,A4⟩:=hN.arg (by omega)
      have hb34:Below w3.heap.size w3 w4:=(by first | exact hb | exact ((Below.refl _ w3).drew).trans (hb.mono (Nat.le_refl _)))
      have T4:Tab w4:=(HT.out.belows SW.out).belows (S3.out.trans (hb34.mono S3.out.size));obtain ⟨hc4,hf4⟩:=bcell hb34;have hz6:w.heap.size<w4.heap.size:=by have:=hb34.size;omega
      have S4:=(qsd (ai hb34 (ai A4 T4)));clear hN hb hb34 A4 T4)
   | (go_at_call 34
      refine (HM.out _ a4 c4 (by first | exact S4.out.2.2 | exact S4.out.2.2) (by first | exact S4.out.2.1 | exact Arg.drew' S4.out.2.1)).mono ?_
      rintro r w5 ⟨⟨v5,rfl,hN⟩,hb⟩;obtain ⟨a5,c5,rfl,_⟩:=hN.arg (by omega)
      have hb45:Below w4.heap.size w4 w5:=(by first | exact hb | exact ((Below.refl _ w4).drew).trans (hb.mono (Nat.le_refl _)))
      obtain ⟨hc5,hf5⟩:=bcell hb45;have HF:=qsd (show Fin w.heap.size w4.heap.size w w5 (.slice a5 (ws X).length c5) X from ⟨hN,((SW.out.trans (S3.out.mono (by omega))).trans (S4.out.1.mono (by omega))).trans (hb45.mono (by omega)),by have:=hb45.size;omega⟩)
      clear hN hb hb45))
  all_goals (
   go_wp2;exact bodyPost_ret (v:=.tuple #[.agg #[.bool dn,.slice a5 (ws X).length c5,.int .i64 de],.int .i64 er]) (by simp [results,Tryz.results16,go_sem,hc5,hc4,hc,hz6,hz5,hz3,r0,r1,r2]) rfl (Fin.dans (m:=w4.heap.size) (by repeat (first | exact HF.out | refine Fin.alloc ?_ _ | refine Fin.set ?_ _ _ _ (by omega) (by omega))) (by omega))))
theorem of_nought (b b2:Nat) (w:World)
 (HA:Hid (∀ u,Calls Tryz.prog 33 #[.float .f64 b] u fun r w'=>r=.returned (.float .f64 b2)∧w'=u))
 (HS:Hid (∀ u,Calls Tryz.prog 32 #[.float .f64 b2] u fun r w'=>r=.returned (.agg #[.bool false,.int .i64 0,.int .i64 (-1074),.int .u64 0])∧Below u.heap.size u w'))
 (H0:Hid (∀ u,Calls Tryz.prog 32 #[.float .f64 0] u fun r w'=>r=.returned (.agg #[.bool false,.int .i64 0,.int .i64 (-1074),.int .u64 0])∧Below u.heap.size u w')) :
 Calls Tryz.prog 16 #[.float .f64 b] w fun r w'=>r=.returned (.tuple #[.agg #[.bool false,.slice none 0 0,.int .i64 0],.int .i64 0])∧Below w.heap.size w w':=by
 go_enter Tryz.func16,Tryz.ntmps16
 go_wp2_with fail
 refine (Calls.mono (HA.out _)) ?_;rintro r w1 ⟨rfl,rfl⟩
 go_wp2_with fail
 refine (Calls.mono (HS.out _)) ?_;rintro r w2 ⟨rfl,hb⟩;obtain ⟨hc,hf⟩:=bcell hb;have hz:w.heap.size<w2.heap.size:=by have:=hb.size;simp at this;omega
 have hbw:Below w.heap.size w w2:=((Below.refl _ _).alloc (Nat.le_refl _) _).trans (hb.mono (by simp))
 have SB:=qsd hbw;clear hb hbw;obtain ⟨W2,hW2⟩:∃ W,W=w2.alloc (.cells #[.bool false,.int .i64 0,.int .i64 (-1074),.int .u64 0] 62):=⟨_,rfl⟩;have hbW:Below w.heap.size w W2:=by rw [hW2];exact SB.out.alloc (by omega) _
 have P:W2.heap[w2.heap.size]?=some (.cells #[.bool false,.int .i64 0,.int .i64 (-1074),.int .u64 0] 62 (0,0)):=by rw [hW2,heap_alloc_new]
 have p0:W2.cell? ⟨w2.heap.size,0,none⟩=some (.bool false):=by simp [World.cell?,P]
 have p1:W2.cell? ⟨w2.heap.size,1,none⟩=some (.int .i64 0):=by simp [World.cell?,P]
 have p2:W2.cell? ⟨w2.heap.size,2,none⟩=some (.int .i64 (-1074)):=by simp [World.cell?,P]
 have p3:W2.cell? ⟨w2.heap.size,3,none⟩=some (.int .u64 0):=by simp [World.cell?,P]
 have r0:W2.cell? ⟨w.heap.size,0,none⟩=some (.bool false):=by rw [hW2];go_simp
 have r1:W2.cell? ⟨w.heap.size,1,none⟩=some (.slice none 0 0):=by rw [hW2];go_simp
 have r2:W2.cell? ⟨w.heap.size,2,none⟩=some (.int .i64 0):=by rw [hW2];go_simp
 have f0:W2.frozen? ⟨w.heap.size,0,none⟩=false:=by rw [hW2];go_simp
 have f1:W2.frozen? ⟨w.heap.size,1,none⟩=false:=by rw [hW2];go_simp
 have f2:W2.frozen? ⟨w.heap.size,2,none⟩=false:=by rw [hW2];go_simp
 have hz2:w2.heap.size<W2.heap.size:=by rw [hW2];simp
 have hz3:w.heap.size<W2.heap.size:=by omega
 have SW:=qsd hbW
 go_wp2_with fail
 rw [←hW2];clear hW2 hbW P hc hf SB
 go_region_with (go_at_call 32;refine (H0.out _).mono ?_;rintro r w3 ⟨rfl,hb3⟩;have hb4:Below W2.heap.size W2 w3:=(by first | exact hb3 | exact ((Below.refl _ W2).drew).trans (hb3.mono (Nat.le_refl _)));obtain ⟨hc,hf⟩:=bcell hb4;have S3:=qsd hb4;clear hb3 hb4)
 all_goals (
  go_wp2;have hbf:=SW.out.trans (S3.out.mono (by omega))
  have hzf:w.heap.size≤w3.heap.size:=by have:=S3.out.size;omega
  exact bodyPost_ret (v:=.tuple #[.agg #[.bool false,.slice none 0 0,.int .i64 0],.int .i64 0]) (by simp [results,Tryz.results16,go_sem,hc,hz3,r0,r1,r2]) rfl ⟨rfl,Below.setC (Below.setC (Below.setC hbf _ _ _ (Nat.le_refl _) hzf) _ _ _ (Nat.le_refl _) (by simpa [World.setCell] using hzf)) _ _ _ (Nat.le_refl _) (by simpa [World.setCell] using hzf)⟩)
theorem of_wild (b b2:Nat) (k:Int) (w:World) (hk:k=3∨k=4)
 (HA:Hid (∀ u,Calls Tryz.prog 33 #[.float .f64 b] u fun r w'=>r=.returned (.float .f64 b2)∧w'=u))
 (HS:Hid (∀ u,Calls Tryz.prog 32 #[.float .f64 b2] u fun r w'=>r=.returned (.agg #[.bool false,.int .i64 k,.int .i64 0,.int .u64 0])∧Below u.heap.size u w'))
 (H0:Hid (∀ u,Calls Tryz.prog 32 #[.float .f64 0] u fun r w'=>r=.returned (.agg #[.bool false,.int .i64 0,.int .i64 (-1074),.int .u64 0])∧Below u.heap.size u w')) :
 Calls Tryz.prog 16 #[.float .f64 b] w fun r w'=>r=.returned (.tuple #[.agg #[.bool false,.slice none 0 0,.int .i64 0],.int .i64 30])∧Below w.heap.size w w':=by
 have k0:(k==0)=false:=by rcases hk with rfl | rfl <;> rfl
 go_enter Tryz.func16,Tryz.ntmps16
 go_wp2_with fail
 refine (Calls.mono (HA.out _)) ?_;rintro r w1 ⟨rfl,rfl⟩
 go_wp2_with fail
 refine (Calls.mono (HS.out _)) ?_;rintro r w2 ⟨rfl,hb⟩;obtain ⟨hc,hf⟩:=bcell hb;have hz:w.heap.size<w2.heap.size:=by have:=hb.size;simp at this;omega
 have hbw:Below w.heap.size w w2:=((Below.refl _ _).alloc (Nat.le_refl _) _).trans (hb.mono (by simp))
 have SB:=qsd hbw;clear hb hbw;obtain ⟨W2,hW2⟩:∃ W,W=w2.alloc (.cells #[.bool false,.int .i64 k,.int .i64 0,.int .u64 0] 62):=⟨_,rfl⟩;have hbW:Below w.heap.size w W2:=by rw [hW2];exact SB.out.alloc (by omega) _
 have P:W2.heap[w2.heap.size]?=some (.cells #[.bool false,.int .i64 k,.int .i64 0,.int .u64 0] 62 (0,0)):=by rw [hW2,heap_alloc_new]
 have p0:W2.cell? ⟨w2.heap.size,0,none⟩=some (.bool false):=by simp [World.cell?,P]
 have p1:W2.cell? ⟨w2.heap.size,1,none⟩=some (.int .i64 k):=by simp [World.cell?,P]
 have p2:W2.cell? ⟨w2.heap.size,2,none⟩=some (.int .i64 0):=by simp [World.cell?,P]
 have p3:W2.cell? ⟨w2.heap.size,3,none⟩=some (.int .u64 0):=by simp [World.cell?,P]
 have r0:W2.cell? ⟨w.heap.size,0,none⟩=some (.bool false):=by rw [hW2];go_simp
 have r1:W2.cell? ⟨w.heap.size,1,none⟩=some (.slice none 0 0):=by rw [hW2];go_simp
 have r2:W2.cell? ⟨w.heap.size,2,none⟩=some (.int .i64 0):=by rw [hW2];go_simp
 have f0:W2.frozen? ⟨w.heap.size,0,none⟩=false:=by rw [hW2];go_simp
 have f1:W2.frozen? ⟨w.heap.size,1,none⟩=false:=by rw [hW2];go_simp
 have f2:W2.frozen? ⟨w.heap.size,2,none⟩=false:=by rw [hW2];go_simp
 have hz2:w2.heap.size<W2.heap.size:=by rw [hW2];simp
 have hz3:w.heap.size<W2.heap.size:=by omega
 have SW:=qsd hbW
 go_wp2_with fail
 rw [←hW2];clear hW2 hbW P hc hf SB
 go_region_with (go_at_call 32;refine (H0.out _).mono ?_;rintro r w3 ⟨rfl,hb3⟩;have hb4:Below W2.heap.size W2 w3:=(by first | exact hb3 | exact ((Below.refl _ W2).drew).trans (hb3.mono (Nat.le_refl _)));obtain ⟨hc,hf⟩:=bcell hb4;have S3:=qsd hb4;clear hb3 hb4)
 all_goals (
  have hbf:=qsd (SW.out.trans (S3.out.mono (by omega)))
  have hzf:w.heap.size≤w3.heap.size:=by have:=S3.out.size;omega
  rcases hk with rfl|rfl
  all_goals (
   go_wp2;exact bodyPost_ret (v:=.tuple #[.agg #[.bool false,.slice none 0 0,.int .i64 0],.int .i64 30]) (by simp [results,Tryz.results16,go_sem,hc,hz3,r0,r1,r2]) rfl ⟨rfl,Below.setC (Below.setC (Below.setC hbf.out _ _ _ (Nat.le_refl _) hzf) _ _ _ (Nat.le_refl _) (by simpa [World.setCell] using hzf)) _ _ _ (Nat.le_refl _) (by simpa [World.setCell] using hzf)⟩))
theorem Of_any (s:Bool) (e f:Nat) (he:e<2048) (hf:f<4503599627370496) (w:World) (hT:Tab w) :
 Calls Tryz.prog 16 #[.float .f64 (B.bw s e f)] w fun r w'=>OAns w.heap.size w' r (ofR s e f) (ofE e)∧Below w.heap.size w w':=by
 have HA:Hid (∀ u,Calls Tryz.prog 33 #[.float .f64 (B.bw s e f)] u fun r w'=>r=.returned (.float .f64 (B.bw false e f))∧w'=u):=fun u=>B.abs_any s e f he hf u
 have HS:∀ u,Calls Tryz.prog 32 #[.float .f64 (B.bw false e f)] u fun r w'=>r=.returned (.agg #[.bool (B.ng false e f),.int .i64 (B.cls e f),.int .i64 (B.xp e),.int .u64 (B.fr e f)])∧Below u.heap.size u w':=fun u=>B.Split_any false e f he hf u
 have H0:Hid (∀ u,Calls Tryz.prog 32 #[.float .f64 0] u fun r w'=>r=.returned (.agg #[.bool false,.int .i64 0,.int .i64 (-1074),.int .u64 0])∧Below u.heap.size u w'):=fun u=>B.Split_any false 0 0 (by omega) (by omega) u
 have hng:B.ng false e f=false:=by unfold B.ng;split <;> rfl
 rw [hng] at HS;unfold ofR ofE
 by_cases h7:e=2047
 · rw [if_pos h7,if_pos h7]
   have h2:B.xp e=0∧B.fr e f=0:=by unfold B.xp B.fr;rw [if_pos h7,if_pos h7];exact ⟨rfl,rfl⟩
   rw [h2.1,h2.2] at HS;have hk:B.cls e f=3∨B.cls e f=4:=by unfold B.cls;rw [if_pos h7];split <;> simp
   exact (of_wild _ _ _ w hk HA (hid HS) H0).mono fun r w' ⟨h1,h3⟩=>⟨⟨_,h1,Nt.nil _ _⟩,h3⟩
 · rw [if_neg h7,if_neg h7]
   have hx:B.xp e=(if e=0 then -1074 else (e:Int)-1075):=by unfold B.xp;rw [if_neg h7]
   have hfr:B.fr e f=(((if e=0 then f else f+4503599627370496:Nat)):Int):=by unfold B.fr;rw [if_neg h7];split <;> simp
   rw [hx,hfr] at HS
   by_cases h0:e=0∧f=0
   · obtain ⟨rfl,rfl⟩:=h0
     rw [show B.cls 0 0=0 from rfl] at HS
     simp only [if_pos,Int.ofNat_zero] at HS;rw [if_pos rfl,mkS_zero];exact (of_nought _ _ w HA (hid HS) H0).mono fun r w' ⟨h1,h3⟩=>⟨⟨_,h1,Nt.nil _ _⟩,h3⟩
   · have hcl:B.cls e f=1∨B.cls e f=2:=by
      unfold B.cls;rw [if_neg h7]
      by_cases h1:e=0
      · rw [if_pos h1,if_neg (fun h=>h0 ⟨h1,h⟩)];simp
      · rw [if_neg h1];simp
     obtain ⟨F,hF⟩:∃ F:Nat,(if e=0 then f else f+4503599627370496:Nat)=F:=⟨_,rfl⟩
     obtain ⟨x,hxx⟩:∃ x:Int,(if e=0 then -1074 else (e:Int)-1075)=x:=⟨_,rfl⟩
     have hFb:F<9007199254740992:=by rw [←hF];split <;> omega
     have hxb:-1100≤x∧x≤1000:=by rw [←hxx];split <;> omega
     rw [hF,hxx] at HS ⊢;have ho:B.odd e f=false:=by unfold B.odd;simp [h7]
     have hz:(e==0&&f==0)=false:=by
      cases h1:(e==0&&f==0)
      · rfl
      · exact absurd (by simpa using h1) h0
     have hb2:B.bw false e f=B.bw s e f%9223372036854775808:=by
      have h1:=B.bw_mod s e f he hf;have h2:(B.bw false e f:Int)=(e:Int)*4503599627370496+f:=by unfold B.bw;simp
      omega
     rw [hb2] at HA HS;obtain ⟨d,hd⟩:=of_some s F x hFb hxb.1 hxb.2;have:=of_core s (B.bw s e f) F (B.cls e f) x w hT hFb hxb.1 hxb.2 HA (hid HS) H0 (B.lt_zero s e f he hf ho hz) (by rcases hcl with h | h <;> rw [h] <;> rfl) (by rcases hcl with h | h <;> rw [h] <;> rfl) (by rcases hcl with h | h <;> rw [h] <;> rfl)
     refine this.mono fun r w' ⟨⟨v,h1,h2⟩,h3⟩=>⟨⟨v,?_,h2⟩,h3⟩
     rw [h1,hd];rfl
end
section
open Go.RowKit
theorem Int_core_neg (n:Int) (m:Nat) (X:Nat) (dn:Bool) (de:Int) (er:Int) (w:World) (h0:n<0) (h1:-9223372036854775808≤n) (hm:(ws m).length≤100) (hl:(ws X).length≤8192) (e1:IntKind.u64.wrap (-IntKind.u64.wrap n)=(m:Int))
 (HO:Hid (∀ u,Calls Tryz.prog 35 #[.int .u64 (m:Int)] u fun r w'=>∃ v,r=.returned v∧Nt u.heap.size w' v m∧Below u.heap.size u w'))
 (HM:Hid (∀ (u:World) (a:Option Addr) (c:Nat),Below w.heap.size w u→Arg u a (ws m).length c (ws m)→Calls Tryz.prog 34 #[.bool true,.slice a (ws m).length c,.int .i64 0] u fun r w'=>(∃ v,r=.returned (.tuple #[.agg #[.bool dn,v,.int .i64 de],.int .i64 er])∧Nt u.heap.size w' v X)∧Below u.heap.size u w')) :
 Calls Tryz.prog 45 #[.int .i64 n] w fun r w'=>(∃ v,r=.returned (.agg #[.bool dn,v,.int .i64 de])∧Nt w.heap.size w' v X)∧Below w.heap.size w w':=by
 go_enter Tryz.func45,Tryz.ntmps45
 go_wp2_with fail
 try rw [e1]
 refine (Calls.mono (HO.out _)) ?_;rintro r w1 ⟨v,rfl,hN,hb⟩;obtain ⟨a1,c1,rfl,A1⟩:=hN.arg (by omega)
 have hz:w.heap.size<w1.heap.size:=by have:=hb.size;simp at this;omega
 have hbw:Below w.heap.size w w1:=(below_alloc w (.cells #[.bool false,.slice none 0 0,.int .i64 0] 42)).trans (hb.mono (by simp))
 have S1:=qsd hbw;have H2:=hid (HM.out w1 a1 c1 hbw A1);obtain ⟨hc,hf⟩:=bcell hb;clear hN hb A1 hbw
 go_wp2_with fail
 refine H2.out.mono ?_;rintro r w2 ⟨⟨v,rfl,hN⟩,hb2⟩;obtain ⟨a2,c2,rfl,_⟩:=hN.arg (by omega)
 obtain ⟨hc2,hf2⟩:=bcell hb2;have hz2:w.heap.size<w2.heap.size:=by have:=hb2.size;omega
 have HF:=qsd (show Fin w.heap.size w1.heap.size w w2 (.slice a2 (ws X).length c2) X from ⟨hN,S1.out.trans (hb2.mono (by omega)),by omega⟩)
 clear hN hb2;go_wp2;exact bodyPost_ret (v:=.agg #[.bool dn,.slice a2 (ws X).length c2,.int .i64 de]) (by simp [results,Tryz.results45,go_sem,hc,hc2,hz,hz2]) rfl (Fin.dval (m:=w1.heap.size) (by repeat (first | exact HF.out | refine Fin.alloc ?_ _ | refine Fin.set ?_ _ _ _ (by omega) (by omega))) (by omega))
theorem Int_core_pos (n:Int) (m:Nat) (X:Nat) (dn:Bool) (de:Int) (er:Int) (w:World) (h0:0≤n) (h1:n≤9223372036854775807) (hd:decide (n<0)=false) (hm:(ws m).length≤100) (hl:(ws X).length≤8192) (e1:IntKind.u64.wrap n=n)
 (HO:Hid (∀ u,Calls Tryz.prog 35 #[.int .u64 n] u fun r w'=>∃ v,r=.returned v∧Nt u.heap.size w' v m∧Below u.heap.size u w'))
 (HM:Hid (∀ (u:World) (a:Option Addr) (c:Nat),Below w.heap.size w u→Arg u a (ws m).length c (ws m)→Calls Tryz.prog 34 #[.bool false,.slice a (ws m).length c,.int .i64 0] u fun r w'=>(∃ v,r=.returned (.tuple #[.agg #[.bool dn,v,.int .i64 de],.int .i64 er])∧Nt u.heap.size w' v X)∧Below u.heap.size u w')) :
 Calls Tryz.prog 45 #[.int .i64 n] w fun r w'=>(∃ v,r=.returned (.agg #[.bool dn,v,.int .i64 de])∧Nt w.heap.size w' v X)∧Below w.heap.size w w':=by
 go_enter Tryz.func45,Tryz.ntmps45
 go_wp2_with fail
 try rw [e1]
 refine (Calls.mono (HO.out _)) ?_;rintro r w1 ⟨v,rfl,hN,hb⟩;obtain ⟨a1,c1,rfl,A1⟩:=hN.arg (by omega)
 have hz:w.heap.size<w1.heap.size:=by have:=hb.size;simp at this;omega
 have hbw:Below w.heap.size w w1:=(below_alloc w (.cells #[.bool false,.slice none 0 0,.int .i64 0] 42)).trans (hb.mono (by simp))
 have S1:=qsd hbw;have H2:=hid (HM.out w1 a1 c1 hbw A1);obtain ⟨hc,hf⟩:=bcell hb;clear hN hb A1 hbw
 go_wp2_with fail
 refine H2.out.mono ?_;rintro r w2 ⟨⟨v,rfl,hN⟩,hb2⟩;obtain ⟨a2,c2,rfl,_⟩:=hN.arg (by omega)
 obtain ⟨hc2,hf2⟩:=bcell hb2;have hz2:w.heap.size<w2.heap.size:=by have:=hb2.size;omega
 have HF:=qsd (show Fin w.heap.size w1.heap.size w w2 (.slice a2 (ws X).length c2) X from ⟨hN,S1.out.trans (hb2.mono (by omega)),by omega⟩)
 clear hN hb2;go_wp2;exact bodyPost_ret (v:=.agg #[.bool dn,.slice a2 (ws X).length c2,.int .i64 de]) (by simp [results,Tryz.results45,go_sem,hc,hc2,hz,hz2]) rfl (Fin.dval (m:=w1.heap.size) (by repeat (first | exact HF.out | refine Fin.alloc ?_ _ | refine Fin.set ?_ _ _ _ (by omega) (by omega))) (by omega))
theorem natAbs_len (n:Int) (h0:-9223372036854775808≤n) (h1:n≤9223372036854775807):(ws n.natAbs).length≤100:=by
 have:=(ws_len_le n.natAbs 2).2 (by rw [show pw 2=18446744073709551616 from rfl];omega)
 omega
theorem Int_any (n:Int) (w:World) (hT:Tab w) (h0:-9223372036854775808≤n) (h1:n≤9223372036854775807) :
 Calls Tryz.prog 45 #[.int .i64 n] w fun r w'=>DVal w.heap.size w' r (mkS (decide (n<0)) n.natAbs 0)∧Below w.heap.size w w':=by
 have hl:=natAbs_len n h0 h1
 have HM:∀ (s:Bool) (u:World) (a:Option Addr) (c:Nat),Below w.heap.size w u→Arg u a (ws n.natAbs).length c (ws n.natAbs)→Calls Tryz.prog 34 #[.bool s,.slice a (ws n.natAbs).length c,.int .i64 0] u fun r w'=>DAns u.heap.size w' r (mkS s n.natAbs 0)∧Below u.heap.size u w':=by
  intro s u a c hu hA;have:=Make_any hA (hT.belows hu) s 0 (by omega) (by omega)
  rw [val_ws] at this;exact this
 by_cases hn:n<0
 · rw [decide_eq_true hn]
   exact Int_core_neg n n.natAbs _ _ _ _ w hn h0 hl (mkS_len _ _ _) (by simp [IntKind.wrap,IntKind.bits,IntKind.signed];omega) (hid fun u=>of_any _ u (by omega)) (hid (HM true))
 · rw [decide_eq_false hn]
   have e:((n.natAbs:Nat):Int)=n:=by omega
   exact Int_core_pos n n.natAbs _ _ _ _ w (by omega) h1 (decide_eq_false hn) hl (mkS_len _ _ _) (by simp [IntKind.wrap,IntKind.bits,IntKind.signed];omega) (hid fun u=>by have:=of_any n.natAbs u (by omega);rw [e] at this;exact this) (hid (HM false))
end
section
open Go.RowKit
theorem Nt.arg' {lo:Nat}{w:World}{a:Option Addr}{n c X:Nat}(h:Nt lo w (.slice a n c) X) (hs:(ws X).length≤35184372088832):n=(ws X).length∧Arg w a (ws X).length c (ws X):=by
 obtain ⟨a',c',e,A⟩:=h.arg hs
 cases e
 exact ⟨rfl,A⟩
end
end Go.Proofs.YtopgffjnejaijaaGreatDoor
