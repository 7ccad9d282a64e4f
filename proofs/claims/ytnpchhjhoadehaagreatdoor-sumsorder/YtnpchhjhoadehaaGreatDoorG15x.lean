import Derived.Test.YtnpchhjhoadehaaGreatDoorG7x
import Derived.Deep.LoopGhost
import Derived.Test.YtnpchhjhoadehaaGreatDoorD21x
import Derived.Test.YtnpchhjhoadehaaGreatDoorD16x
import Derived.Deep.Cut
import Derived.Deep.RegionHeld3
import Derived.Deep.RegionWith
import Derived.Deep.CutRange
import Derived.Test.YtnpchhjhoadehaaGreatDoorW26x
import Derived.BigQuiet
import Derived.Test.YtnpchhjhoadehaaGreatDoorM1x
import Derived.ProofKit
import Derived.OpenShut
import Derived.ChangeOld
import Derived.ChangeArms
import Derived.SizedLaws
import Derived.Laws.Cover2
import Derived.ArgAppend
import Derived.Maps.AppendAt
import Derived.Test.YtnpchhjhoadehaaGreatDoorS9x
import Derived.Test.YtnpchhjhoadehaaGreatDoorH12x
set_option linter.unusedVariables false
set_option linter.unusedSimpArgs false
set_option maxHeartbeats 16000000
set_option maxRecDepth 20000
namespace Go.Proofs.YtnpchhjhoadehaaGreatDoor
namespace J
end J
section
open Go Go.RowKit
theorem idx9_any (K:Nat→Int) (i:Nat) (hi:i<8) (w:World):(Instr.index 81 (.agg #[.int .i64 (K 0/4294967296),.int .i64 (K 0%4294967296),.int .i64 (K 1/4294967296),.int .i64 (K 1%4294967296),.int .i64 (K 2/4294967296),.int .i64 (K 2%4294967296),.int .i64 (K 3/4294967296),.int .i64 (K 3%4294967296),.int .i64 (K 4/4294967296),.int .i64 (K 4%4294967296),.int .i64 (K 5/4294967296),.int .i64 (K 5%4294967296),.int .i64 (K 6/4294967296),.int .i64 (K 6%4294967296),.int .i64 (K 7/4294967296),.int .i64 (K 7%4294967296)]) (.int .i64 (i:Nat))).run Tryz.prog w=.ok (.agg #[.int .i64 (K i/4294967296),.int .i64 (K i%4294967296)]) w:=by
 obtain rfl|rfl|rfl|rfl|rfl|rfl|rfl|rfl:i=0∨i=1∨i=2∨i=3∨i=4∨i=5∨i=6∨i=7:=by omega
 · exact idx9_0 ..
 · exact idx9_1 ..
 · exact idx9_2 ..
 · exact idx9_3 ..
 · exact idx9_4 ..
 · exact idx9_5 ..
 · exact idx9_6 ..
 · exact idx9_7 ..
theorem until_two {P:Program}{ops:Array Oper}{Q:Exit→Act→World→Prop}{md:Region.Mode}{S:World→Prop}{stop i j:Nat}{oi oj:Oper}{fuel:Nat}{listed:Array Bool}{a:Act}{w:World}(hr:Region.ready md ops listed=[i,j]) (hi:ops[i]?=some oi) (hj:ops[j]?=some oj)
 (h1:∀ K':Act→World→Prop,Shut (∀ b u,(i<stop→S u)→wpUntil P md ops Q S stop fuel (listed.setIfInBounds i true) b u→K' b u)→if Region.wanted oi (yielded ops a.tmps)=true then Oper.wp P oi a w K' Q else K' (a.put oi.dst undef) w)
 (h2:∀ K':Act→World→Prop,Shut (∀ b u,(j<stop→S u)→wpUntil P md ops Q S stop fuel (listed.setIfInBounds j true) b u→K' b u)→if Region.wanted oj (yielded ops a.tmps)=true then Oper.wp P oj a w K' Q else K' (a.put oj.dst undef) w):wpUntil P md ops Q S stop (fuel+1) listed a w :=
 ⟨fun h0=>(by rw [hr] at h0;cases h0),fun k hk=>by
  rw [hr] at hk
  rcases List.mem_cons.1 hk with rfl|hk
  · exact wpOp_step hi (fun K' hK=>h1 K' (fun b u q1 q2=>hK b u ⟨q1,q2⟩))
  · obtain rfl:=List.mem_singleton.1 hk
    exact wpOp_step hj (fun K' hK=>h2 K' (fun b u q1 q2=>hK b u ⟨q1,q2⟩))⟩
structure Ki (w:World) (T:Int) (K:Nat→Int) (i:Nat) (wr:World):Prop where
 res:Dk wr w.heap.size false (.slice none 0 0) 0
 sum:∃ v,Dk wr (w.heap.size+1) (dN (fo8 (kv T K i))) v (dE (fo8 (kv T K i)))∧Nt (w.heap.size+2) wr v (dX (fo8 (kv T K i)))
 bel:Below w.heap.size w wr
theorem Kept_core (g:Nat) (T:Int) (K:Nat→Int) (w:World) (hg:g<w.heap.size) (hT1:-1≤T∧T≤66) (hbig:∀ i,i≤8→(kv T K i).natAbs<2^EB)
 (HC:Hid (∀ u,Below w.heap.size w u→u.cell? ⟨g,2,none⟩=some (.int .i64 (T-34))∧u.rangeAt g 3 [.int .i64 (K 0/4294967296),.int .i64 (K 0%4294967296),.int .i64 (K 1/4294967296),.int .i64 (K 1%4294967296),.int .i64 (K 2/4294967296),.int .i64 (K 2%4294967296),.int .i64 (K 3/4294967296),.int .i64 (K 3%4294967296),.int .i64 (K 4/4294967296),.int .i64 (K 4%4294967296),.int .i64 (K 5/4294967296),.int .i64 (K 5%4294967296),.int .i64 (K 6/4294967296),.int .i64 (K 6%4294967296),.int .i64 (K 7/4294967296),.int .i64 (K 7%4294967296)]))
 (HX:Hid (∀ i:Nat,i<8→∀ u,Below w.heap.size w u→Calls Tryz.prog 76 #[.agg #[.int .i64 (K i/4294967296),.int .i64 (K i%4294967296)],.int .i64 (T-34-(i:Nat))] u fun r w'=>(∃ v,r=.returned (.agg #[.bool (dN (fo8 (vb (T-i) (K i)))),v,.int .i64 (dE (fo8 (vb (T-i) (K i))))])∧Nt u.heap.size w' v (dX (fo8 (vb (T-i) (K i)))))∧Below u.heap.size u w'))
 (HL:Hid (∀ i:Nat,i<8→(ws (dX (fo8 (vb (T-i) (K i))))).length≤8192))
 (HA:Hid (∀ i:Nat,i<8→∀ u a c b d,Below w.heap.size w u→Arg u a (ws (dX (fo8 (kv T K i)))).length c (ws (dX (fo8 (kv T K i))))→Arg u b (ws (dX (fo8 (vb (T-i) (K i))))).length d (ws (dX (fo8 (vb (T-i) (K i))))) →
  Calls Tryz.prog 75 #[.agg #[.bool (dN (fo8 (kv T K i))),.slice a (ws (dX (fo8 (kv T K i)))).length c,.int .i64 (dE (fo8 (kv T K i)))],.agg #[.bool (dN (fo8 (vb (T-i) (K i)))),.slice b (ws (dX (fo8 (vb (T-i) (K i))))).length d,.int .i64 (dE (fo8 (vb (T-i) (K i))))]] u fun r w'=>(∃ v,r=.returned (.tuple #[.agg #[.bool (dN (fo8 (kv T K (i+1)))),v,.int .i64 (dE (fo8 (kv T K (i+1))))],.int .i64 0])∧Nt u.heap.size w' v (dX (fo8 (kv T K (i+1)))))∧Below u.heap.size u w')) :
 Calls Tryz.prog 47 #[.pointer (some ⟨g,0,none⟩)] w fun r w'=>(∃ v,r=.returned (.agg #[.bool (dN (fo8 (kv T K 8))),v,.int .i64 (dE (fo8 (kv T K 8)))])∧Nt w.heap.size w' v (dX (fo8 (kv T K 8))))∧Below w.heap.size w w':=by
 obtain ⟨W0,hW0⟩:∃ W,W=(w.alloc (Obj.cells #[.bool false,.slice none 0 0,.int .i64 0] 77)).alloc (Obj.cells #[.bool false,.slice none 0 0,.int .i64 0] 77):=⟨_,rfl⟩;have HW0:=qsd hW0
 have H0:Aside (Ki w T K 0 W0):=by
  subst hW0;have z0:fo8 (kv T K 0)=some (false,0,0):=by unfold kv fo8;exact mkS_zero _ _
  refine ⟨(Dk.new w _ _ _).below (below_alloc _ _),⟨.slice none 0 0,?_,?_⟩,(below_alloc _ _).trans ((below_alloc _ _).mono (by simp))⟩
  · rw [z0]
    have:=Dk.new (w.alloc (Obj.cells #[.bool false,.slice none 0 0,.int .i64 0] 77)) false (.slice none 0 0) 0;rw [show (w.alloc (Obj.cells #[.bool false,.slice none 0 0,.int .i64 0] 77)).heap.size=w.heap.size+1 by simp] at this
    exact this
  · rw [z0];exact Nt.nil _ _
 have HBG:=qsd hbig;obtain ⟨da,hda⟩:=Tryz.row_arr9;have HE:=qsd hda;have HS4:Aside ((Tryz.prog.info? 81).map (·.size)=some ([.int .i64 (K 0/4294967296),.int .i64 (K 0%4294967296),.int .i64 (K 1/4294967296),.int .i64 (K 1%4294967296),.int .i64 (K 2/4294967296),.int .i64 (K 2%4294967296),.int .i64 (K 3/4294967296),.int .i64 (K 3%4294967296),.int .i64 (K 4/4294967296),.int .i64 (K 4%4294967296),.int .i64 (K 5/4294967296),.int .i64 (K 5%4294967296),.int .i64 (K 6/4294967296),.int .i64 (K 6%4294967296),.int .i64 (K 7/4294967296),.int .i64 (K 7%4294967296)]:List Value).length):=Tryz.size_arr9
 have HR:=qsd (HC.out W0 H0.out.bel).2;clear hda hbig hW0;go_enter Tryz.func47,Tryz.ntmps47
 go_wp2_with (first
  | ((rw [←HW0.out]);(with_reducible refine wpList_load_mid (P:=Tryz.prog) rfl 81 (.tmp 8) rfl g 3 rfl [.int .i64 (K 0/4294967296),.int .i64 (K 0%4294967296),.int .i64 (K 1/4294967296),.int .i64 (K 1%4294967296),.int .i64 (K 2/4294967296),.int .i64 (K 2%4294967296),.int .i64 (K 3/4294967296),.int .i64 (K 3%4294967296),.int .i64 (K 4/4294967296),.int .i64 (K 4%4294967296),.int .i64 (K 5/4294967296),.int .i64 (K 5%4294967296),.int .i64 (K 6/4294967296),.int .i64 (K 6%4294967296),.int .i64 (K 7/4294967296),.int .i64 (K 7%4294967296)] da HR.out HE.out.1 HE.out.2 HS4.out ?_)))
 clear HW0 HR HS4
 go_loopg [10] 8 (fun gk iv wr=>∃ i:Nat,gk+i=8∧iv=.int .i64 (i:Nat)∧Aside (Ki w T K i wr))
 case atStart=>exact ⟨0,by omega,rfl,H0⟩
 case round =>
  clear H0 W0;obtain ⟨i,hgi,rfl,HW⟩:=hrel
  by_cases hi:i<8
  · have hix:=fun u=>idx9_any K i hi u
    have hl2:=HL.out i hi;have hX2:=hid (HX.out i hi);have hA2:=hid (HA.out i hi);have l1:=(fo8_len (kv T K i) EB (Nat.le_trans EB5 (by decide)) (HBG.out i (by omega))).1
    have l3:=(fo8_len (kv T K (i+1)) EB (Nat.le_trans EB5 (by decide)) (HBG.out (i+1) (by omega))).1
    obtain ⟨v1,S1,S2⟩:=HW.out.sum;obtain ⟨n1,hn1⟩:∃ b,b=dN (fo8 (kv T K i)):=⟨_,rfl⟩;obtain ⟨e1,he1⟩:∃ b,b=dE (fo8 (kv T K i)):=⟨_,rfl⟩;obtain ⟨X1,hX1⟩:∃ b,b=dX (fo8 (kv T K i)):=⟨_,rfl⟩;rw [←hn1,←he1] at S1;rw [←hX1] at S2 l1;rw [←hn1,←he1,←hX1] at hA2;have HXN:=qsd (ai hn1 (ai he1 hX1));clear hn1 he1 hX1;obtain ⟨n2,hn2⟩:∃ b,b=dN (fo8 (vb (T-i) (K i))):=⟨_,rfl⟩;obtain ⟨e2,he2⟩:∃ b,b=dE (fo8 (vb (T-i) (K i))):=⟨_,rfl⟩;obtain ⟨X2,hXX2⟩:∃ b,b=dX (fo8 (vb (T-i) (K i))):=⟨_,rfl⟩;rw [←hn2,←he2,←hXX2] at hA2 hX2;rw [←hXX2] at hl2;clear hn2 he2 hXX2;obtain ⟨n3,hn3⟩:∃ b,b=dN (fo8 (kv T K (i+1))):=⟨_,rfl⟩;obtain ⟨e3,he3⟩:∃ b,b=dE (fo8 (kv T K (i+1))):=⟨_,rfl⟩;obtain ⟨X3,hX3⟩:∃ b,b=dX (fo8 (kv T K (i+1))):=⟨_,rfl⟩;rw [←hn3,←he3,←hX3] at hA2;rw [←hX3] at l3;have H3N:=qsd (ai hn3 (ai he3 hX3));clear hn3 he3 hX3;obtain ⟨a1,c1,rfl,_⟩:=S2.arg (Nat.le_trans l1 (by decide))
    obtain ⟨U,hU⟩:∃ U,U=wr.alloc (.cells #[.int .i64 (K i/4294967296),.int .i64 (K i%4294967296)] 80):=⟨_,rfl⟩;have HU:=qsd hU
    have HV:Aside (Below w.heap.size w U.drew∧Dk U.drew (w.heap.size+1) n1 (.slice a1 (ws X1).length c1) e1∧Dk U.drew w.heap.size false (.slice none 0 0) 0∧Nt (w.heap.size+2) U.drew (.slice a1 (ws X1).length c1) X1∧Bl U.drew wr.heap.size 80 [.int .i64 (K i/4294967296),.int .i64 (K i%4294967296)]∧w.heap.size+1<wr.heap.size):=by
     subst hU;have hb2:=(below_alloc wr (.cells #[.int .i64 (K i/4294967296),.int .i64 (K i%4294967296)] 80)).drew;exact ⟨HW.out.bel.trans (hb2.mono HW.out.bel.size),S1.below hb2,HW.out.res.below hb2,S2.below hb2,(Bl.new wr 80 [_,_]).drew,S1.lt⟩
    clear hU S1 S2
    have mk:Hid (∀ u,Below w.heap.size w u→Dk u (w.heap.size+1) n1 (.slice a1 (ws X1).length c1) e1→Bl u wr.heap.size 80 [.int .i64 (K i/4294967296),.int .i64 (K i%4294967296)]→u.cell? ⟨w.heap.size+1,0,none⟩=some (.bool n1)∧u.cell? ⟨w.heap.size+1,1,none⟩=some (.slice a1 (ws X1).length c1)∧u.cell? ⟨w.heap.size+1,2,none⟩=some (.int .i64 e1)∧u.cell? ⟨wr.heap.size,0,none⟩=some (.int .i64 (K i/4294967296))∧u.cell? ⟨wr.heap.size,1,none⟩=some (.int .i64 (K i%4294967296))∧u.cell? ⟨g,2,none⟩=some (.int .i64 (T-34))) :=
     hid (fun u p0 p1 p2=>⟨p1.facts.1,p1.facts.2.1,p1.facts.2.2.1,p2.cell 0 _ rfl,p2.cell 1 _ rfl,(HC.out u p0).1⟩)
    have kS:=qsd (mk.out _ HV.out.1 HV.out.2.1 HV.out.2.2.2.2.1);have hi8:(i:Int)<8:=by omega
    have hw9:IntKind.i64.wrap (T-34-(i:Int))=T-34-(i:Int):=by rw [IntKind.wrap_i64];omega
    clear HX HL HA HW
    go_wp2_with fail
    rw [←HU.out];clear HU;refine until_region (fun u=>u.cell? ⟨w.heap.size+1,0,none⟩=some (.bool n1)∧u.cell? ⟨w.heap.size+1,1,none⟩=some (.slice a1 (ws X1).length c1)∧u.cell? ⟨w.heap.size+1,2,none⟩=some (.int .i64 e1)∧u.cell? ⟨wr.heap.size,0,none⟩=some (.int .i64 (K i/4294967296))∧u.cell? ⟨wr.heap.size,1,none⟩=some (.int .i64 (K i%4294967296))∧u.cell? ⟨g,2,none⟩=some (.int .i64 (T-34))) 12 (by kernel_rfl) ?_
    refine until_take (i:=0) [9,10] (v:=?_) rfl (by kernel_rfl) (by kernel_rfl) (by kernel_rfl) (by kernel_rfl) (by kernel_rfl) (fun _ _ _ h=>h) (Or.inl ⟨by rfl,?_⟩) kS.out ?_
    rotate_left
    · intro u hSu
      try dsimp only at hSu
      first | (go_simp;done) | (go_simp;with_reducible rfl)
    try simp only [Act.put,List.setIfInBounds_toArray,List.set_cons_zero,List.set_cons_succ]
    refine until_take (i:=1) [8,9,10] (v:=?_) rfl (by kernel_rfl) (by kernel_rfl) (by kernel_rfl) (by kernel_rfl) (by kernel_rfl) (fun _ _ _ h=>h) (Or.inl ⟨by rfl,?_⟩) kS.out ?_
    rotate_left
    · intro u hSu
      try dsimp only at hSu
      first | (go_simp;done) | (go_simp;with_reducible rfl)
    try simp only [Act.put,List.setIfInBounds_toArray,List.set_cons_zero,List.set_cons_succ]
    refine until_take (i:=2) [3,4,5,7,8,9,10] (v:=?_) rfl (by kernel_rfl) (by kernel_rfl) (by kernel_rfl) (by kernel_rfl) (by kernel_rfl) (fun _ _ _ h=>h) (Or.inl ⟨by rfl,?_⟩) kS.out ?_
    rotate_left
    · intro u hSu
      try dsimp only at hSu
      first | (go_simp;done) | (go_simp;with_reducible rfl)
    try simp only [Act.put,List.setIfInBounds_toArray,List.set_cons_zero,List.set_cons_succ]
    refine until_take (i:=3) [4,5,7,8,9,10] (v:=?_) rfl (by kernel_rfl) (by kernel_rfl) (by kernel_rfl) (by kernel_rfl) (by kernel_rfl) (fun _ _ _ h=>h) (Or.inl ⟨by rfl,?_⟩) kS.out ?_
    rotate_left
    · intro u hSu
      try dsimp only at hSu
      first | (go_simp;done) | (go_simp;with_reducible rfl)
    try simp only [Act.put,List.setIfInBounds_toArray,List.set_cons_zero,List.set_cons_succ]
    refine until_take (i:=4) [5,7,8,9,10] (v:=?_) rfl (by kernel_rfl) (by kernel_rfl) (by kernel_rfl) (by kernel_rfl) (by kernel_rfl) (fun _ _ _ h=>h) (Or.inl ⟨by rfl,?_⟩) kS.out ?_
    rotate_left
    · intro u hSu
      try dsimp only at hSu
      first | (go_simp;done) | (go_simp;with_reducible rfl)
    try simp only [Act.put,List.setIfInBounds_toArray,List.set_cons_zero,List.set_cons_succ]
    refine until_take (i:=5) [7,8,9,10] (v:=?_) rfl (by kernel_rfl) (by kernel_rfl) (by kernel_rfl) (by kernel_rfl) (by kernel_rfl) (fun _ _ _ h=>h) (Or.inl ⟨by rfl,?_⟩) kS.out ?_
    rotate_left
    · intro u hSu
      try dsimp only at hSu
      first | (go_simp;done) | (go_simp;with_reducible rfl)
    try simp only [Act.put,List.setIfInBounds_toArray,List.set_cons_zero,List.set_cons_succ]
    refine until_take (i:=6) [7,8,9,10] (v:=?_) rfl (by kernel_rfl) (by kernel_rfl) (by kernel_rfl) (by kernel_rfl) (by kernel_rfl) (fun _ _ _ h=>h) (Or.inl ⟨by rfl,?_⟩) kS.out ?_
    rotate_left
    · intro u hSu
      try dsimp only at hSu
      first | (go_simp;done) | (go_simp;with_reducible rfl)
    try simp only [Act.put,List.setIfInBounds_toArray,List.set_cons_zero,List.set_cons_succ]
    refine until_take (i:=7) [8,9,10] (v:=?_) rfl (by kernel_rfl) (by kernel_rfl) (by kernel_rfl) (by kernel_rfl) (by kernel_rfl) (fun _ _ _ h=>h) (Or.inl ⟨by rfl,?_⟩) kS.out ?_
    rotate_left
    · intro u hSu
      try dsimp only at hSu
      first | (go_simp;done) | (go_simp;with_reducible rfl)
    try simp only [Act.put,List.setIfInBounds_toArray,List.set_cons_zero,List.set_cons_succ]
    refine until_one (i:=8) (by kernel_rfl) rfl (fun K' hK=>?_)
    go_simp
    refine (hX2.out _ HV.out.1).mono ?_;rintro r u ⟨⟨v2,rfl,hN2⟩,hb⟩;obtain ⟨a2,c2,rfl,A2⟩:=hN2.arg (Nat.le_trans hl2 (by decide))
    have hs0:=HV.out.1.size;have HV:=qsd (ai (HV.out.1.trans (hb.mono HV.out.1.size)) (ai (HV.out.2.1.below hb) (ai (HV.out.2.2.1.below hb) (ai (HV.out.2.2.2.1.below hb) (ai (HV.out.2.2.2.2.1.below hb HV.out.2.2.2.2.1.lt) HV.out.2.2.2.2.2)))));have kS:=qsd (mk.out _ HV.out.1 HV.out.2.1 HV.out.2.2.2.2.1);have HA2:=qsd A2;clear hb A2 hN2
    dsimp only
    refine hK.out _ _ (fun _=>kS.out) ?_
    clear hK K'
    try simp only [Act.put,List.setIfInBounds_toArray,List.set_cons_zero,List.set_cons_succ]
    refine until_one (i:=9) (by kernel_rfl) rfl (fun K' hK=>?_)
    go_simp
    refine (hA2.out u a1 c1 a2 c2 HV.out.1 (HV.out.2.2.2.1.arg' (Nat.le_trans l1 (by decide))).2 HA2.out).mono ?_
    rintro r u2 ⟨⟨v3,rfl,hN3⟩,hb⟩;obtain ⟨a3,c3,rfl,_⟩:=hN3.arg (Nat.le_trans l3 (by decide))
    have HN3:=qsd (hN3.mono (show w.heap.size+2≤u.heap.size by have:=HV.out.2.2.2.2.1.lt;have:=HV.out.2.2.2.2.2;omega))
    have HV:=qsd (ai (HV.out.1.trans (hb.mono HV.out.1.size)) (ai (HV.out.2.1.below hb) (ai (HV.out.2.2.1.below hb) (ai (HV.out.2.2.2.1.below hb) (ai (HV.out.2.2.2.2.1.below hb HV.out.2.2.2.2.1.lt) HV.out.2.2.2.2.2)))));have kS:=qsd (mk.out _ HV.out.1 HV.out.2.1 HV.out.2.2.2.2.1);clear hb hN3
    dsimp only
    refine hK.out _ _ (fun _=>kS.out) ?_
    clear hK K'
    try simp only [Act.put,List.setIfInBounds_toArray,List.set_cons_zero,List.set_cons_succ]
    refine until_take (i:=10) [] (v:=?_) rfl (by kernel_rfl) (by kernel_rfl) (by kernel_rfl) (by kernel_rfl) (by kernel_rfl) (fun _ _ _ h=>h) (Or.inl ⟨by rfl,?_⟩) kS.out ?_
    rotate_left
    · intro u hSu
      try dsimp only at hSu
      first | (go_simp;done) | (go_simp;with_reducible rfl)
    try simp only [Act.put,List.setIfInBounds_toArray,List.set_cons_zero,List.set_cons_succ]
    obtain ⟨z0,z1,z2,zf0,zf1,zf2⟩:=HV.out.2.1.facts
    have HXX:Aside (Ki w T K (i+1) (st3 u2 (w.heap.size+1) (.bool n3) (.slice a3 (ws X3).length c3) (.int .i64 e3))):=by
     have hbt:=st3_but8 (w.heap.size+1) u2 (.bool n3) (.slice a3 (ws X3).length c3) (.int .i64 e3);refine ⟨HV.out.2.2.1.but8 hbt (by omega),⟨.slice a3 (ws X3).length c3,?_,?_⟩,?_⟩
     · rw [←H3N.out.1,←H3N.out.2.1];exact HV.out.2.1.set _ _ _
     · rw [←H3N.out.2.2];exact HN3.out.but8 hbt (by omega)
     · exact But.below HV.out.1 hbt HV.out.1.size (by omega)
    unfold st3 at HXX;refine until_two (i:=11) (j:=12) (by kernel_rfl) rfl rfl (fun K' hK=>?_) (fun K' hK=>?_)
    · go_simp
      refine hK.out _ _ (fun _=>kS.out) ?_
      clear hK K'
      try simp only [Act.put,List.setIfInBounds_toArray,List.set_cons_zero,List.set_cons_succ]
      refine until_two (i:=12) (j:=13) (by kernel_rfl) rfl rfl (fun K' hK=>?_) (fun K' hK=>?_)
      · go_simp
        refine hK.out _ _ (fun h=>absurd h (by decide)) ?_
        clear hK K'
        try simp only [Act.put,List.setIfInBounds_toArray,List.set_cons_zero,List.set_cons_succ]
        refine until_one (i:=13) (by kernel_rfl) rfl (fun K' hK=>?_)
        go_simp
        refine hK.out _ _ (fun h=>absurd h (by decide)) ?_
        clear hK K'
        try simp only [Act.put,List.setIfInBounds_toArray,List.set_cons_zero,List.set_cons_succ]
        refine until_done (by kernel_rfl) ?_ _
        clear kS z0 z1 z2 zf0 zf1 zf2 HV HN3 HA2 H3N HXN mk hX2 hA2;go_wp2
        go_roundg (gk-1)
        case measure=>omega
        case rel=>exact ⟨i+1,by omega,by simp,HXX⟩
      · go_simp
        refine hK.out _ _ (fun h=>absurd h (by decide)) ?_
        clear hK K'
        try simp only [Act.put,List.setIfInBounds_toArray,List.set_cons_zero,List.set_cons_succ]
        refine until_one (i:=12) (by kernel_rfl) rfl (fun K' hK=>?_)
        go_simp
        refine hK.out _ _ (fun h=>absurd h (by decide)) ?_
        clear hK K'
        try simp only [Act.put,List.setIfInBounds_toArray,List.set_cons_zero,List.set_cons_succ]
        refine until_done (by kernel_rfl) ?_ _
        clear kS z0 z1 z2 zf0 zf1 zf2 HV HN3 HA2 H3N HXN mk hX2 hA2;go_wp2
        go_roundg (gk-1)
        case measure=>omega
        case rel=>exact ⟨i+1,by omega,by simp,HXX⟩
    · go_simp
      refine hK.out _ _ (fun h=>absurd h (by decide)) ?_
      clear hK K'
      try simp only [Act.put,List.setIfInBounds_toArray,List.set_cons_zero,List.set_cons_succ]
      refine until_one (i:=11) (by kernel_rfl) rfl (fun K' hK=>?_)
      go_simp
      refine hK.out _ _ (fun _=>kS.out) ?_
      clear hK K'
      try simp only [Act.put,List.setIfInBounds_toArray,List.set_cons_zero,List.set_cons_succ]
      refine until_one (i:=13) (by kernel_rfl) rfl (fun K' hK=>?_)
      go_simp
      refine hK.out _ _ (fun h=>absurd h (by decide)) ?_
      clear hK K'
      try simp only [Act.put,List.setIfInBounds_toArray,List.set_cons_zero,List.set_cons_succ]
      refine until_done (by kernel_rfl) ?_ _
      clear kS z0 z1 z2 zf0 zf1 zf2 HV HN3 HA2 H3N HXN mk hX2 hA2;go_wp2
      go_roundg (gk-1)
      case measure=>omega
      case rel=>exact ⟨i+1,by omega,by simp,HXX⟩
  · obtain rfl:i=8:=by omega
    obtain rfl:gk=0:=by omega
    obtain ⟨v1,S1,S2⟩:=HW.out.sum;have l1:=(fo8_len (kv T K 8) EB (Nat.le_trans EB5 (by decide)) (HBG.out 8 (by omega))).1
    obtain ⟨n1,hn1⟩:∃ b,b=dN (fo8 (kv T K 8)):=⟨_,rfl⟩;obtain ⟨e1,he1⟩:∃ b,b=dE (fo8 (kv T K 8)):=⟨_,rfl⟩;obtain ⟨X1,hX1⟩:∃ b,b=dX (fo8 (kv T K 8)):=⟨_,rfl⟩;rw [←hn1,←he1] at S1;rw [←hX1] at S2 l1;have HNM:=qsd (ai hn1 (ai he1 hX1));obtain ⟨a1,c1,rfl,_⟩:=S2.arg (Nat.le_trans l1 (by decide))
    obtain ⟨y0,y1,y2,yf0,yf1,yf2⟩:=S1.facts;have R2:=HW.out.res;obtain ⟨z0,z1,z2,zf0,zf1,zf2⟩:=R2.facts;have hbt:=st3_but8 w.heap.size wr (.bool n1) (.slice a1 (ws X1).length c1) (.int .i64 e1);have HF:=qsd (ai (R2.set n1 (.slice a1 (ws X1).length c1) e1) (ai ((S2.mono (show w.heap.size≤w.heap.size+2 by omega)).dk8 R2 hbt) (But.below HW.out.bel hbt HW.out.bel.size (Nat.le_refl _))))
    clear HX HL HA HC S1 S2 R2 hbt HW hn1 he1 hX1;go_wp2;refine close8 Tryz.results47 (g:=w.heap.size) (n:=n1) (v:=.slice a1 (ws X1).length c1) (e:=e1) rfl HF.out.1 ?_;rw [←HNM.out.1,←HNM.out.2.1,←HNM.out.2.2];exact ⟨⟨_,rfl,HF.out.2.1⟩,HF.out.2.2⟩
end
section
open Go Go.RowKit
def kvz (f:Nat) (L:List Nat):Int:=kv (tL (ZL L)) (kf f (tL (ZL L)) (SL (ZL L))) 8
theorem ZL_div (L:List Nat):∀ z ∈ ZL L,(16384:Int) ∣ z:=by
 intro z hz;obtain ⟨x,_,rfl⟩:=List.mem_map.1 hz;exact ⟨fvW x,by unfold zW;rw [Int.mul_comm]⟩
theorem kf_hi (f:Nat) (L:List Nat) (hl:L.length≤1099511627776) (i:Nat):(kf f (tL (ZL L)) (SL (ZL L)) i).natAbs≤2^75:=by
 unfold kf;split
 · have:=SL_hi L hl (tL (ZL L)-i);omega
 · simp
theorem kvz_EB (f:Nat) (L:List Nat) (hF:Fin9 L) (hl:L.length≤1099511627776):(kvz f L).natAbs<2^EB:=kv_EB _ _ 8 (Nat.le_refl _) (by have:=tL_hi L hF;omega) (kf_hi f L hl)
theorem Kept9 (g f:Nat) (L:List Nat) (w:World) (hB:Bz w g f L) (hF:Fin9 L) (hl:L.length≤1099511627776) (hT:Tab w) :
 Calls Tryz.prog 47 #[.pointer (some ⟨g,0,none⟩)] w fun r w'=>(∃ v,r=.returned (.agg #[.bool (dN (fo8 (kvz f L))),v,.int .i64 (dE (fo8 (kvz f L)))])∧Nt w.heap.size w' v (dX (fo8 (kvz f L))))∧Below w.heap.size w w':=by
 have b1:=tL_ge (ZL L);have b2:=tL_hi L hF;have hK:=kf_hi f L hl;obtain ⟨K,hKK⟩:∃ K,K=kf f (tL (ZL L)) (SL (ZL L)):=⟨_,rfl⟩;obtain ⟨T,hTT⟩:∃ T,T=tL (ZL L):=⟨_,rfl⟩
 have hz:∀ i:Nat,T-i<0→K i=0:=fun i hi=>by
  rw [hKK];unfold kf;split
  · rw [←hTT];exact SL_neg _ _ hi
  · rfl
 have hd:∀ i:Nat,T-i=0→(16384:Int) ∣ K i:=fun i hi=>by
  rw [hKK];unfold kf;split
  · rw [←hTT,hi];exact SL_div _ (ZL_div L)
  · exact ⟨0,rfl⟩
 unfold kvz;rw [←hKK,←hTT];rw [←hKK] at hK;rw [←hTT] at b1 b2;have hbig:∀ i,i≤8→(kv T K i).natAbs<2^EB:=fun i hi=>kv_EB T K i hi (by omega) hK
 have hvb:∀ i:Nat,(vb (T-i) (K i)).natAbs<2^EB:=fun i=>vb_EB _ _ (by omega) (hK i)
 have e5:EB≤200000:=Nat.le_trans EB5 (by decide)
 refine Kept_core g T K w hB.lt ⟨b1,b2⟩ hbig (hid (fun u hu=>?_)) (hid (fun i hi u hu=>?_)) (hid (fun i hi=>?_)) (hid (fun i hi u a c b d hu A1 A2=>?_))
 · have hB2:=hB.below hu hB.lt
   refine ⟨by rw [hTT];exact Bs.tp hB2,Bs.row hB2 K hKK.symm⟩
 · have:=exact9 (K i) (T-i) (by omega) (hz i) (hd i) (hK i) u (hT.belows hu)
   rw [show T-(i:Int)-34=T-34-i by omega] at this
   exact this
 · exact (fo8_len _ EB e5 (hvb i)).1
 · obtain ⟨q1,q2,q3,_⟩:=fo8_len (vb (T-i) (K i)) EB e5 (hvb i)
   have:=add_any8 (kv T K i) (vb (T-i) (K i)) EB EB5 (hbig i (by omega)) (hvb i) (dE (fo8 (vb (T-i) (K i)))) q2 q3 (dN (fo8 (vb (T-i) (K i)))) (dX (fo8 (vb (T-i) (K i)))) (fo8_self _ EB e5 (hvb i)) u a b c d (hT.belows hu) A1 A2
   exact this
end
section
open Go Go.RowKit
theorem Round9 (g f:Nat) (L:List Nat) (mode:Int) (w:World) (hB:Bz w g f L) (hF:Fin9 L) (hl:L.length≤1099511627776) (hT:Tab w) :
 Calls Tryz.prog 23 #[.pointer (some ⟨g,0,none⟩),.int .i64 mode] w fun r w'=>r=.returned (.tuple #[.float .f64 (rndS (fo8 (kvz f L)) mode).1,.int .i64 (rndS (fo8 (kvz f L)) mode).2])∧Below w.heap.size w w':=by
 have e5:EB≤200000:=Nat.le_trans EB5 (by decide)
 have HK:=hid (Kept9 g f L w hB hF hl hT);obtain ⟨l1,l2,l3,_⟩:=fo8_len (kvz f L) EB e5 (kvz_EB f L hF hl);have hself:=fo8_self (kvz f L) EB e5 (kvz_EB f L hF hl)
 have HR:Hid (∀ u a c,Below w.heap.size w u→Arg u a (ws (dX (fo8 (kvz f L)))).length c (ws (dX (fo8 (kvz f L))))→Calls Tryz.prog 40 #[.agg #[.bool (dN (fo8 (kvz f L))),.slice a (ws (dX (fo8 (kvz f L)))).length c,.int .i64 (dE (fo8 (kvz f L)))],.int .i64 mode] u fun r w'=>r=.returned (.tuple #[.float .f64 (rndS (fo8 (kvz f L)) mode).1,.int .i64 (rndS (fo8 (kvz f L)) mode).2])∧Below u.heap.size u w'):=hid (fun u a c hu A=>by
  have:=Round_any A (hT.belows hu) (dN (fo8 (kvz f L))) (dE (fo8 (kvz f L))) mode l2 l3;rw [val_ws,hself] at this;exact this)
 obtain ⟨x,hx⟩:∃ x,x=(rndS (fo8 (kvz f L)) mode).1:=⟨_,rfl⟩;obtain ⟨er,her⟩:∃ x,x=(rndS (fo8 (kvz f L)) mode).2:=⟨_,rfl⟩;obtain ⟨n1,hn1⟩:∃ b,b=dN (fo8 (kvz f L)):=⟨_,rfl⟩;obtain ⟨e1,he1⟩:∃ b,b=dE (fo8 (kvz f L)):=⟨_,rfl⟩;obtain ⟨X1,hX1⟩:∃ b,b=dX (fo8 (kvz f L)):=⟨_,rfl⟩;rw [←hx,←her] at HR ⊢;rw [←hn1,←he1,←hX1] at HR HK;rw [←hX1] at l1;clear hx her hn1 he1 hX1 hself hB hF hT l2 l3;go_enter Tryz.func23,Tryz.ntmps23
 go_wp2_with fail
 with_reducible refine HK.out.mono ?_
 rintro r u ⟨⟨v1,rfl,hN1⟩,hb1⟩;obtain ⟨a1,c1,rfl,A1⟩:=hN1.arg (Nat.le_trans l1 (by decide))
 have HA:=qsd (ai A1 hb1);clear A1 hN1 hb1
 go_wp2_with fail
 with_reducible refine (HR.out u a1 c1 HA.out.2 HA.out.1).mono ?_
 rintro r u2 ⟨rfl,hb2⟩;have HB:=qsd (HA.out.2.trans (hb2.mono HA.out.2.size));clear hb2;go_wp2
 go_ret2
 exact ⟨rfl,HB.out⟩
end
section
open Go.RowKit
theorem fin9_take {xs:List Nat}{k:Nat}(hW:W64 xs) (h:Fin9 (xs.take k)) (hk:k<xs.length) (hf:finW (xs.getD k 0)):Fin9 (xs.take (k+1))∧xs.take (k+1)=xs.take k++[xs.getD k 0]:=by
 have e:xs.take (k+1)=xs.take k++[xs.getD k 0]:=by
  rw [List.take_succ_eq_append_getElem hk,List.getD_eq_getElem?_getD,List.getElem?_eq_getElem hk];rfl
 refine ⟨fun x hx=>?_,e⟩
 rw [e] at hx
 rcases List.mem_append.1 hx with h1|h1
 · exact h x h1
 · have:x=xs.getD k 0:=by simpa using h1
   rw [this];exact ⟨hW.get k,hf⟩
noncomputable def alA (f:Nat) (xs:List Nat):Nat×Int:=by
 classical
 exact if Fin9 xs then rndS (fo8 (kvz f xs)) 0 else (0,30)
theorem Alike10 (xs:List Nat) (a:Option Addr) (n c f:Nat) (w:World) (hn:n=xs.length) (hF:Fs w.heap.size w a xs) (hW:W64 xs) (hT:Tab w) (h1:1≤f) (h8:f≤8) (hl:n≤65536) :
 Calls Tryz.prog 8 #[.slice a n c,.int .i64 (f:Nat)] w fun r w'=>r=.returned (.tuple #[.float .f64 (alA f xs).1,.int .i64 (alA f xs).2])∧Below w.heap.size w w':=by
 obtain ⟨X,hX⟩:∃ X,X=alA f xs:=⟨_,rfl⟩;rw [←hX];obtain ⟨X1,X2⟩:=X;simp only
 have HX:Aside ((Fin9 xs→(X1,X2)=rndS (fo8 (kvz f xs)) 0)∧(¬ Fin9 xs→(X1,X2)=(0,30))):=by
  refine ⟨fun h=>?_,fun h=>?_⟩
  · rw [hX];unfold alA;rw [if_pos h]
  · rw [hX];unfold alA;rw [if_neg h]
 have HN:=hid (New9 f w h1 h8);have HA:=qsd (ai hn (ai hF (ai hW (ai hT (ai h8 hl)))));have b2:decide ((65536:Int)<(n:Int))=false:=by simp;omega
 have hnb:n<4611686018427387904:=by omega
 clear hn hF hW hT h1 h8 hl hX;go_enter Tryz.func8,Tryz.ntmps8
 go_wp2_with fail
 refine HN.out.mono ?_;rintro r w1 ⟨rfl,hB,hb⟩;obtain ⟨g,hg⟩:∃ g,g=w.heap.size:=⟨_,rfl⟩;have B1:Aside (Bz w1 g f []∧Below w.heap.size w w1∧w.heap.size≤g):=by rw [hg];exact ⟨hB,hb,Nat.le_refl _⟩
 rw [←hg];clear hB hb HN hg;go_wp2
 go_loopg [21] n (fun gk i wr=>∃ k:Nat,gk+k=n∧i=.int .i64 (k:Nat)∧Aside (Bz wr g f (xs.take k)∧Fin9 (xs.take k)∧Below w.heap.size w wr))
 case atStart=>exact ⟨0,by omega,by simp,B1.out.1,fun x hx=>by simp at hx,B1.out.2.1⟩
 case round =>
  obtain ⟨k,hgk,rfl,HR⟩:=hrel
  by_cases hk:k<n
  · obtain ⟨b,off,rfl,hc⟩:=HA.out.2.1.at HR.out.2.2 k (by rw [←HA.out.1];exact hk)
    obtain ⟨x,hx⟩:∃ x,x=xs.getD k 0:=⟨_,rfl⟩;rw [←hx] at hc;have hx64:x<18446744073709551616:=by rw [hx];exact HA.out.2.2.1.get k
    have hlen:(xs.take k).length<1099511627776:=by rw [List.length_take];have:=HA.out.2.2.2.2.2;omega
    by_cases hf:finW x
    · have HE:=qsd (fin9_take HA.out.2.2.1 HR.out.2.1 (by rw [←HA.out.1];exact hk) (by rw [←hx];exact hf))
      have C:=hid (Add9 x ⟨hx64,hf⟩ g f (xs.take k) wr HR.out.1 HR.out.2.1 hlen HA.out.2.2.2.2.1);rw [hx,←HE.out.2,←hx] at C;clear hx hx64 hlen hf
      go_wp2_with fail
      refine C.out.mono ?_;rintro r w2 ⟨rfl,hB2,hbut⟩;have K2:=qsd (ai hB2 (But.below HR.out.2.2 hbut HR.out.2.2.size B1.out.2.2));clear hB2 hbut C;go_wp2
      go_roundg (gk-1)
      case measure=>omega
      case rel=>exact ⟨k+1,by omega,by first | rfl | simp,K2.out.1,HE.out.1,K2.out.2⟩
    · have hno:¬ Fin9 xs:=fun h=>hf (by
       rw [hx];have hk2:k<xs.length:=by rw [←HA.out.1];exact hk
       rw [List.getD_eq_getElem?_getD,List.getElem?_eq_getElem hk2]
       exact (h _ (List.getElem_mem hk2)).2)
      have HY:=qsd (HX.out.2 hno);have C:=hid (Add9_odd x ⟨hx64,hf⟩ g f (xs.take k) wr HR.out.1 hlen);clear hx hx64 hlen hf hno
      go_wp2_with fail
      refine C.out.mono ?_;rintro r w2 ⟨rfl,hb2⟩;have K2:=qsd (HR.out.2.2.trans (hb2.mono HR.out.2.2.size));clear hb2 C;go_wp2
      go_ret2
      have e:=HY.out
      cases e
      exact ⟨rfl,K2.out⟩
  · have hd:n≤k:=by omega
    have etk:xs.take k=xs:=by rw [List.take_of_length_le];rw [←HA.out.1];omega
    have hB:=HR.out.1;have hFi:=HR.out.2.1;rw [etk] at hB hFi;have C:=hid (Round9 g f xs 0 wr hB hFi (by rw [←HA.out.1];have:=HA.out.2.2.2.2.2;omega) (HA.out.2.2.2.1.belows HR.out.2.2))
    rw [←HX.out.1 hFi] at C;simp only at C;clear etk hB hFi
    go_wp2_with fail
    refine C.out.mono ?_;rintro r w2 ⟨rfl,hb2⟩;have K2:=qsd (HR.out.2.2.trans (hb2.mono HR.out.2.2.size));clear hb2 C;go_wp2
    go_ret2
    exact ⟨rfl,K2.out⟩
theorem Alike10_arg (a:Option Addr) (n c:Nat) (f:Int) (w:World) (h:f<1∨8<f) :
 Calls Tryz.prog 8 #[.slice a n c,.int .i64 f] w fun r w'=>r=.returned (.tuple #[.float .f64 0,.int .i64 1])∧Below w.heap.size w w':=by
 have HN:=hid (New9_no f w h);clear h;go_enter Tryz.func8,Tryz.ntmps8
 go_wp2_with fail
 refine HN.out.mono ?_;rintro r w1 ⟨rfl,rfl⟩;clear HN;go_wp2
 go_ret2
 exact ⟨rfl,Below.refl _ _⟩
end
section
open Go Go.RowKit
theorem kvz_perm (f:Nat) {L M:List Nat}(h:L.Perm M):kvz f L=kvz f M:=by
 have hz:(ZL L).Perm (ZL M):=h.map _;have e:SL (ZL L)=SL (ZL M):=funext (fun t=>SL_perm hz t)
 unfold kvz;rw [tL_perm hz,e]
end
section
open Go.RowKit J

theorem cnt_comm10 (s:Sp) (a b:Nat):(s.cnt a 1).cnt b 1=(s.cnt b 1).cnt a 1:=by
 unfold Sp.cnt;simp only
 congr 1 <;> (repeat' split) <;> omega
theorem vS_perm10 {xs ys:List Nat}(h:xs.Perm ys):vS xs=vS ys:=h.foldl_eq' (fun x _ y _ z=>by omega) 0
theorem sS_perm10 {xs ys:List Nat}(h:xs.Perm ys):sS xs=sS ys:=h.foldl_eq' (fun x _ y _ z=>(cnt_comm10 z _ _)) _
theorem alA_perm (f:Nat) {xs ys:List Nat}(h:xs.Perm ys):alA f xs=alA f ys:=by
 have e:Fin9 xs↔Fin9 ys:=⟨fun q x hx=>q x (h.mem_iff.2 hx),fun q x hx=>q x (h.mem_iff.1 hx)⟩
 unfold alA
 by_cases q:Fin9 ys
 · rw [if_pos q,if_pos (e.2 q),kvz_perm f h]
 · rw [if_neg q,if_neg (fun z=>q (e.1 z))]
theorem fs_take10 {B:Nat}{w:World}{a:Option Addr}{xs:List Nat}(h:Fs B w a xs) (k:Nat):Fs B w a (xs.take k):=by
 intro hne;obtain ⟨b,off,h1,h2,h3⟩:=h (by rintro rfl;simp at hne)
 refine ⟨b,off,h1,h2,fun i hi=>?_⟩
 rw [List.length_take] at hi;rw [h3 i (by omega),List.getD_eq_getElem?_getD,List.getD_eq_getElem?_getD,List.getElem?_take,if_pos (by omega)]
theorem Is7.mono10 {B:Nat}{w w':World}{a:Option Addr}{xs:List Int}(h:Is7 B w a xs) (hb:Below B w w') (hs:B≤w'.heap.size):Is7 w'.heap.size w' a xs:=by
 intro hne;obtain ⟨b,off,h1,h2,h3⟩:=h hne;exact ⟨b,off,by omega,h2,fun i hi=>(hb.cell (p:=⟨b,off+i,none⟩) h1).trans (h3 i hi)⟩
theorem walk2_SumsOrder (a1:Option Addr) (n1 c1:Nat) (xs:List Nat) (a2:Option Addr) (n2 c2:Nat) (os:List Int) (mode pa pb fold:Int) (w:World) (hT:Tab w) (hC:CameF w a1 n1 c1 xs) (hD:CameI w a2 n2 c2 os) (hm1:n1≤17592186043904) (hm2:n2≤17592186043904) :
 Calls Tryz.prog 3 #[.slice a1 n1 c1,.slice a2 n2 c2,.int .i64 mode,.agg #[.int .i64 pa,.int .i64 pb],.int .i64 fold] w fun r w'=>r=.returned (.bool true)∧Below w.heap.size w w':=by
 obtain ⟨hl1,hcap1,hW1,hF1,hnil1⟩:=hC;obtain ⟨hl2,hcap2,hI6,hI,_⟩:=hD;obtain ⟨W,hWW⟩:∃ W,W=w.alloc (Obj.cells #[.int .i64 pa,.int .i64 pb] 25):=⟨_,rfl⟩;obtain ⟨g,hg⟩:∃ g,g=w.heap.size:=⟨_,rfl⟩;have hb0:Below w.heap.size w W:=by rw [hWW];exact below_alloc _ _
 have hsz:g<W.heap.size:=by rw [hWW,hg];simp
 have hp0:W.cell? ⟨g,0,none⟩=some (.int .i64 pa):=by rw [hWW,hg];unfold World.cell?;simp only [heap_alloc_new];rfl
 have hp1:W.cell? ⟨g,1,none⟩=some (.int .i64 pb):=by rw [hWW,hg];unfold World.cell?;simp only [heap_alloc_new];rfl
 obtain ⟨zs,hzs⟩:∃ zs,zs=xs.take 300:=⟨_,rfl⟩;have hzl:zs.length=min 300 n1:=by rw [hzs,List.length_take,hl1]
 have hzW:W64 zs:=fun x hx=>hW1 x (by rw [hzs] at hx;exact List.mem_of_mem_take hx)
 have hbw:∀ u:World,Below W.heap.size W u→Below w.heap.size w u:=fun u hb=>hb0.trans (hb.mono hb0.size)
 have up:∀ u:World,Below W.heap.size W u→Fs u.heap.size u a1 zs:=fun u hb=>by
  rw [hzs];exact fs_take10 ((hF1.below (hbw u hb)).mono (hbw u hb).size) 300
 have HTn:Hid (∀ (u:World) (n:Nat),n=zs.length→Below W.heap.size W u→Calls Tryz.prog 6 #[.slice a1 n c1,.slice a2 n2 c2] u fun r w'=>(∃ ys ao co,r=.returned (.slice ao ys.length co)∧ys.length≤co∧ys.Perm zs∧Fs w'.heap.size w' ao ys)∧Below u.heap.size u w') :=
  fun u n hn hb=>turned10 zs os a1 a2 n c1 n2 c2 u hn hnil1 (up u hb) (by omega) hl2 (hI.mono10 (hbw u hb) (hbw u hb).size) hI6 hm2
 obtain ⟨X,E,HE⟩:∃ (X:Nat) (E:Int),Hid (∀ (u:World) (a:Option Addr) (n c:Nat) (ys:List Nat),Below W.heap.size W u→Fs u.heap.size u a ys→ys.Perm zs→n=ys.length→Calls Tryz.prog 7 #[.slice a n c,.int .i64 mode,.agg #[.int .i64 pa,.int .i64 pb]] u fun r w'=>r=.returned (.tuple #[.float .f64 X,.int .i64 E])∧Below u.heap.size u w'):=by
  by_cases hbad:mode<0∨4<mode∨may pa pb=false
  · exact ⟨0,1,fun u a n c ys _ _ _ _=>Exact10_arg a n c mode pa pb u hbad⟩
  · have hmay:may pa pb=true:=by
     cases h:may pa pb
     · exact absurd (.inr (.inr h)) hbad
     · rfl
    refine ⟨(rd10 (vS zs) (sS zs) mode pa pb).1,(rd10 (vS zs) (sS zs) mode pa pb).2,fun u a n c ys hb hF hp hn=>?_⟩
    have hlen:=hp.length_eq;have:=Exact10_any ys a n c mode pa pb u hn hF (fun x hx=>hzW x (hp.mem_iff.1 hx)) (hT.belows (hbw u hb)) (by omega) (by omega) hmay (by omega)
    rw [vS_perm10 hp,sS_perm10 hp] at this;exact this
 obtain ⟨Z,G,HG⟩:∃ (Z:Nat) (G:Int),Hid (∀ (u:World) (a:Option Addr) (n c:Nat) (ys:List Nat),Below W.heap.size W u→Fs u.heap.size u a ys→ys.Perm zs→n=ys.length→Calls Tryz.prog 8 #[.slice a n c,.int .i64 fold] u fun r w'=>r=.returned (.tuple #[.float .f64 Z,.int .i64 G])∧Below u.heap.size u w'):=by
  by_cases hbad:fold<1∨8<fold
  · exact ⟨0,1,fun u a n c ys _ _ _ _=>Alike10_arg a n c fold u hbad⟩
  · obtain ⟨f,hf⟩:∃ f:Nat,fold=(f:Int):=⟨fold.toNat,by omega⟩
    refine ⟨(alA f zs).1,(alA f zs).2,fun u a n c ys hb hF hp hn=>?_⟩
    have hlen:=hp.length_eq;have:=Alike10 ys a n c f u hn hF (fun x hx=>hzW x (hp.mem_iff.1 hx)) (hT.belows (hbw u hb)) (by omega) (by omega) (by omega)
    rw [alA_perm f hp] at this;rw [hf];exact this
 have HL:=hid (live10 W (hT.belows hb0));have HEx:=hid (fun (q:Nat) (u:World)=>exact10 q q u)
 simp only [beq_self_eq_true] at HEx;have HX:=(qsd (ai up (ai hbw (ai hp0 (ai hp1 (ai hsz hzl))))));have HWW:=qsd hWW;have HB0:=qsd hb0;have HC1:=qsd hcap1;clear hl1 hcap1 hW1 hF1 hnil1 hl2 hcap2 hI6 hI hb0 hsz hp0 hp1 hzs hzl hzW hbw up hT hWW
 have pol:∀ u:World,Below W.heap.size W u→u.cell? ⟨g,0,none⟩=some (.int .i64 pa)∧u.cell? ⟨g,1,none⟩=some (.int .i64 pb):=fun u hb =>
  ⟨(hb.cell (p:=⟨g,0,none⟩) HX.out.2.2.2.2.1).trans HX.out.2.2.1,(hb.cell (p:=⟨g,1,none⟩) HX.out.2.2.2.2.1).trans HX.out.2.2.2.1⟩
 have HP:=hid pol;clear pol;go_enter Tryz.func3,Tryz.ntmps3
 go_wp2_with fail
 rw [←HWW.out]
 try rw [←hg]
 refine HL.out.mono ?_;rintro r u1 ⟨rfl,hb⟩;have B1:=qsd hb;clear hb HL HWW hg
 by_cases h3:300<n1
 · have d3:decide ((300:Int)<(n1:Nat))=true:=by simp;omega
   have hle:300≤c1:=by have:=HC1.out;omega
   have hcb:c1<9223372036854775808∨True:=.inr trivial;have C:=hid (HTn.out u1 300 (by have:=HX.out.2.2.2.2.2;omega) B1.out)
   clear HTn
   go_wp2_with fail
   refine C.out.mono ?_;rintro r u2 ⟨⟨ys,ao,co,rfl,hco,hp,hF⟩,hb⟩;have B2:=qsd (B1.out.trans (hb.mono B1.out.size));have P2:=(qsd (ai hp hF));clear hb C hp hF;have C:=hid (HE.out u2 a1 300 c1 zs B2.out (HX.out.1 u2 B2.out) (List.Perm.refl _) (by have:=HX.out.2.2.2.2.2;omega))
   obtain ⟨q0,q1⟩:=HP.out u2 B2.out
   go_wp2_with fail
   refine C.out.mono ?_;rintro r u3 ⟨rfl,hb⟩;have B3:=qsd (B2.out.trans (hb.mono B2.out.size));have F3:=qsd ((P2.out.2.below hb).mono hb.size);clear hb C q0 q1;have C:=hid (HE.out u3 ao ys.length co ys B3.out F3.out P2.out.1 rfl);obtain ⟨q0,q1⟩:=HP.out u3 B3.out;clear HE
   go_wp2_with fail
   refine C.out.mono ?_;rintro r u4 ⟨rfl,hb⟩;have B4:=qsd (B3.out.trans (hb.mono B3.out.size));have F4:=qsd ((F3.out.below hb).mono hb.size);clear hb C q0 q1 HP;have C:=hid (HG.out u4 a1 300 c1 zs B4.out (HX.out.1 u4 B4.out) (List.Perm.refl _) (by have:=HX.out.2.2.2.2.2;omega))
   go_wp2_with fail
   refine C.out.mono ?_;rintro r u5 ⟨rfl,hb⟩;have B5:=qsd (B4.out.trans (hb.mono B4.out.size));have F5:=qsd ((F4.out.below hb).mono hb.size);clear hb C;have C:=hid (HG.out u5 ao ys.length co ys B5.out F5.out P2.out.1 rfl);clear HG
   go_wp2_with fail
   refine C.out.mono ?_;rintro r u6 ⟨rfl,hb⟩;have B6:=qsd (HX.out.2.1 u6 (B5.out.trans (hb.mono B5.out.size)));clear hb C
   go_wp2_with (go_at_call 9;refine (HEx.out _ _).mono ?_;rintro r u7 ⟨rfl,hu⟩;rw [hu];clear hu)
   go_ret;exact ⟨rfl,B6.out⟩
 · have d3:decide ((300:Int)<(n1:Nat))=false:=by simp;omega
   have C:=hid (HTn.out u1 n1 (by have:=HX.out.2.2.2.2.2;omega) B1.out)
   clear HTn
   go_wp2_with fail
   refine C.out.mono ?_;rintro r u2 ⟨⟨ys,ao,co,rfl,hco,hp,hF⟩,hb⟩;have B2:=qsd (B1.out.trans (hb.mono B1.out.size));have P2:=(qsd (ai hp hF));clear hb C hp hF;have C:=hid (HE.out u2 a1 n1 c1 zs B2.out (HX.out.1 u2 B2.out) (List.Perm.refl _) (by have:=HX.out.2.2.2.2.2;omega))
   obtain ⟨q0,q1⟩:=HP.out u2 B2.out
   go_wp2_with fail
   refine C.out.mono ?_;rintro r u3 ⟨rfl,hb⟩;have B3:=qsd (B2.out.trans (hb.mono B2.out.size));have F3:=qsd ((P2.out.2.below hb).mono hb.size);clear hb C q0 q1;have C:=hid (HE.out u3 ao ys.length co ys B3.out F3.out P2.out.1 rfl);obtain ⟨q0,q1⟩:=HP.out u3 B3.out;clear HE
   go_wp2_with fail
   refine C.out.mono ?_;rintro r u4 ⟨rfl,hb⟩;have B4:=qsd (B3.out.trans (hb.mono B3.out.size));have F4:=qsd ((F3.out.below hb).mono hb.size);clear hb C q0 q1 HP;have C:=hid (HG.out u4 a1 n1 c1 zs B4.out (HX.out.1 u4 B4.out) (List.Perm.refl _) (by have:=HX.out.2.2.2.2.2;omega))
   go_wp2_with fail
   refine C.out.mono ?_;rintro r u5 ⟨rfl,hb⟩;have B5:=qsd (B4.out.trans (hb.mono B4.out.size));have F5:=qsd ((F4.out.below hb).mono hb.size);clear hb C;have C:=hid (HG.out u5 ao ys.length co ys B5.out F5.out P2.out.1 rfl);clear HG
   go_wp2_with fail
   refine C.out.mono ?_;rintro r u6 ⟨rfl,hb⟩;have B6:=qsd (HX.out.2.1 u6 (B5.out.trans (hb.mono B5.out.size)));clear hb C
   go_wp2_with (go_at_call 9;refine (HEx.out _ _).mono ?_;rintro r u7 ⟨rfl,hu⟩;rw [hu];clear hu)
   go_ret;exact ⟨rfl,B6.out⟩
end
section
open Go.ChangeShapes Go.WideShapes Go.ChangeAt Go.RowKit
theorem ints_of12 {H:Type}{enc:TypeId×Value→H}{W:World}{k:Nat}{c:Value}{x:Option (DataW H×List MemPlace)}{y:DataW H×List MemPlace}(h:DataW.trod enc Tryz.prog W 0 (fun _=>true) true k 3 [c]=x) (hx:x=some y):∃ n:Int,c=.int .i64 n∧y.1=.lit (.int .i64 n)∧-9223372036854775808≤n∧n≤9223372036854775807:=by
 subst hx;obtain ⟨e,e2,rfl,hw⟩:=DataW.trod_int Tryz.underlying3 h
 cases e2
 have hw':-9223372036854775808≤e∧e≤9223372036854775807:=by
  simp [Lit.wf,IntKind.min,IntKind.max,IntKind.signed,IntKind.bits] at hw;omega
 exact ⟨e,rfl,rfl,hw'.1,hw'.2⟩
theorem pol_of12 {H:Type}{enc:TypeId×Value→H}{W:World}{r:Reach}{b0:Nat}{v:Value}{d:DataW H}{p:List MemPlace}(hv:Value.okWide Tryz.prog W r b0 25 v) (h:DataW.Trod enc Tryz.prog W 0 (fun _=>true) true 25 v d p) :
 ∃ a b:Int,v=.agg #[.int .i64 a,.int .i64 b]:=by
 obtain ⟨cs,rfl,hsz⟩:=okWide_struct Tryz.underlying25 hv;obtain ⟨fuel,hf⟩:=h;have hC:Tryz.prog.cellsOf 25=2:=by kernel_rfl
 have c3:Tryz.prog.cellsOf 3=1:=by kernel_rfl
 obtain ⟨xs,k,rfl,hx,hl,hxl,hfs⟩:=DataW.trod_struct Tryz.underlying25 hf;rw [hC] at hsz
 obtain ⟨c0,c1,rfl⟩:∃ c0 c1,cs=#[c0,c1]:=by
  obtain ⟨l⟩:=cs
  match l,hsz with
  | [a,b],_=>exact ⟨a,b,rfl⟩
 have h0:DataW.trod enc Tryz.prog W 0 (fun _=>true) true k 3 (List.take (Tryz.prog.cellsOf 3) (List.drop 0 [c0,c1]))=xs[0]?:=hfs 0 _ rfl
 have h1:DataW.trod enc Tryz.prog W 0 (fun _=>true) true k 3 (List.take (Tryz.prog.cellsOf 3) (List.drop 1 [c0,c1]))=xs[1]?:=hfs 1 _ rfl
 rw [c3] at h0 h1
 match xs,hxl with
 | [x0,x1],_ =>
   obtain ⟨a,rfl,_⟩:=ints_of12 (c:=c0) h0 rfl;obtain ⟨b,rfl,_⟩:=ints_of12 (c:=c1) h1 rfl;exact ⟨a,b,rfl⟩
end
end Go.Proofs.YtnpchhjhoadehaaGreatDoor
