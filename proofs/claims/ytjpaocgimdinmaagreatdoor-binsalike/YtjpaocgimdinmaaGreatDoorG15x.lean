/- Bins: Kept. -/
import Derived.Test.YtjpaocgimdinmaaGreatDoorE7x
import Derived.Deep.LoopGhost
import Derived.Test.YtjpaocgimdinmaaGreatDoorG10x
import Derived.Test.YtjpaocgimdinmaaGreatDoorD21x
import Derived.Test.YtjpaocgimdinmaaGreatDoorD36x
import Derived.Deep.Cut
import Derived.ProofKit
import Derived.OpenShut
import Derived.ChangeOld
import Derived.ChangeArms
import Derived.SizedLaws
import Derived.Laws.Cover2
namespace Go.Proofs.YtjpaocgimdinmaaGreatDoor
open Go Go.RowKit
set_option linter.unusedVariables false
set_option maxRecDepth 20000
set_option linter.unusedSimpArgs false

theorem idx9_any (K : Nat → Int) (i : Nat) (hi : i < 8) (w : World) : (Instr.index 141 (.agg #[.int .i64 (K 0 / 4294967296), .int .i64 (K 0 % 4294967296), .int .i64 (K 1 / 4294967296), .int .i64 (K 1 % 4294967296), .int .i64 (K 2 / 4294967296), .int .i64 (K 2 % 4294967296), .int .i64 (K 3 / 4294967296), .int .i64 (K 3 % 4294967296), .int .i64 (K 4 / 4294967296), .int .i64 (K 4 % 4294967296), .int .i64 (K 5 / 4294967296), .int .i64 (K 5 % 4294967296), .int .i64 (K 6 / 4294967296), .int .i64 (K 6 % 4294967296), .int .i64 (K 7 / 4294967296), .int .i64 (K 7 % 4294967296)]) (.int .i64 (i : Nat))).run Tryz.prog w = .ok (.agg #[.int .i64 (K i / 4294967296), .int .i64 (K i % 4294967296)]) w := by
  obtain rfl | rfl | rfl | rfl | rfl | rfl | rfl | rfl : i = 0 ∨ i = 1 ∨ i = 2 ∨ i = 3 ∨ i = 4 ∨ i = 5 ∨ i = 6 ∨ i = 7 := by omega
  · exact idx9_0 ..
  · exact idx9_1 ..
  · exact idx9_2 ..
  · exact idx9_3 ..
  · exact idx9_4 ..
  · exact idx9_5 ..
  · exact idx9_6 ..
  · exact idx9_7 ..
theorem until_two {P : Program} {ops : Array Oper} {Q : Exit → Act → World → Prop} {md : Region.Mode} {S : World → Prop} {stop i j : Nat} {oi oj : Oper} {fuel : Nat} {listed : Array Bool} {a : Act} {w : World} (hr : Region.ready md ops listed = [i, j]) (hi : ops[i]? = some oi) (hj : ops[j]? = some oj)
    (h1 : ∀ K' : Act → World → Prop, Shut (∀ b u, (i < stop → S u) → wpUntil P md ops Q S stop fuel (listed.setIfInBounds i true) b u → K' b u) → if Region.wanted oi (yielded ops a.tmps) = true then Oper.wp P oi a w K' Q else K' (a.put oi.dst undef) w)
    (h2 : ∀ K' : Act → World → Prop, Shut (∀ b u, (j < stop → S u) → wpUntil P md ops Q S stop fuel (listed.setIfInBounds j true) b u → K' b u) → if Region.wanted oj (yielded ops a.tmps) = true then Oper.wp P oj a w K' Q else K' (a.put oj.dst undef) w) : wpUntil P md ops Q S stop (fuel + 1) listed a w :=
  ⟨fun h0 => (by rw [hr] at h0; cases h0), fun k hk => by
    rw [hr] at hk
    rcases List.mem_cons.1 hk with rfl | hk
    · exact wpOp_step hi (fun K' hK => h1 K' (fun b u q1 q2 => hK b u ⟨q1, q2⟩))
    · obtain rfl := List.mem_singleton.1 hk
      exact wpOp_step hj (fun K' hK => h2 K' (fun b u q1 q2 => hK b u ⟨q1, q2⟩))⟩
/-- What stands while Kept walks. -/
structure Ki (w : World) (T : Int) (K : Nat → Int) (i : Nat) (wr : World) : Prop where
  res : Dk wr w.heap.size false (.slice none 0 0) 0
  sum : ∃ v, Dk wr (w.heap.size + 1) (dN (fo8 (kv T K i))) v (dE (fo8 (kv T K i))) ∧ Nt (w.heap.size + 2) wr v (dX (fo8 (kv T K i)))
  bel : Below w.heap.size w wr

set_option maxHeartbeats 4000000 in
theorem Kept_core (g : Nat) (T : Int) (K : Nat → Int) (w : World) (hg : g < w.heap.size) (hT1 : -1 ≤ T ∧ T ≤ 66) (hbig : ∀ i, i ≤ 8 → (kv T K i).natAbs < 2 ^ EB)
    (HC : Hid (∀ u, Below w.heap.size w u → u.cell? ⟨g, 2, none⟩ = some (.int .i64 (T - 34)) ∧ u.rangeAt g 3 [.int .i64 (K 0 / 4294967296), .int .i64 (K 0 % 4294967296), .int .i64 (K 1 / 4294967296), .int .i64 (K 1 % 4294967296), .int .i64 (K 2 / 4294967296), .int .i64 (K 2 % 4294967296), .int .i64 (K 3 / 4294967296), .int .i64 (K 3 % 4294967296), .int .i64 (K 4 / 4294967296), .int .i64 (K 4 % 4294967296), .int .i64 (K 5 / 4294967296), .int .i64 (K 5 % 4294967296), .int .i64 (K 6 / 4294967296), .int .i64 (K 6 % 4294967296), .int .i64 (K 7 / 4294967296), .int .i64 (K 7 % 4294967296)]))
    (HX : Hid (∀ i : Nat, i < 8 → ∀ u, Below w.heap.size w u → Calls Tryz.prog 146 #[.agg #[.int .i64 (K i / 4294967296), .int .i64 (K i % 4294967296)], .int .i64 (T - 34 - (i : Nat))] u fun r w' => (∃ v, r = .returned (.agg #[.bool (dN (fo8 (vb (T - i) (K i)))), v, .int .i64 (dE (fo8 (vb (T - i) (K i))))]) ∧ Nt u.heap.size w' v (dX (fo8 (vb (T - i) (K i))))) ∧ Below u.heap.size u w'))
    (HL : Hid (∀ i : Nat, i < 8 → (ws (dX (fo8 (vb (T - i) (K i))))).length ≤ 8192))
    (HA : Hid (∀ i : Nat, i < 8 → ∀ u a c b d, Below w.heap.size w u → Arg u a (ws (dX (fo8 (kv T K i)))).length c (ws (dX (fo8 (kv T K i)))) → Arg u b (ws (dX (fo8 (vb (T - i) (K i))))).length d (ws (dX (fo8 (vb (T - i) (K i))))) →
      Calls Tryz.prog 138 #[.agg #[.bool (dN (fo8 (kv T K i))), .slice a (ws (dX (fo8 (kv T K i)))).length c, .int .i64 (dE (fo8 (kv T K i)))], .agg #[.bool (dN (fo8 (vb (T - i) (K i)))), .slice b (ws (dX (fo8 (vb (T - i) (K i))))).length d, .int .i64 (dE (fo8 (vb (T - i) (K i))))]] u fun r w' => (∃ v, r = .returned (.tuple #[.agg #[.bool (dN (fo8 (kv T K (i + 1)))), v, .int .i64 (dE (fo8 (kv T K (i + 1))))], .int .i64 0]) ∧ Nt u.heap.size w' v (dX (fo8 (kv T K (i + 1))))) ∧ Below u.heap.size u w')) :
    Calls Tryz.prog 69 #[.pointer (some ⟨g, 0, none⟩)] w fun r w' => (∃ v, r = .returned (.agg #[.bool (dN (fo8 (kv T K 8))), v, .int .i64 (dE (fo8 (kv T K 8)))]) ∧ Nt w.heap.size w' v (dX (fo8 (kv T K 8)))) ∧ Below w.heap.size w w' := by
  obtain ⟨W0, hW0⟩ : ∃ W, W = (w.alloc (Obj.cells #[.bool false, .slice none 0 0, .int .i64 0] 33)).alloc (Obj.cells #[.bool false, .slice none 0 0, .int .i64 0] 33) := ⟨_, rfl⟩
  have HW0 := Aside.intro hW0
  have H0 : Aside (Ki w T K 0 W0) := by
    subst hW0
    have z0 : fo8 (kv T K 0) = some (false, 0, 0) := by unfold kv fo8; exact mkS_zero _ _
    refine ⟨(Dk.new w _ _ _).below (below_alloc _ _), ⟨.slice none 0 0, ?_, ?_⟩, (below_alloc _ _).trans ((below_alloc _ _).mono (by simp))⟩
    · rw [z0]
      have := Dk.new (w.alloc (Obj.cells #[.bool false, .slice none 0 0, .int .i64 0] 33)) false (.slice none 0 0) 0
      rw [show (w.alloc (Obj.cells #[.bool false, .slice none 0 0, .int .i64 0] 33)).heap.size = w.heap.size + 1 by simp] at this
      exact this
    · rw [z0]; exact Nt.nil _ _
  have HBG := Aside.intro hbig
  obtain ⟨da, hda⟩ := Tryz.row_arr9
  have HE := Aside.intro hda
  have HS4 : Aside ((Tryz.prog.info? 141).map (·.size) = some ([.int .i64 (K 0 / 4294967296), .int .i64 (K 0 % 4294967296), .int .i64 (K 1 / 4294967296), .int .i64 (K 1 % 4294967296), .int .i64 (K 2 / 4294967296), .int .i64 (K 2 % 4294967296), .int .i64 (K 3 / 4294967296), .int .i64 (K 3 % 4294967296), .int .i64 (K 4 / 4294967296), .int .i64 (K 4 % 4294967296), .int .i64 (K 5 / 4294967296), .int .i64 (K 5 % 4294967296), .int .i64 (K 6 / 4294967296), .int .i64 (K 6 % 4294967296), .int .i64 (K 7 / 4294967296), .int .i64 (K 7 % 4294967296)] : List Value).length) := Tryz.size_arr9
  have HR := Aside.intro (HC.out W0 H0.out.bel).2
  clear hda hbig hW0
  go_enter Tryz.func69, Tryz.ntmps69
  go_wp2_with (first
    | ((rw [← HW0.out]); (with_reducible refine wpList_load_mid (P := Tryz.prog) rfl 141 (.tmp 8) rfl g 3 rfl [.int .i64 (K 0 / 4294967296), .int .i64 (K 0 % 4294967296), .int .i64 (K 1 / 4294967296), .int .i64 (K 1 % 4294967296), .int .i64 (K 2 / 4294967296), .int .i64 (K 2 % 4294967296), .int .i64 (K 3 / 4294967296), .int .i64 (K 3 % 4294967296), .int .i64 (K 4 / 4294967296), .int .i64 (K 4 % 4294967296), .int .i64 (K 5 / 4294967296), .int .i64 (K 5 % 4294967296), .int .i64 (K 6 / 4294967296), .int .i64 (K 6 % 4294967296), .int .i64 (K 7 / 4294967296), .int .i64 (K 7 % 4294967296)] da HR.out HE.out.1 HE.out.2 HS4.out ?_)))
  clear HW0 HR HS4
  go_loopg [10] 8 (fun gk iv wr => ∃ i : Nat, gk + i = 8 ∧ iv = .int .i64 (i : Nat) ∧ Aside (Ki w T K i wr))
  case atStart => exact ⟨0, by omega, rfl, H0⟩
  case round =>
    clear H0 W0
    obtain ⟨i, hgi, rfl, HW⟩ := hrel
    by_cases hi : i < 8
    · have hix := fun u => idx9_any K i hi u
      have hl2 := HL.out i hi
      have hX2 := hid (HX.out i hi)
      have hA2 := hid (HA.out i hi)
      have l1 := (fo8_len (kv T K i) EB (Nat.le_trans EB5 (by decide)) (HBG.out i (by omega))).1
      have l3 := (fo8_len (kv T K (i + 1)) EB (Nat.le_trans EB5 (by decide)) (HBG.out (i + 1) (by omega))).1
      obtain ⟨v1, S1, S2⟩ := HW.out.sum
      obtain ⟨n1, hn1⟩ : ∃ b, b = dN (fo8 (kv T K i)) := ⟨_, rfl⟩
      obtain ⟨e1, he1⟩ : ∃ b, b = dE (fo8 (kv T K i)) := ⟨_, rfl⟩
      obtain ⟨X1, hX1⟩ : ∃ b, b = dX (fo8 (kv T K i)) := ⟨_, rfl⟩
      rw [← hn1, ← he1] at S1
      rw [← hX1] at S2 l1
      rw [← hn1, ← he1, ← hX1] at hA2
      have HXN := Aside.intro (And.intro hn1 (And.intro he1 hX1))
      clear hn1 he1 hX1
      obtain ⟨n2, hn2⟩ : ∃ b, b = dN (fo8 (vb (T - i) (K i))) := ⟨_, rfl⟩
      obtain ⟨e2, he2⟩ : ∃ b, b = dE (fo8 (vb (T - i) (K i))) := ⟨_, rfl⟩
      obtain ⟨X2, hXX2⟩ : ∃ b, b = dX (fo8 (vb (T - i) (K i))) := ⟨_, rfl⟩
      rw [← hn2, ← he2, ← hXX2] at hA2 hX2
      rw [← hXX2] at hl2
      clear hn2 he2 hXX2
      obtain ⟨n3, hn3⟩ : ∃ b, b = dN (fo8 (kv T K (i + 1))) := ⟨_, rfl⟩
      obtain ⟨e3, he3⟩ : ∃ b, b = dE (fo8 (kv T K (i + 1))) := ⟨_, rfl⟩
      obtain ⟨X3, hX3⟩ : ∃ b, b = dX (fo8 (kv T K (i + 1))) := ⟨_, rfl⟩
      rw [← hn3, ← he3, ← hX3] at hA2
      rw [← hX3] at l3
      have H3N := Aside.intro (And.intro hn3 (And.intro he3 hX3))
      clear hn3 he3 hX3
      obtain ⟨a1, c1, rfl, _⟩ := S2.arg (Nat.le_trans l1 (by decide))
      obtain ⟨U, hU⟩ : ∃ U, U = wr.alloc (.cells #[.int .i64 (K i / 4294967296), .int .i64 (K i % 4294967296)] 140) := ⟨_, rfl⟩
      have HU := Aside.intro hU
      have HV : Aside (Below w.heap.size w U.drew ∧ Dk U.drew (w.heap.size + 1) n1 (.slice a1 (ws X1).length c1) e1 ∧ Dk U.drew w.heap.size false (.slice none 0 0) 0 ∧ Nt (w.heap.size + 2) U.drew (.slice a1 (ws X1).length c1) X1 ∧ Bl U.drew wr.heap.size 140 [.int .i64 (K i / 4294967296), .int .i64 (K i % 4294967296)] ∧ w.heap.size + 1 < wr.heap.size) := by
        subst hU
        have hb2 := (below_alloc wr (.cells #[.int .i64 (K i / 4294967296), .int .i64 (K i % 4294967296)] 140)).drew
        exact ⟨HW.out.bel.trans (hb2.mono HW.out.bel.size), S1.below hb2, HW.out.res.below hb2, S2.below hb2, (Bl.new wr 140 [_, _]).drew, S1.lt⟩
      clear hU S1 S2
      have mk : Hid (∀ u, Below w.heap.size w u → Dk u (w.heap.size + 1) n1 (.slice a1 (ws X1).length c1) e1 → Bl u wr.heap.size 140 [.int .i64 (K i / 4294967296), .int .i64 (K i % 4294967296)] → u.cell? ⟨w.heap.size + 1, 0, none⟩ = some (.bool n1) ∧ u.cell? ⟨w.heap.size + 1, 1, none⟩ = some (.slice a1 (ws X1).length c1) ∧ u.cell? ⟨w.heap.size + 1, 2, none⟩ = some (.int .i64 e1) ∧ u.cell? ⟨wr.heap.size, 0, none⟩ = some (.int .i64 (K i / 4294967296)) ∧ u.cell? ⟨wr.heap.size, 1, none⟩ = some (.int .i64 (K i % 4294967296)) ∧ u.cell? ⟨g, 2, none⟩ = some (.int .i64 (T - 34))) :=
        hid (fun u p0 p1 p2 => ⟨p1.facts.1, p1.facts.2.1, p1.facts.2.2.1, p2.cell 0 _ rfl, p2.cell 1 _ rfl, (HC.out u p0).1⟩)
      have kS := Aside.intro (mk.out _ HV.out.1 HV.out.2.1 HV.out.2.2.2.2.1)
      have hi8 : (i : Int) < 8 := by omega
      have hw9 : IntKind.i64.wrap (T - 34 - (i : Int)) = T - 34 - (i : Int) := by rw [IntKind.wrap_i64]; omega
      clear HX HL HA HW
      go_wp2_with fail
      rw [← HU.out]
      clear HU
      refine until_region (fun u => u.cell? ⟨w.heap.size + 1, 0, none⟩ = some (.bool n1) ∧ u.cell? ⟨w.heap.size + 1, 1, none⟩ = some (.slice a1 (ws X1).length c1) ∧ u.cell? ⟨w.heap.size + 1, 2, none⟩ = some (.int .i64 e1) ∧ u.cell? ⟨wr.heap.size, 0, none⟩ = some (.int .i64 (K i / 4294967296)) ∧ u.cell? ⟨wr.heap.size, 1, none⟩ = some (.int .i64 (K i % 4294967296)) ∧ u.cell? ⟨g, 2, none⟩ = some (.int .i64 (T - 34))) 12 (by kernel_rfl) ?_
      refine until_take (i := 0) [9, 10] (v := ?_) rfl (by kernel_rfl) (by kernel_rfl) (by kernel_rfl) (by kernel_rfl) (by kernel_rfl) (fun _ _ _ h => h) (Or.inl ⟨by rfl, ?_⟩) kS.out ?_
      rotate_left
      · intro u hSu
        try dsimp only at hSu
        first | (go_simp; done) | (go_simp; with_reducible rfl)
      try simp only [Act.put, List.setIfInBounds_toArray, List.set_cons_zero, List.set_cons_succ]
      refine until_take (i := 1) [8, 9, 10] (v := ?_) rfl (by kernel_rfl) (by kernel_rfl) (by kernel_rfl) (by kernel_rfl) (by kernel_rfl) (fun _ _ _ h => h) (Or.inl ⟨by rfl, ?_⟩) kS.out ?_
      rotate_left
      · intro u hSu
        try dsimp only at hSu
        first | (go_simp; done) | (go_simp; with_reducible rfl)
      try simp only [Act.put, List.setIfInBounds_toArray, List.set_cons_zero, List.set_cons_succ]
      refine until_take (i := 2) [3, 4, 5, 7, 8, 9, 10] (v := ?_) rfl (by kernel_rfl) (by kernel_rfl) (by kernel_rfl) (by kernel_rfl) (by kernel_rfl) (fun _ _ _ h => h) (Or.inl ⟨by rfl, ?_⟩) kS.out ?_
      rotate_left
      · intro u hSu
        try dsimp only at hSu
        first | (go_simp; done) | (go_simp; with_reducible rfl)
      try simp only [Act.put, List.setIfInBounds_toArray, List.set_cons_zero, List.set_cons_succ]
      refine until_take (i := 3) [4, 5, 7, 8, 9, 10] (v := ?_) rfl (by kernel_rfl) (by kernel_rfl) (by kernel_rfl) (by kernel_rfl) (by kernel_rfl) (fun _ _ _ h => h) (Or.inl ⟨by rfl, ?_⟩) kS.out ?_
      rotate_left
      · intro u hSu
        try dsimp only at hSu
        first | (go_simp; done) | (go_simp; with_reducible rfl)
      try simp only [Act.put, List.setIfInBounds_toArray, List.set_cons_zero, List.set_cons_succ]
      refine until_take (i := 4) [5, 7, 8, 9, 10] (v := ?_) rfl (by kernel_rfl) (by kernel_rfl) (by kernel_rfl) (by kernel_rfl) (by kernel_rfl) (fun _ _ _ h => h) (Or.inl ⟨by rfl, ?_⟩) kS.out ?_
      rotate_left
      · intro u hSu
        try dsimp only at hSu
        first | (go_simp; done) | (go_simp; with_reducible rfl)
      try simp only [Act.put, List.setIfInBounds_toArray, List.set_cons_zero, List.set_cons_succ]
      refine until_take (i := 5) [7, 8, 9, 10] (v := ?_) rfl (by kernel_rfl) (by kernel_rfl) (by kernel_rfl) (by kernel_rfl) (by kernel_rfl) (fun _ _ _ h => h) (Or.inl ⟨by rfl, ?_⟩) kS.out ?_
      rotate_left
      · intro u hSu
        try dsimp only at hSu
        first | (go_simp; done) | (go_simp; with_reducible rfl)
      try simp only [Act.put, List.setIfInBounds_toArray, List.set_cons_zero, List.set_cons_succ]
      refine until_take (i := 6) [7, 8, 9, 10] (v := ?_) rfl (by kernel_rfl) (by kernel_rfl) (by kernel_rfl) (by kernel_rfl) (by kernel_rfl) (fun _ _ _ h => h) (Or.inl ⟨by rfl, ?_⟩) kS.out ?_
      rotate_left
      · intro u hSu
        try dsimp only at hSu
        first | (go_simp; done) | (go_simp; with_reducible rfl)
      try simp only [Act.put, List.setIfInBounds_toArray, List.set_cons_zero, List.set_cons_succ]
      refine until_take (i := 7) [8, 9, 10] (v := ?_) rfl (by kernel_rfl) (by kernel_rfl) (by kernel_rfl) (by kernel_rfl) (by kernel_rfl) (fun _ _ _ h => h) (Or.inl ⟨by rfl, ?_⟩) kS.out ?_
      rotate_left
      · intro u hSu
        try dsimp only at hSu
        first | (go_simp; done) | (go_simp; with_reducible rfl)
      try simp only [Act.put, List.setIfInBounds_toArray, List.set_cons_zero, List.set_cons_succ]
      refine until_one (i := 8) (by kernel_rfl) rfl (fun K' hK => ?_)
      go_simp
      refine (hX2.out _ HV.out.1).mono ?_
      rintro r u ⟨⟨v2, rfl, hN2⟩, hb⟩
      obtain ⟨a2, c2, rfl, A2⟩ := hN2.arg (Nat.le_trans hl2 (by decide))
      have hs0 := HV.out.1.size
      have HV := Aside.intro (And.intro (HV.out.1.trans (hb.mono HV.out.1.size)) (And.intro (HV.out.2.1.below hb) (And.intro (HV.out.2.2.1.below hb) (And.intro (HV.out.2.2.2.1.below hb) (And.intro (HV.out.2.2.2.2.1.below hb HV.out.2.2.2.2.1.lt) HV.out.2.2.2.2.2)))))
      have kS := Aside.intro (mk.out _ HV.out.1 HV.out.2.1 HV.out.2.2.2.2.1)
      have HA2 := Aside.intro A2
      clear hb A2 hN2
      dsimp only
      refine hK.out _ _ (fun _ => kS.out) ?_
      clear hK K'
      try simp only [Act.put, List.setIfInBounds_toArray, List.set_cons_zero, List.set_cons_succ]
      refine until_one (i := 9) (by kernel_rfl) rfl (fun K' hK => ?_)
      go_simp
      refine (hA2.out u a1 c1 a2 c2 HV.out.1 (HV.out.2.2.2.1.arg' (Nat.le_trans l1 (by decide))).2 HA2.out).mono ?_
      rintro r u2 ⟨⟨v3, rfl, hN3⟩, hb⟩
      obtain ⟨a3, c3, rfl, _⟩ := hN3.arg (Nat.le_trans l3 (by decide))
      have HN3 := Aside.intro (hN3.mono (show w.heap.size + 2 ≤ u.heap.size by have := HV.out.2.2.2.2.1.lt; have := HV.out.2.2.2.2.2; omega))
      have HV := Aside.intro (And.intro (HV.out.1.trans (hb.mono HV.out.1.size)) (And.intro (HV.out.2.1.below hb) (And.intro (HV.out.2.2.1.below hb) (And.intro (HV.out.2.2.2.1.below hb) (And.intro (HV.out.2.2.2.2.1.below hb HV.out.2.2.2.2.1.lt) HV.out.2.2.2.2.2)))))
      have kS := Aside.intro (mk.out _ HV.out.1 HV.out.2.1 HV.out.2.2.2.2.1)
      clear hb hN3
      dsimp only
      refine hK.out _ _ (fun _ => kS.out) ?_
      clear hK K'
      try simp only [Act.put, List.setIfInBounds_toArray, List.set_cons_zero, List.set_cons_succ]
      refine until_take (i := 10) [] (v := ?_) rfl (by kernel_rfl) (by kernel_rfl) (by kernel_rfl) (by kernel_rfl) (by kernel_rfl) (fun _ _ _ h => h) (Or.inl ⟨by rfl, ?_⟩) kS.out ?_
      rotate_left
      · intro u hSu
        try dsimp only at hSu
        first | (go_simp; done) | (go_simp; with_reducible rfl)
      try simp only [Act.put, List.setIfInBounds_toArray, List.set_cons_zero, List.set_cons_succ]
      obtain ⟨z0, z1, z2, zf0, zf1, zf2⟩ := HV.out.2.1.facts
      have HXX : Aside (Ki w T K (i + 1) (st3 u2 (w.heap.size + 1) (.bool n3) (.slice a3 (ws X3).length c3) (.int .i64 e3))) := by
        have hbt := st3_but8 (w.heap.size + 1) u2 (.bool n3) (.slice a3 (ws X3).length c3) (.int .i64 e3)
        refine ⟨HV.out.2.2.1.but8 hbt (by omega), ⟨.slice a3 (ws X3).length c3, ?_, ?_⟩, ?_⟩
        · rw [← H3N.out.1, ← H3N.out.2.1]; exact HV.out.2.1.set _ _ _
        · rw [← H3N.out.2.2]; exact HN3.out.but8 hbt (by omega)
        · exact But.below HV.out.1 hbt HV.out.1.size (by omega)
      unfold st3 at HXX
      refine until_two (i := 11) (j := 12) (by kernel_rfl) rfl rfl (fun K' hK => ?_) (fun K' hK => ?_)
      · go_simp
        refine hK.out _ _ (fun _ => kS.out) ?_
        clear hK K'
        try simp only [Act.put, List.setIfInBounds_toArray, List.set_cons_zero, List.set_cons_succ]
        refine until_two (i := 12) (j := 13) (by kernel_rfl) rfl rfl (fun K' hK => ?_) (fun K' hK => ?_)
        · go_simp
          refine hK.out _ _ (fun h => absurd h (by decide)) ?_
          clear hK K'
          try simp only [Act.put, List.setIfInBounds_toArray, List.set_cons_zero, List.set_cons_succ]
          refine until_one (i := 13) (by kernel_rfl) rfl (fun K' hK => ?_)
          go_simp
          refine hK.out _ _ (fun h => absurd h (by decide)) ?_
          clear hK K'
          try simp only [Act.put, List.setIfInBounds_toArray, List.set_cons_zero, List.set_cons_succ]
          refine until_done (by kernel_rfl) ?_ _
          clear kS z0 z1 z2 zf0 zf1 zf2 HV HN3 HA2 H3N HXN mk hX2 hA2
          go_wp2
          go_roundg (gk - 1)
          case measure => omega
          case rel => exact ⟨i + 1, by omega, by simp, HXX⟩
        · go_simp
          refine hK.out _ _ (fun h => absurd h (by decide)) ?_
          clear hK K'
          try simp only [Act.put, List.setIfInBounds_toArray, List.set_cons_zero, List.set_cons_succ]
          refine until_one (i := 12) (by kernel_rfl) rfl (fun K' hK => ?_)
          go_simp
          refine hK.out _ _ (fun h => absurd h (by decide)) ?_
          clear hK K'
          try simp only [Act.put, List.setIfInBounds_toArray, List.set_cons_zero, List.set_cons_succ]
          refine until_done (by kernel_rfl) ?_ _
          clear kS z0 z1 z2 zf0 zf1 zf2 HV HN3 HA2 H3N HXN mk hX2 hA2
          go_wp2
          go_roundg (gk - 1)
          case measure => omega
          case rel => exact ⟨i + 1, by omega, by simp, HXX⟩
      · go_simp
        refine hK.out _ _ (fun h => absurd h (by decide)) ?_
        clear hK K'
        try simp only [Act.put, List.setIfInBounds_toArray, List.set_cons_zero, List.set_cons_succ]
        refine until_one (i := 11) (by kernel_rfl) rfl (fun K' hK => ?_)
        go_simp
        refine hK.out _ _ (fun _ => kS.out) ?_
        clear hK K'
        try simp only [Act.put, List.setIfInBounds_toArray, List.set_cons_zero, List.set_cons_succ]
        refine until_one (i := 13) (by kernel_rfl) rfl (fun K' hK => ?_)
        go_simp
        refine hK.out _ _ (fun h => absurd h (by decide)) ?_
        clear hK K'
        try simp only [Act.put, List.setIfInBounds_toArray, List.set_cons_zero, List.set_cons_succ]
        refine until_done (by kernel_rfl) ?_ _
        clear kS z0 z1 z2 zf0 zf1 zf2 HV HN3 HA2 H3N HXN mk hX2 hA2
        go_wp2
        go_roundg (gk - 1)
        case measure => omega
        case rel => exact ⟨i + 1, by omega, by simp, HXX⟩
    · obtain rfl : i = 8 := by omega
      obtain rfl : gk = 0 := by omega
      obtain ⟨v1, S1, S2⟩ := HW.out.sum
      have l1 := (fo8_len (kv T K 8) EB (Nat.le_trans EB5 (by decide)) (HBG.out 8 (by omega))).1
      obtain ⟨n1, hn1⟩ : ∃ b, b = dN (fo8 (kv T K 8)) := ⟨_, rfl⟩
      obtain ⟨e1, he1⟩ : ∃ b, b = dE (fo8 (kv T K 8)) := ⟨_, rfl⟩
      obtain ⟨X1, hX1⟩ : ∃ b, b = dX (fo8 (kv T K 8)) := ⟨_, rfl⟩
      rw [← hn1, ← he1] at S1
      rw [← hX1] at S2 l1
      have HNM := Aside.intro (And.intro hn1 (And.intro he1 hX1))
      obtain ⟨a1, c1, rfl, _⟩ := S2.arg (Nat.le_trans l1 (by decide))
      obtain ⟨y0, y1, y2, yf0, yf1, yf2⟩ := S1.facts
      have R2 := HW.out.res
      obtain ⟨z0, z1, z2, zf0, zf1, zf2⟩ := R2.facts
      have hbt := st3_but8 w.heap.size wr (.bool n1) (.slice a1 (ws X1).length c1) (.int .i64 e1)
      have HF := Aside.intro (And.intro (R2.set n1 (.slice a1 (ws X1).length c1) e1) (And.intro ((S2.mono (show w.heap.size ≤ w.heap.size + 2 by omega)).dk8 R2 hbt) (But.below HW.out.bel hbt HW.out.bel.size (Nat.le_refl _))))
      clear HX HL HA HC S1 S2 R2 hbt HW hn1 he1 hX1
      go_wp2
      refine close8 Tryz.results69 (g := w.heap.size) (n := n1) (v := .slice a1 (ws X1).length c1) (e := e1) rfl HF.out.1 ?_
      rw [← HNM.out.1, ← HNM.out.2.1, ← HNM.out.2.2]
      exact ⟨⟨_, rfl, HF.out.2.1⟩, HF.out.2.2⟩
end Go.Proofs.YtjpaocgimdinmaaGreatDoor

/- Bins: Kept, Bound, Count, told. -/
namespace Go.Proofs.YtjpaocgimdinmaaGreatDoor
open Go Go.RowKit
set_option linter.unusedVariables false
set_option maxRecDepth 20000
set_option linter.unusedSimpArgs false

/-- What bins keep of a list. -/
def kvz (f : Nat) (L : List Nat) : Int := kv (tL (ZL L)) (kf f (tL (ZL L)) (SL (ZL L))) 8
theorem ZL_div (L : List Nat) : ∀ z ∈ ZL L, (16384 : Int) ∣ z := by
  intro z hz
  obtain ⟨x, _, rfl⟩ := List.mem_map.1 hz
  exact ⟨fvW x, by unfold zW; rw [Int.mul_comm]⟩
theorem kf_hi (f : Nat) (L : List Nat) (hl : L.length ≤ 1099511627776) (i : Nat) : (kf f (tL (ZL L)) (SL (ZL L)) i).natAbs ≤ 2 ^ 75 := by
  unfold kf; split
  · have := SL_hi L hl (tL (ZL L) - i); omega
  · simp
theorem kvz_EB (f : Nat) (L : List Nat) (hF : Fin9 L) (hl : L.length ≤ 1099511627776) : (kvz f L).natAbs < 2 ^ EB := kv_EB _ _ 8 (Nat.le_refl _) (by have := tL_hi L hF; omega) (kf_hi f L hl)
theorem Kept9 (g f : Nat) (L : List Nat) (w : World) (hB : Bz w g f L) (hF : Fin9 L) (hl : L.length ≤ 1099511627776) (hT : Tab w) :
    Calls Tryz.prog 69 #[.pointer (some ⟨g, 0, none⟩)] w fun r w' => (∃ v, r = .returned (.agg #[.bool (dN (fo8 (kvz f L))), v, .int .i64 (dE (fo8 (kvz f L)))]) ∧ Nt w.heap.size w' v (dX (fo8 (kvz f L)))) ∧ Below w.heap.size w w' := by
  have b1 := tL_ge (ZL L)
  have b2 := tL_hi L hF
  have hK := kf_hi f L hl
  obtain ⟨K, hKK⟩ : ∃ K, K = kf f (tL (ZL L)) (SL (ZL L)) := ⟨_, rfl⟩
  obtain ⟨T, hTT⟩ : ∃ T, T = tL (ZL L) := ⟨_, rfl⟩
  have hz : ∀ i : Nat, T - i < 0 → K i = 0 := fun i hi => by
    rw [hKK]; unfold kf; split
    · rw [← hTT]; exact SL_neg _ _ hi
    · rfl
  have hd : ∀ i : Nat, T - i = 0 → (16384 : Int) ∣ K i := fun i hi => by
    rw [hKK]; unfold kf; split
    · rw [← hTT, hi]; exact SL_div _ (ZL_div L)
    · exact ⟨0, rfl⟩
  unfold kvz
  rw [← hKK, ← hTT]
  rw [← hKK] at hK
  rw [← hTT] at b1 b2
  have hbig : ∀ i, i ≤ 8 → (kv T K i).natAbs < 2 ^ EB := fun i hi => kv_EB T K i hi (by omega) hK
  have hvb : ∀ i : Nat, (vb (T - i) (K i)).natAbs < 2 ^ EB := fun i => vb_EB _ _ (by omega) (hK i)
  have e5 : EB ≤ 200000 := Nat.le_trans EB5 (by decide)
  refine Kept_core g T K w hB.lt ⟨b1, b2⟩ hbig (hid (fun u hu => ?_)) (hid (fun i hi u hu => ?_)) (hid (fun i hi => ?_)) (hid (fun i hi u a c b d hu A1 A2 => ?_))
  · have hB2 := hB.below hu hB.lt
    refine ⟨by rw [hTT]; exact Bs.tp hB2, Bs.row hB2 K hKK.symm⟩
  · have := exact9 (K i) (T - i) (by omega) (hz i) (hd i) (hK i) u (hT.belows hu)
    rw [show T - (i : Int) - 34 = T - 34 - i by omega] at this
    exact this
  · exact (fo8_len _ EB e5 (hvb i)).1
  · obtain ⟨q1, q2, q3, _⟩ := fo8_len (vb (T - i) (K i)) EB e5 (hvb i)
    have := add_any8 (kv T K i) (vb (T - i) (K i)) EB EB5 (hbig i (by omega)) (hvb i) (dE (fo8 (vb (T - i) (K i)))) q2 q3 (dN (fo8 (vb (T - i) (K i)))) (dX (fo8 (vb (T - i) (K i)))) (fo8_self _ EB e5 (hvb i)) u a b c d (hT.belows hu) A1 A2
    exact this
set_option maxHeartbeats 400000 in
theorem Count9 (g f : Nat) (L : List Nat) (w : World) (hB : Bz w g f L) : Calls Tryz.prog 72 #[.pointer (some ⟨g, 0, none⟩)] w fun r w' => r = .returned (.int .i64 (L.length : Nat)) ∧ w' = w := by
  have k1 := Bs.cnt hB
  clear hB
  go_enter Tryz.func72, Tryz.ntmps72
  go_wp2
  go_ret
  exact ⟨rfl, rfl⟩
/-- What Bound tells. -/
def bdW (f : Nat) (L : List Nat) : Nat := if tL (ZL L) = -1 then 0 else (rndS (ib (L.length : Nat) (tL (ZL L) - 34 - f + 1)) 2).1
set_option maxHeartbeats 1000000 in
theorem Bound_no (g f : Nat) (c : Int) (D : Int → Int) (w : World) (hB : Bs w g f c (-1) D) : Calls Tryz.prog 71 #[.pointer (some ⟨g, 0, none⟩)] w fun r w' => r = .returned (.float .f64 0) ∧ w' = w := by
  have k2 : w.cell? ⟨g, 2, none⟩ = some (.int .i64 (-35)) := Bs.tp hB
  clear hB
  go_enter Tryz.func71, Tryz.ntmps71
  go_wp2
  go_ret
  exact ⟨rfl, rfl⟩
set_option maxHeartbeats 1000000 in
theorem Bound_core (g : Nat) (f c T : Int) (n1 : Bool) (X1 : Nat) (e1 : Int) (x : Nat) (er : Int) (w : World) (hg : g < w.heap.size) (hT : 0 ≤ T ∧ T ≤ 66) (hf : 0 ≤ f ∧ f ≤ 8) (l1 : (ws X1).length ≤ 8192)
    (HC : Hid (∀ u, Below w.heap.size w u → u.cell? ⟨g, 0, none⟩ = some (.int .i64 f) ∧ u.cell? ⟨g, 1, none⟩ = some (.int .i64 c) ∧ u.cell? ⟨g, 2, none⟩ = some (.int .i64 (T - 34))))
    (HI : Hid (∀ u, Below w.heap.size w u → Calls Tryz.prog 147 #[.int .i64 c, .int .i64 (T - 34 - f + 1)] u fun r w' => (∃ v, r = .returned (.agg #[.bool n1, v, .int .i64 e1]) ∧ Nt u.heap.size w' v X1) ∧ Below u.heap.size u w'))
    (HR : Hid (∀ u a c, Below w.heap.size w u → Arg u a (ws X1).length c (ws X1) → Calls Tryz.prog 103 #[.agg #[.bool n1, .slice a (ws X1).length c, .int .i64 e1], .int .i64 2] u fun r w' => r = .returned (.tuple #[.float .f64 x, .int .i64 er]) ∧ Below u.heap.size u w')) :
    Calls Tryz.prog 71 #[.pointer (some ⟨g, 0, none⟩)] w fun r w' => r = .returned (.float .f64 x) ∧ Below w.heap.size w w' := by
  obtain ⟨k0, k1, k2⟩ := HC.out w (Below.refl _ _)
  have hne : ((T - 34 == -35) : Bool) = false := by simp; omega
  have hne2 : ¬ (T - 34 = -35) := by omega
  have BB : Aside (Below w.heap.size w w.drew) := (Below.refl _ _).drew
  have kS := Aside.intro (HC.out _ BB.out)
  have hw1 : IntKind.i64.wrap (T - 34 - f) = T - 34 - f := by rw [IntKind.wrap_i64]; omega
  have hw2 : IntKind.i64.wrap (T - 34 - f + 1) = T - 34 - f + 1 := by rw [IntKind.wrap_i64]; omega
  go_enter Tryz.func71, Tryz.ntmps71
  go_wp2_with fail
  clear k0 k1 k2
  go_region_held (fun u => u.cell? ⟨g, 0, none⟩ = some (.int .i64 f) ∧ u.cell? ⟨g, 1, none⟩ = some (.int .i64 c) ∧ u.cell? ⟨g, 2, none⟩ = some (.int .i64 (T - 34))) (first | with_reducible exact kU.out | with_reducible exact kT.out | with_reducible exact kS.out) (first
    | (go_at_call 147
       with_reducible refine (HI.out _ BB.out).mono ?_
       rintro r u ⟨⟨v1, rfl, hN1⟩, hb1⟩
       obtain ⟨a1, c1, rfl, A1⟩ := hN1.arg (Nat.le_trans l1 (by decide))
       have HA := Aside.intro A1
       have BB2 := Aside.intro (BB.out.trans (hb1.mono BB.out.size))
       have kT := Aside.intro (HC.out _ BB2.out)
       clear A1 hN1 hb1)
    | (go_at_call 103
       with_reducible refine (HR.out _ a1 c1 BB2.out HA.out).mono ?_
       rintro r u2 ⟨rfl, hb2⟩
       have BB3 := Aside.intro (BB2.out.trans (hb2.mono BB2.out.size))
       have kU := Aside.intro (HC.out _ BB3.out)
       clear hb2))
  all_goals (
    go_wp2
    go_ret
    exact ⟨rfl, BB3.out⟩)
theorem Bound9 (g f : Nat) (L : List Nat) (w : World) (hB : Bz w g f L) (hF : Fin9 L) (hl : L.length ≤ 1099511627776) (hf : f ≤ 8) (hT : Tab w) :
    Calls Tryz.prog 71 #[.pointer (some ⟨g, 0, none⟩)] w fun r w' => r = .returned (.float .f64 (bdW f L)) ∧ Below w.heap.size w w' := by
  have b1 := tL_ge (ZL L)
  have b2 := tL_hi L hF
  unfold bdW
  by_cases h : tL (ZL L) = -1
  · rw [if_pos h]
    unfold Bz at hB
    rw [h] at hB
    refine (Bound_no g f _ _ w hB).mono ?_
    rintro r w' ⟨rfl, rfl⟩
    exact ⟨rfl, Below.refl _ _⟩
  · rw [if_neg h]
    have hj : -1000 ≤ tL (ZL L) - 34 - f + 1 ∧ tL (ZL L) - 34 - f + 1 ≤ 1000 := by omega
    obtain ⟨q1, q2, q3, q4, q5, q6⟩ := ib_int (L.length : Nat) (tL (ZL L) - 34 - f + 1) (by omega) (by omega) hj
    refine Bound_core g f (L.length : Nat) (tL (ZL L)) (dN (ib (L.length : Nat) (tL (ZL L) - 34 - f + 1))) (dX (ib (L.length : Nat) (tL (ZL L) - 34 - f + 1))) (dE (ib (L.length : Nat) (tL (ZL L) - 34 - f + 1))) _ (rndS (ib (L.length : Nat) (tL (ZL L) - 34 - f + 1)) 2).2 w hB.lt (by omega) (by omega) q5 (hid (fun u hu => ?_)) (hid (fun u hu => ?_)) (hid (fun u a c hu A => ?_))
    · have hB2 := hB.below hu hB.lt
      exact ⟨Bs.fold hB2, Bs.cnt hB2, Bs.tp hB2⟩
    · exact inBin_any _ _ (by omega) (by omega) hj u (hT.belows hu)
    · have hfr : mkS (dN (ib (L.length : Nat) (tL (ZL L) - 34 - f + 1))) (dX (ib (L.length : Nat) (tL (ZL L) - 34 - f + 1))) (dE (ib (L.length : Nat) (tL (ZL L) - 34 - f + 1))) = ib (L.length : Nat) (tL (ZL L) - 34 - f + 1) ∧ -9223372036854775808 ≤ dE (ib (L.length : Nat) (tL (ZL L) - 34 - f + 1)) ∧ dE (ib (L.length : Nat) (tL (ZL L) - 34 - f + 1)) ≤ 9223372036854775807 := by
        cases hib : ib (L.length : Nat) (tL (ZL L) - 34 - f + 1) with
        | none => rw [hib] at q6; cases q6
        | some p =>
          obtain ⟨n, X, e⟩ := p
          have F := mkS_frm hib
          refine ⟨mkS_idem F, ?_, ?_⟩
          · have := F.down; show -9223372036854775808 ≤ e; omega
          · have := F.up; show e ≤ 9223372036854775807; omega
      have := Round_any A (hT.belows hu) (dN (ib (L.length : Nat) (tL (ZL L) - 34 - f + 1))) (dE (ib (L.length : Nat) (tL (ZL L) - 34 - f + 1))) 2 hfr.2.1 hfr.2.2
      rw [val_ws, hfr.1] at this
      exact this
end Go.Proofs.YtjpaocgimdinmaaGreatDoor

/- Parts: the nearest finite number, what is left, how long it goes on. -/
namespace Go.Proofs.YtjpaocgimdinmaaGreatDoor
open Go.RowKit J
set_option linter.unusedVariables false
set_option maxRecDepth 20000
set_option linter.unusedSimpArgs false

/-- An infinity made the greatest number of its sign. -/
def clW (x : Nat) : Nat := if magW x == 9218868437227405312 then x - 1 else x
/-- The nearest finite number. -/
def nrW (V : Int) : Nat := clW (rndS (fo8 V) 0).1
/-- What Parts tells of V. -/
def IsParts : Int → List Nat → Prop
  | V, [] => V = 0
  | V, x :: l => V ≠ 0 ∧ x = nrW V ∧ IsParts (V - fvW x) l
theorem IsParts.one {V : Int} {l k : List Nat} (h : IsParts V l) (h2 : IsParts V k) : l = k := by
  induction l generalizing V k with
  | nil =>
    cases k with
    | nil => rfl
    | cons y k => exact absurd h h2.1
  | cons x l ih =>
    cases k with
    | nil => exact absurd h2 h.1
    | cons y k =>
      obtain ⟨_, rfl, h3⟩ := h
      obtain ⟨_, rfl, h4⟩ := h2
      rw [ih h3 h4]

theorem ex_ne (V : Nat) (hV : V ≠ 0) : ∃ R, NE R V 1 := by
  obtain ⟨R, _, h⟩ := nearest_ne false V 0 0 hV
  exact ⟨R, by simpa using h⟩
/-- What is rounded, by its nearest rung. -/
theorem rnd_ne (V : Int) (m : Nat) (hm : m ≤ 200000) (hV : V.natAbs < 2 ^ m) (h0 : V ≠ 0) {R : Nat} (hR : NE R V.natAbs 1) :
    rndS (fo8 V) 0 = (wd64 (decide (V < 0)) (min R 9218868437227405312), 0) := by
  obtain ⟨n, X, e, h1, F, h2, h3, _⟩ := fo8_frm V m hm hV
  have hf := fo8_fo V m hm hV
  rw [h1] at hf ⊢
  have hU := U_pos
  have hT : V * (UU : Int) ≠ 0 := fun q => by
    rcases Int.mul_eq_zero.1 q with q | q
    · exact h0 q
    · omega
  obtain ⟨hX, hn, hw⟩ := round_fo hf hT
  have hs := hR.scale UU hU
  rw [Nat.one_mul] at hs
  have e1 : (V * (UU : Int)).natAbs = V.natAbs * UU := by rw [Int.natAbs_mul, Int.natAbs_natCast]
  rw [rndS_form 0 n X e (by omega) (by omega), hw R (by rw [e1]; exact hs)]
  unfold rS
  rw [if_neg hX, h3 h0]
theorem sg_neg (s : Bool) (v : Nat) : B.sg s v = if s then -(v : Int) else v := by cases s <;> rfl
theorem maxV (a : Nat) (ha : a = 2045) : vK 9218868437227405311 = 9007199254740991 * 2 ^ a := by
  have e := vK_word a 9007199254740991 (.inr (by decide)) (by decide)
  rw [show a * 4503599627370496 + 9007199254740991 = 9218868437227405311 by omega] at e
  exact e
theorem magW_cl (s : Bool) : clW (wd64 s 9218868437227405312) = wd64 s 9218868437227405311 := by cases s <;> decide
/-- What the nearest finite number is: either the nearest number, or the greatest one, where the sum lies beyond. -/
theorem nr_any (V : Int) (m : Nat) (hm : m ≤ 200000) (hV : V.natAbs < 2 ^ m) (h0 : V ≠ 0) :
    (Wd (nrW V) ∧ finW (nrW V)) ∧ ((nrW V = (rndS (fo8 V) 0).1 ∧ finW (rndS (fo8 V) 0).1 ∧ IsRn V (fvW (nrW V))) ∨
      ((rndS (fo8 V) 0).1 = wd64 (decide (V < 0)) 9218868437227405312 ∧ nrW V = wd64 (decide (V < 0)) 9218868437227405311 ∧ fvW (nrW V) = B.sg (decide (V < 0)) (vK 9218868437227405311) ∧ vK 9218868437227405311 ≤ V.natAbs)) := by
  obtain ⟨R, hR⟩ := ex_ne V.natAbs (by omega)
  have hr := rnd_ne V m hm hV h0 hR
  unfold nrW
  rw [hr]
  simp only
  by_cases hi : R < 9218868437227405312
  · rw [Nat.min_eq_left (by omega)]
    obtain ⟨g1, g2, g3⟩ := magW_wd (decide (V < 0)) R (by omega)
    have hc : clW (wd64 (decide (V < 0)) R) = wd64 (decide (V < 0)) R := by
      unfold clW
      rw [g1, if_neg (by simp; omega)]
    rw [hc]
    obtain ⟨f1, f2⟩ := fv_wd (decide (V < 0)) R hi
    refine ⟨⟨g3, f1⟩, .inl ⟨rfl, f1, ?_⟩⟩
    rw [f2]
    exact ne_rn hR (fun _ => rfl)
  · rw [Nat.min_eq_right (by omega), magW_cl]
    obtain ⟨g1, g2, g3⟩ := magW_wd (decide (V < 0)) 9218868437227405311 (by omega)
    obtain ⟨f1, f2⟩ := fv_wd (decide (V < 0)) 9218868437227405311 (by omega)
    refine ⟨⟨g3, f1⟩, .inr ⟨rfl, rfl, f2, ?_⟩⟩
    have hd : (vK (R - 1) + vK R) * 1 ≤ 2 * V.natAbs := hR.dn (by omega)
    have h1 : vK 9218868437227405311 ≤ vK (R - 1) := vmono (by omega)
    have h2 : vK 9218868437227405311 ≤ vK R := vmono (by omega)
    rw [Nat.mul_one] at hd
    omega
def EL : Nat := 2097
def ET : Nat := 2117
/-- How long it goes on at most. -/
def stp (V : Int) : Nat := V.natAbs / 2 ^ EL + bl V.natAbs
theorem stp_less (V : Int) (m : Nat) (hm : m ≤ 200000) (hV : V.natAbs < 2 ^ m) (h0 : V ≠ 0) : stp (V - fvW (nrW V)) < stp V ∧ (V - fvW (nrW V)).natAbs < V.natAbs := by
  obtain ⟨_, h | ⟨_, _, h3, h4⟩⟩ := nr_any V m hm hV h0
  · have hr := h.2.2.rel
    generalize fvW (nrW V) = s at *
    have e : (s - V).natAbs = (V - s).natAbs := by omega
    rw [e] at hr
    have hlt : (V - s).natAbs < V.natAbs := by omega
    refine ⟨?_, hlt⟩
    unfold stp
    have hd : (V - s).natAbs / 2 ^ EL ≤ V.natAbs / 2 ^ EL := Nat.div_le_div_right (by omega)
    have hb : bl (V - s).natAbs < bl V.natAbs := by
      by_cases hz : (V - s).natAbs = 0
      · rw [hz]
        have : 0 < bl V.natAbs := (bl_gt _ 0).2 (by simp; omega)
        have : bl 0 = 0 := by decide
        omega
      · have h1 := bl_mul_pow 1 (V - s).natAbs hz
        have h2 := bl_mono (X := 2 ^ 1 * (V - s).natAbs) (Y := V.natAbs) (by omega)
        omega
    omega
  · obtain ⟨a, ha⟩ : ∃ a, a = 2045 := ⟨_, rfl⟩
    have hp : (2 : Nat) ^ EL ≤ vK 9218868437227405311 := by
      rw [maxV a ha, show EL = 52 + a by unfold EL; omega, Nat.pow_add]
      exact Nat.mul_le_mul_right _ (by decide)
    have h1 : 0 < (2 : Nat) ^ EL := Nat.two_pow_pos _
    have hs : (V - fvW (nrW V)).natAbs = V.natAbs - vK 9218868437227405311 := by
      rw [h3, sg_neg]
      by_cases hn : V < 0
      · rw [decide_eq_true hn, if_pos rfl]; omega
      · rw [decide_eq_false hn, if_neg (by decide)]; omega
    generalize vK 9218868437227405311 = M at *
    refine ⟨?_, by rw [hs]; omega⟩
    unfold stp
    rw [hs]
    have h2 := bl_mono (X := V.natAbs - M) (Y := V.natAbs) (by omega)
    have h3 : (V.natAbs - M) / 2 ^ EL < V.natAbs / 2 ^ EL := by
      generalize (2 : Nat) ^ EL = q at *
      have : (V.natAbs - M) / q ≤ (V.natAbs - q) / q := Nat.div_le_div_right (by omega)
      have e : (V.natAbs - q) / q + 1 = V.natAbs / q := by
        rw [← Nat.add_div_right _ h1, Nat.sub_add_cancel (by omega)]
      omega
    omega
theorem stp_top (V : Int) (hV : V.natAbs < 2 ^ ET) : stp V ≤ 1100000 := by
  unfold stp
  have h1 := blLe hV
  have h2 : V.natAbs / 2 ^ EL ≤ 1048576 := by
    refine Nat.le_of_lt_succ (Nat.div_lt_of_lt_mul ?_)
    rw [show ET = EL + 20 from rfl, Nat.pow_add] at hV
    have : (2 : Nat) ^ 20 = 1048576 := by decide
    rw [this] at hV
    exact Nat.lt_of_lt_of_le hV (Nat.mul_le_mul_left _ (by decide))
  have h3 : ET = 2117 := rfl
  omega
theorem stp_zero {V : Int} (h : stp V = 0) : V = 0 := by
  unfold stp at h
  have h1 : bl V.natAbs = 0 := by
    generalize V.natAbs / 2 ^ EL = q at *
    omega
  by_cases h0 : V = 0
  · exact h0
  · have : 0 < bl V.natAbs := (bl_gt _ 0).2 (by simp; omega)
    omega
end Go.Proofs.YtjpaocgimdinmaaGreatDoor

/- Parts. -/
namespace Go.Proofs.YtjpaocgimdinmaaGreatDoor
open Go.RowKit J
set_option linter.unusedVariables false
set_option maxRecDepth 20000
set_option linter.unusedSimpArgs false

theorem sub_any8 (V U : Int) (m : Nat) (hm : m ≤ 100000) (hV : V.natAbs < 2 ^ m) (hU : U.natAbs < 2 ^ m) (w : World) (a b : Option Addr) (c d : Nat) (hT : Tab w) (h1 : Arg w a (ws (dX (fo8 V))).length c (ws (dX (fo8 V)))) (h2 : Arg w b (ws (dX (fo8 U))).length d (ws (dX (fo8 U)))) :
    Calls Tryz.prog 134 #[.agg #[.bool (dN (fo8 V)), .slice a (ws (dX (fo8 V))).length c, .int .i64 (dE (fo8 V))], .agg #[.bool (dN (fo8 U)), .slice b (ws (dX (fo8 U))).length d, .int .i64 (dE (fo8 U))]] w fun r w' =>
      (∃ v, r = .returned (.tuple #[.agg #[.bool (dN (fo8 (V - U))), v, .int .i64 (dE (fo8 (V - U)))], .int .i64 0]) ∧ Nt w.heap.size w' v (dX (fo8 (V - U)))) ∧ Below w.heap.size w w' := by
  obtain ⟨l1, l2, l3, _⟩ := fo8_len V m (by omega) hV
  obtain ⟨k1, k2, k3, _⟩ := fo8_len U m (by omega) hU
  have := Sub_any3 h1 h2 hT (dN (fo8 V)) (dN (fo8 U)) (dE (fo8 V)) (dE (fo8 U)) l2 l3 k2 k3
  rw [val_ws, val_ws, fo8_self V m (by omega) hV, fo8_neg U m (by omega) hU, fo8_add V (-U) m hm hV (by omega), show V + -U = V - U by omega] at this
  refine this.mono ?_
  rintro r w' ⟨⟨v, rfl, hN⟩, hb⟩
  have e2 : 2 ^ (m + 1) = 2 * 2 ^ m := by rw [Nat.pow_succ, Nat.mul_comm]
  rw [fo8_er (V - U) (m + 1) (by omega) (by omega)]
  exact ⟨⟨v, rfl, hN⟩, hb⟩
theorem round_any8 (V : Int) (m : Nat) (hm : m ≤ 100000) (hV : V.natAbs < 2 ^ m) (mode : Int) (w : World) (a : Option Addr) (c : Nat) (hT : Tab w) (h1 : Arg w a (ws (dX (fo8 V))).length c (ws (dX (fo8 V)))) :
    Calls Tryz.prog 103 #[.agg #[.bool (dN (fo8 V)), .slice a (ws (dX (fo8 V))).length c, .int .i64 (dE (fo8 V))], .int .i64 mode] w fun r w' =>
      r = .returned (.tuple #[.float .f64 (rndS (fo8 V) mode).1, .int .i64 (rndS (fo8 V) mode).2]) ∧ Below w.heap.size w w' := by
  obtain ⟨l1, l2, l3, _⟩ := fo8_len V m (by omega) hV
  have := Round_any h1 hT (dN (fo8 V)) (dE (fo8 V)) mode l2 l3
  rw [val_ws, fo8_self V m (by omega) hV] at this
  exact this
theorem sgn_fo8 (V : Int) (m : Nat) (hm : m ≤ 200000) (hV : V.natAbs < 2 ^ m) : (sgn (dN (fo8 V)) (dX (fo8 V)) == 0) = decide (V = 0) := by
  obtain ⟨n, X, e, h1, F, h2, h3, _⟩ := fo8_frm V m hm hV
  rw [h1]
  show (sgn n X == 0) = _
  rw [Bool.eq_iff_iff]
  simp only [beq_iff_eq, decide_eq_true_eq]
  rw [← h2]
  unfold sgn
  by_cases hX : X = 0
  · simp [hX]
  · cases n <;> simp [hX]
end Go.Proofs.YtjpaocgimdinmaaGreatDoor

/- The program's Parts. -/
namespace Go.Proofs.YtjpaocgimdinmaaGreatDoor
open Go.RowKit J
set_option linter.unusedVariables false
set_option maxRecDepth 20000
set_option linter.unusedSimpArgs false

theorem Tryz.desc_f8 : Tryz.prog.underlying 83 = some (.slice 38) := by kernel_rfl
/-- A number put behind a row. -/
theorem append_f8 (w : World) (lo : Nat) (v : Value) (l : List Nat) (x s : Nat) (hown : Fr lo w v l) (hx : w.cell? ⟨s, 0, none⟩ = some (.float .f64 x)) (hl : l.length ≤ 2000000) (hlo : lo ≤ w.heap.size) :
    ∃ v' w', (Builtin.append_ #[83, 83] 83 #[v, .slice (some ⟨s, 0, none⟩) 1 1]).run Tryz.prog w = .ok v' w' ∧ Fr lo w' v' (l ++ [x]) ∧ w.grownBy w' v.ownBlock := by
  obtain ⟨i0, hi, hz0, hz1, hz2⟩ := info_parts Tryz.info_f8
  obtain ⟨v', w', r1, r2, r3, _, r5⟩ := run_append_own_at (P := Tryz.prog) w lo 83 83 38 i0 (.float .f64 0) 1 8 Tryz.desc_f8 hi hz0 hz1 hz2 rfl (by decide) v l.length (l.map Fw) hown ⟨s, 0, none⟩ 1 1 [.float .f64 x] rfl (by
      intro j u hj
      match j, hj with
      | 0, hj => simp at hj; subst hj; simpa [Addr.add] using hx) (by intro u hu; simp at hu; subst hu; rfl) (by unfold maxLen; omega) (by omega) hlo
  exact ⟨v', w', r1, by unfold Fr; rw [List.length_append, List.map_append]; exact r2, r3⟩
/-- Words and Dyads stay where a row of numbers grows. -/
theorem Nt.fr8 {lo lo' : Nat} {w w' : World} {v u : Value} {X : Nat} {L : List Nat} (h : Nt lo w v X) (hf : Fr lo' w u L) (hb : w.grownBy w' u.ownBlock) : Nt lo w' v X := by
  refine ⟨h.1, ?_⟩
  rcases h.2 with hn | ⟨g', cap, cur, rfl, hlo, hgc, rest⟩
  · exact .inl hn
  · refine .inr ⟨g', cap, cur, rfl, hlo, (hb.block g' (Array.getElem?_eq_some_iff.1 hgc).1 ?_).trans hgc, rest⟩
    intro e
    rcases hf.2 with ⟨rfl, _⟩ | ⟨g2, cap2, cur2, rfl, _, hg2, _⟩
    · simp [Value.ownBlock] at e
    · simp [Value.ownBlock] at e
      subst e
      rw [hg2] at hgc
      cases hgc
theorem Dk.fr8 {lo' : Nat} {w w' : World} {u v : Value} {L : List Nat} {g : Nat} {n : Bool} {e : Int} (h : Dk w g n v e) (hf : Fr lo' w u L) (hb : w.grownBy w' u.ownBlock) : Dk w' g n v e := by
  unfold Dk at h ⊢
  rw [hb.block g (Array.getElem?_eq_some_iff.1 h).1 ?_]
  · exact h
  · intro e
    rcases hf.2 with ⟨rfl, _⟩ | ⟨g2, cap2, cur2, rfl, _, hg2, _⟩
    · simp [Value.ownBlock] at e
    · simp [Value.ownBlock] at e
      subst e
      rw [hg2] at h
      cases h
theorem Fr.but8 {lo : Nat} {w w' : World} {v u : Value} {L : List Nat} {g : Nat} {n : Bool} {e : Int} (h : Fr lo w v L) (hD : Dk w g n u e) (hb : But g w w') : Fr lo w' v L := by
  refine ⟨h.1, ?_⟩
  rcases h.2 with hn | ⟨g', cap, cur, rfl, hlo, hgc, rest⟩
  · exact .inl hn
  · refine .inr ⟨g', cap, cur, rfl, hlo, (hb.block g' (Array.getElem?_eq_some_iff.1 hgc).1 ?_).trans hgc, rest⟩
    rintro rfl
    unfold Dk at hD
    rw [hD] at hgc
    cases hgc
theorem Nt.dk9 {lo : Nat} {w w' : World} {v : Value} {X : Nat} (h : Nt lo w v X) {g : Nat} {n : Bool} {u : Value} {e : Int} (hD : Dk w g n u e) (hb : But g w w') : Nt lo w' v X := by
  refine ⟨h.1, ?_⟩
  rcases h.2 with hn | ⟨g', cap, cur, rfl, hlo, hgc, rest⟩
  · exact .inl hn
  · refine .inr ⟨g', cap, cur, rfl, hlo, (hb.block g' (Array.getElem?_eq_some_iff.1 hgc).1 ?_).trans hgc, rest⟩
    rintro rfl
    unfold Dk at hD
    rw [hD] at hgc
    cases hgc
section
attribute [local go_sem] B.f64bits B.f64frombits
set_option maxHeartbeats 1000000 in
theorem copy_up8 (w : World) : Calls Tryz.prog 132 #[.float .f64 9218868437227405311, .float .f64 9218868437227405312] w fun r w' => r = .returned (.float .f64 9218868437227405311) ∧ w' = w := by
  go_enter Tryz.func132, Tryz.ntmps132
  go_wp2
  go_ret
  exact ⟨rfl, rfl⟩
set_option maxHeartbeats 1000000 in
theorem copy_dn8 (w : World) : Calls Tryz.prog 132 #[.float .f64 9218868437227405311, .float .f64 18442240474082181120] w fun r w' => r = .returned (.float .f64 18442240474082181119) ∧ w' = w := by
  go_enter Tryz.func132, Tryz.ntmps132
  go_wp2
  go_ret
  exact ⟨rfl, rfl⟩
end
theorem copy_any8 (s : Bool) (w : World) : Calls Tryz.prog 132 #[.float .f64 9218868437227405311, .float .f64 (wd64 s 9218868437227405312)] w fun r w' => r = .returned (.float .f64 (wd64 s 9218868437227405311)) ∧ w' = w := by
  cases s
  · exact copy_up8 w
  · exact copy_dn8 w
/-- What stands while Parts walks. -/
structure Pi8 (w : World) (gl : Nat) (V : Int) (N gk : Nat) (U : Int) (l : List Nat) (pv : Value) (wr : World) : Prop where
  left : ∃ v, Dk wr gl (dN (fo8 U)) v (dE (fo8 U)) ∧ Nt w.heap.size wr v (dX (fo8 U))
  row : Fr w.heap.size wr pv l
  bel : Below w.heap.size w wr
  val : ∀ r, IsParts U r → IsParts V (l ++ r)
  fin : FinL l
  len : l.length + gk ≤ N
  stp : stp U ≤ gk
  top : U.natAbs < 2 ^ ET
theorem ET5 : ET ≤ 100000 := by decide
theorem Pi8.next {w : World} {gl : Nat} {V : Int} {N gk : Nat} {U : Int} {l : List Nat} {pv pv' : Value} {wr w' : World} (h : Pi8 w gl V N gk U l pv wr) (h0 : U ≠ 0)
    (h1 : ∃ v, Dk w' gl (dN (fo8 (U - fvW (nrW U)))) v (dE (fo8 (U - fvW (nrW U)))) ∧ Nt w.heap.size w' v (dX (fo8 (U - fvW (nrW U))))) (h2 : Fr w.heap.size w' pv' (l ++ [nrW U])) (h3 : Below w.heap.size w w') :
    0 < gk ∧ Pi8 w gl V N (gk - 1) (U - fvW (nrW U)) (l ++ [nrW U]) pv' w' := by
  obtain ⟨s1, s2⟩ := stp_less U ET (Nat.le_trans ET5 (by decide)) h.top h0
  have hs := h.stp
  have hl := h.len
  have hg : 0 < gk := by omega
  refine ⟨hg, h1, h2, h3, fun r hr => ?_, h.fin.append (fun x hx => ?_), by rw [List.length_append, List.length_singleton]; omega, by omega, Nat.lt_trans s2 h.top⟩
  · rw [List.append_assoc]
    exact h.val _ ⟨h0, rfl, hr⟩
  · simp at hx
    subst hx
    exact (nr_any U ET (Nat.le_trans ET5 (by decide)) h.top h0).1

set_option maxHeartbeats 8000000 in
theorem parts_core8 (w : World) (g : Nat) (V : Int) (hV : V.natAbs < 2 ^ ET) (hT : Tab w)
    (HE : Hid (Calls Tryz.prog 59 #[.pointer (some ⟨g, 0, none⟩)] w fun r w' => (∃ v, r = .returned (.agg #[.bool (dN (fo8 V)), v, .int .i64 (dE (fo8 V))]) ∧ Nt w.heap.size w' v (dX (fo8 V))) ∧ Below w.heap.size w w')) :
    Calls Tryz.prog 55 #[.pointer (some ⟨g, 0, none⟩)] w fun r w' => ∃ v l, r = .returned v ∧ IsParts V l ∧ FinL l ∧ l.length ≤ 1100000 ∧ Fr w.heap.size w' v l ∧ Below w.heap.size w w' := by
  obtain ⟨N, hN⟩ : ∃ N, N = stp V := ⟨_, rfl⟩
  have HV := Aside.intro (And.intro hV (And.intro hT (And.intro hN (stp_top V hV))))
  have HL := Aside.intro (fo8_len V ET (Nat.le_trans ET5 (by decide)) hV).1
  clear hV hT hN
  obtain ⟨nn, hnn⟩ : ∃ b, b = dN (fo8 V) := ⟨_, rfl⟩
  obtain ⟨ee, hee⟩ : ∃ b, b = dE (fo8 V) := ⟨_, rfl⟩
  rw [← hnn, ← hee] at HE
  have HQ := Aside.intro (And.intro hnn hee)
  clear hnn hee
  go_enter Tryz.func55, Tryz.ntmps55
  go_wp2_with fail
  go_step3
  go_wp2_with fail
  with_reducible refine HE.out.mono ?_
  rintro r w1 ⟨⟨v1, rfl, hN1⟩, hb1⟩
  obtain ⟨a1, c1, rfl, _⟩ := hN1.arg (Nat.le_trans HL.out (by decide))
  obtain ⟨W, hW⟩ : ∃ W, W = w1.alloc (.cells #[.bool nn, .slice a1 (ws (dX (fo8 V))).length c1, .int .i64 ee] 33) := ⟨_, rfl⟩
  have H0 : Aside (Pi8 w w1.heap.size V N N V [] (.slice none 0 0) W) := by
    subst hW
    refine ⟨⟨.slice a1 (ws (dX (fo8 V))).length c1, ?_, hN1.below (below_alloc _ _)⟩, Fr.nil _ _, hb1.trans ((below_alloc _ _).mono hb1.size), fun r hr => hr, FinL.nil, by simp, by rw [HV.out.2.2.1]; exact Nat.le_refl _, HV.out.1⟩
    rw [← HQ.out.1, ← HQ.out.2]
    exact Dk.new _ _ _ _
  have hs1 : Aside (w.heap.size ≤ w1.heap.size) := hb1.size
  obtain ⟨gl, hgl⟩ : ∃ k, k = w1.heap.size := ⟨_, rfl⟩
  rw [← hgl] at H0 hs1
  clear hN1 hb1 HE
  go_wp2_with fail
  rw [← hW, ← hgl]
  clear hW hgl
  go_step3
  go_wp2_with fail
  go_loopg [3] N (fun gk pv wr => ∃ (U : Int) (l : List Nat), Aside (Pi8 w gl V N gk U l pv wr))
  case atStart => exact ⟨V, [], H0⟩
  case round =>
    clear H0
    obtain ⟨U, l, HP⟩ := hrel
    obtain ⟨sv, S1, S2⟩ := HP.out.left
    have HU := Aside.intro (And.intro HP.out.top (HV.out.2.1.belows HP.out.bel))
    have HUL := Aside.intro (fo8_len U ET (Nat.le_trans ET5 (by decide)) HP.out.top).1
    obtain ⟨a0, c0, rfl, A0⟩ := S2.arg (Nat.le_trans HUL.out (by decide))
    obtain ⟨x0, x1, x2, xf0, xf1, xf2⟩ := S1.facts
    have HR := hid (round_any8 U ET ET5 HU.out.1 0 wr a0 c0 HU.out.2 A0)
    have HSg := Aside.intro (sgn_fo8 U ET (Nat.le_trans ET5 (by decide)) HU.out.1)
    obtain ⟨un, hun⟩ : ∃ b, b = dN (fo8 U) := ⟨_, rfl⟩
    obtain ⟨ue, hue⟩ : ∃ b, b = dE (fo8 U) := ⟨_, rfl⟩
    obtain ⟨ux, hux⟩ : ∃ b, b = dX (fo8 U) := ⟨_, rfl⟩
    obtain ⟨rx, hrx⟩ : ∃ b, b = (rndS (fo8 U) 0).1 := ⟨_, rfl⟩
    obtain ⟨re, hre⟩ : ∃ b, b = (rndS (fo8 U) 0).2 := ⟨_, rfl⟩
    rw [← hun, ← hue, ← hux, ← hrx, ← hre] at HR
    rw [← hun] at x0
    rw [← hux] at x1
    rw [← hue] at x2
    rw [← hun, ← hux] at HSg
    rw [← hux] at HUL
    have HQ2 := Aside.intro (And.intro hun (And.intro hue (And.intro hux hrx)))
    rw [← hun, ← hue, ← hux] at S1
    rw [← hux] at S2 A0
    have HS := Aside.intro (And.intro S1 (And.intro S2 A0))
    clear hun hue hux hrx hre S1 S2 A0
    go_wp2_with fail
    with_reducible refine HR.out.mono ?_
    rintro r w2 ⟨rfl, hb2⟩
    have HS2 := Aside.intro (And.intro (HS.out.1.below hb2) (And.intro (HS.out.2.1.below hb2) (And.intro (HS.out.2.2.below hb2) hb2)))
    have HSn := hid (Sign_any3 HS2.out.2.2.1 un ue)
    rw [val_ws] at HSn
    obtain ⟨y0, y1, y2, yf0, yf1, yf2⟩ := HS2.out.1.facts
    obtain ⟨sg, hsg⟩ : ∃ z, z = sgn un ux := ⟨_, rfl⟩
    rw [← hsg] at HSn HSg
    clear hb2 hsg HR x0 x1 x2 xf0 xf1 xf2
    go_wp2_with fail
    with_reducible refine HSn.out.mono ?_
    rintro r w3 ⟨rfl, hb3⟩
    have HS3 := Aside.intro (And.intro (HS2.out.1.below hb3) (And.intro (HS2.out.2.1.below hb3) (HS2.out.2.2.2.trans (hb3.mono HS2.out.2.2.2.size))))
    clear hb3 HSn y0 y1 y2 yf0 yf1 yf2
    by_cases h0 : U = 0
    · have hz := HSg.out
      rw [decide_eq_true h0] at hz
      have HF : Aside (IsParts V l ∧ FinL l ∧ l.length ≤ 1100000 ∧ Fr w.heap.size w3 u3 l ∧ Below w.heap.size w w3) := by
        refine ⟨?_, HP.out.fin, by have := HP.out.len; have := HV.out.2.2.1; have := HV.out.2.2.2; omega, HP.out.row.below HS3.out.2.2, HP.out.bel.trans (HS3.out.2.2.mono HP.out.bel.size)⟩
        have := HP.out.val [] h0
        rw [List.append_nil] at this
        exact this
      clear h0
      go_wp2
      rw [Exit.noGoto_ret]
      go_ret
      exact ⟨u3, l, rfl, HF.out⟩
    · have hz := HSg.out
      rw [decide_eq_false h0] at hz
      have H00 := Aside.intro h0
      clear h0
      obtain ⟨hnf, hor⟩ := nr_any U ET (Nat.le_trans ET5 (by decide)) HU.out.1 H00.out
      rw [← HQ2.out.2.2.2] at hor
      have HNF := Aside.intro hnf
      clear hnf
      obtain ⟨y, hy⟩ : ∃ y, y = nrW U := ⟨_, rfl⟩
      rw [← hy] at hor HNF
      have HY := Aside.intro hy
      clear hy
      rcases hor with ⟨rfl, hfin, _⟩ | ⟨hx1, rfl, _, _⟩
      · have HI := hid (fun u => isInf_w8 y HNF.out.1 u)
        have hb0 : (magW y == 9218868437227405312) = false := by unfold finW at hfin; simp; omega
        rw [hb0] at HI
        clear hfin hb0
        go_wp2_with fail
        with_reducible refine (HI.out _).mono ?_
        rintro r w4 ⟨rfl, rfl⟩
        obtain ⟨W4, hW4⟩ : ∃ W, W = w4.alloc (.cells #[.float .f64 y] 38) := ⟨_, rfl⟩
        have hfr : Fr w.heap.size W4 u3 l := by subst hW4; exact (HP.out.row.below HS3.out.2.2).below (below_alloc _ _)
        have hbw : Below w4.heap.size w4 W4 := by subst hW4; exact below_alloc _ _
        have hcx : W4.cell? ⟨w4.heap.size, 0, none⟩ = some (.float .f64 y) := by subst hW4; unfold World.cell?; simp only [heap_alloc_new]; rfl
        have hsz : w.heap.size ≤ W4.heap.size := Nat.le_trans (Nat.le_trans HP.out.bel.size HS3.out.2.2.size) hbw.size
        obtain ⟨v5, w5, hap, hf5, hg5⟩ := append_f8 W4 w.heap.size u3 l y w4.heap.size hfr hcx (by have := HP.out.len; have := HV.out.2.2.1; have := HV.out.2.2.2; omega) hsz
        have HAP := hid hap
        have H5 : Aside (Fr w.heap.size w5 v5 (l ++ [y]) ∧ Dk w5 gl un (.slice a0 (ws ux).length c0) ue ∧ Nt w.heap.size w5 (.slice a0 (ws ux).length c0) ux ∧ Below w.heap.size w w5) := by
          have hD := (HS3.out.1.below hbw)
          have hNN := (HS3.out.2.1.below hbw)
          have hBB : Below w.heap.size w W4 := (HP.out.bel.trans (HS3.out.2.2.mono HP.out.bel.size)).trans (hbw.mono (Nat.le_trans HP.out.bel.size HS3.out.2.2.size))
          exact ⟨hf5, hD.fr8 hfr hg5, hNN.fr8 hfr hg5, hBB.grown hg5 hsz (fun k hk => (hfr.lt hk).1)⟩
        clear hap hf5 hg5 hfr hbw hcx hsz
        go_wp2_with (at_builtin; rw [← hW4]; refine wpList_append8 rfl (.tmp 25) (.tmp 27) 83 rfl _ _ rfl rfl _ _ HAP.out ?_)
        have HO := hid (of_any8 y HNF.out w5 (HV.out.2.1.belows H5.out.2.2.2))
        obtain ⟨dn, hdn⟩ : ∃ b, b = dN (fo8 (fvW y)) := ⟨_, rfl⟩
        obtain ⟨de, hde⟩ : ∃ b, b = dE (fo8 (fvW y)) := ⟨_, rfl⟩
        obtain ⟨dx, hdx⟩ : ∃ b, b = dX (fo8 (fvW y)) := ⟨_, rfl⟩
        have HTF : Aside ((fvW y).natAbs < 2 ^ ET) := by
          obtain ⟨z, hz⟩ : ∃ z, z = 2098 := ⟨_, rfl⟩
          exact Nat.lt_of_lt_of_le (top_fv HNF.out.1 HNF.out.2 z hz) (Nat.pow_le_pow_right (by decide) (by unfold ET; omega))
        have HDL := Aside.intro (fo8_len (fvW y) ET (Nat.le_trans ET5 (by decide)) HTF.out).1
        rw [← hdx] at HDL
        rw [← hdn, ← hde, ← hdx] at HO
        have HQ3 := Aside.intro (And.intro hdn (And.intro hde hdx))
        clear hdn hde hdx hW4 HAP
        go_wp2_with fail
        with_reducible refine HO.out.mono ?_
        rintro r w6 ⟨⟨v6, rfl, hN6⟩, hb6⟩
        obtain ⟨a6, c6, rfl, _⟩ := hN6.arg (Nat.le_trans HDL.out (by decide))
        obtain ⟨W7, hW7⟩ : ∃ W, W = w6.alloc (.cells #[.bool dn, .slice a6 (ws dx).length c6, .int .i64 de] 33) := ⟨_, rfl⟩
        have H7 : Aside (Fr w.heap.size W7 v5 (l ++ [y]) ∧ Dk W7 gl un (.slice a0 (ws ux).length c0) ue ∧ Nt w.heap.size W7 (.slice a0 (ws ux).length c0) ux ∧ Below w.heap.size w W7 ∧ Dk W7 w6.heap.size dn (.slice a6 (ws dx).length c6) de ∧ Nt w.heap.size W7 (.slice a6 (ws dx).length c6) dx) := by
          have hbx : Below w5.heap.size w5 W7 := by subst hW7; exact hb6.trans ((below_alloc _ _).mono hb6.size)
          refine ⟨H5.out.1.below hbx, H5.out.2.1.below hbx, H5.out.2.2.1.below hbx, H5.out.2.2.2.trans (hbx.mono H5.out.2.2.2.size), ?_, ?_⟩
          · subst hW7; exact Dk.new _ _ _ _
          · have := hN6.mono H5.out.2.2.2.size
            subst hW7; exact this.below (below_alloc _ _)
        clear hN6 hb6 HO H5
        go_upto_region 9 with fail
        rw [← hW7]
        clear hW7
        obtain ⟨x0, x1, x2, xf0, xf1, xf2⟩ := H7.out.2.1.facts
        obtain ⟨z0, z1, z2, zf0, zf1, zf2⟩ := H7.out.2.2.2.2.1.facts
        have HSb : Hid (Calls Tryz.prog 134 #[.agg #[.bool un, .slice a0 (ws ux).length c0, .int .i64 ue], .agg #[.bool dn, .slice a6 (ws dx).length c6, .int .i64 de]] W7 fun r w' =>
            (∃ v, r = .returned (.tuple #[.agg #[.bool (dN (fo8 (U - fvW y))), v, .int .i64 (dE (fo8 (U - fvW y)))], .int .i64 0]) ∧ Nt W7.heap.size w' v (dX (fo8 (U - fvW y)))) ∧ Below W7.heap.size W7 w') := by
          have h1 := (H7.out.2.2.1.arg' (Nat.le_trans HUL.out (by decide))).2
          have h2 := (H7.out.2.2.2.2.2.arg' (Nat.le_trans HDL.out (by decide))).2
          have hT7 := HV.out.2.1.belows H7.out.2.2.2.1
          rw [HQ2.out.1, HQ2.out.2.1, HQ2.out.2.2.1, HQ3.out.1, HQ3.out.2.1, HQ3.out.2.2] at *
          exact sub_any8 U (fvW y) ET ET5 HU.out.1 HTF.out W7 a0 a6 c0 c6 hT7 h1 h2
        obtain ⟨tn, htn⟩ : ∃ b, b = dN (fo8 (U - fvW y)) := ⟨_, rfl⟩
        obtain ⟨te, hte⟩ : ∃ b, b = dE (fo8 (U - fvW y)) := ⟨_, rfl⟩
        obtain ⟨tx, htx⟩ : ∃ b, b = dX (fo8 (U - fvW y)) := ⟨_, rfl⟩
        have HTX : Aside ((ws tx).length ≤ 8192) := by
          rw [htx]
          have q1 := HU.out.1
          have q2 := HTF.out
          exact (fo8_len (U - fvW y) (ET + 1) (by decide) (by rw [Nat.pow_succ]; omega)).1
        rw [← htn, ← hte, ← htx] at HSb
        have HQ4 := Aside.intro (And.intro htn (And.intro hte htx))
        clear htn hte htx
        go_wp2_with fail
        with_reducible refine HSb.out.mono ?_
        rintro r w8 ⟨⟨v8, rfl, hN8⟩, hb8⟩
        obtain ⟨a8, c8, rfl, _⟩ := hN8.arg (Nat.le_trans HTX.out (by decide))
        have hD8 := H7.out.2.1.below hb8
        obtain ⟨p0, p1, p2, pf0, pf1, pf2⟩ := hD8.facts
        have hbt := st3_but8 gl w8 (.bool tn) (.slice a8 (ws tx).length c8) (.int .i64 te)
        have hB8 := H7.out.2.2.2.1.trans (hb8.mono H7.out.2.2.2.1.size)
        have HX : Aside (0 < gk ∧ Pi8 w gl V N (gk - 1) (U - fvW y) (l ++ [y]) v5 (st3 w8 gl (.bool tn) (.slice a8 (ws tx).length c8) (.int .i64 te))) := by
          have q := HP.out.next (pv' := v5) (w' := st3 w8 gl (.bool tn) (.slice a8 (ws tx).length c8) (.int .i64 te)) H00.out
          rw [← HY.out] at q
          refine q ⟨.slice a8 (ws tx).length c8, ?_, ?_⟩ ((H7.out.1.below hb8).but8 hD8 hbt) (But.below hB8 hbt hB8.size hs1.out)
          · rw [← HQ4.out.1, ← HQ4.out.2.1]; exact hD8.set _ _ _
          · rw [← HQ4.out.2.2]; exact (hN8.mono H7.out.2.2.2.1.size).dk9 hD8 hbt
        unfold st3 at HX
        clear hN8 hb8 hD8 hbt hB8 HSb H7 HQ4 x0 x1 x2 xf0 xf1 xf2 z0 z1 z2 zf0 zf1 zf2
        go_wp2
        go_roundg (gk - 1)
        case measure => have := HX.out.1; omega
        case rel => exact ⟨_, _, HX.out.2⟩
      · rw [hx1] at *
        have hwd : Wd (wd64 (decide (U < 0)) 9218868437227405312) ∧ (magW (wd64 (decide (U < 0)) 9218868437227405312) == 9218868437227405312) = true := by cases (decide (U < 0)) <;> exact ⟨by unfold Wd wd64; decide, by decide⟩
        have HI := hid (fun u => isInf_w8 (wd64 (decide (U < 0)) 9218868437227405312) hwd.1 u)
        rw [hwd.2] at HI
        have HC := hid (fun u => copy_any8 (decide (U < 0)) u)
        obtain ⟨y, hy⟩ : ∃ y, y = wd64 (decide (U < 0)) 9218868437227405311 := ⟨_, rfl⟩
        obtain ⟨yi, hyi⟩ : ∃ y, y = wd64 (decide (U < 0)) 9218868437227405312 := ⟨_, rfl⟩
        rw [← hy] at HC HNF HY
        rw [← hyi] at HI HC ⊢
        clear hwd hx1 hy hyi
        go_wp2_with fail
        with_reducible refine (HI.out _).mono ?_
        rintro r w4 ⟨rfl, rfl⟩
        go_wp2_with fail
        with_reducible refine (HC.out _).mono ?_
        rintro r w4 ⟨rfl, rfl⟩
        obtain ⟨W4, hW4⟩ : ∃ W, W = w4.alloc (.cells #[.float .f64 y] 38) := ⟨_, rfl⟩
        have hfr : Fr w.heap.size W4 u3 l := by subst hW4; exact (HP.out.row.below HS3.out.2.2).below (below_alloc _ _)
        have hbw : Below w4.heap.size w4 W4 := by subst hW4; exact below_alloc _ _
        have hcx : W4.cell? ⟨w4.heap.size, 0, none⟩ = some (.float .f64 y) := by subst hW4; unfold World.cell?; simp only [heap_alloc_new]; rfl
        have hsz : w.heap.size ≤ W4.heap.size := Nat.le_trans (Nat.le_trans HP.out.bel.size HS3.out.2.2.size) hbw.size
        obtain ⟨v5, w5, hap, hf5, hg5⟩ := append_f8 W4 w.heap.size u3 l y w4.heap.size hfr hcx (by have := HP.out.len; have := HV.out.2.2.1; have := HV.out.2.2.2; omega) hsz
        have HAP := hid hap
        have H5 : Aside (Fr w.heap.size w5 v5 (l ++ [y]) ∧ Dk w5 gl un (.slice a0 (ws ux).length c0) ue ∧ Nt w.heap.size w5 (.slice a0 (ws ux).length c0) ux ∧ Below w.heap.size w w5) := by
          have hD := (HS3.out.1.below hbw)
          have hNN := (HS3.out.2.1.below hbw)
          have hBB : Below w.heap.size w W4 := (HP.out.bel.trans (HS3.out.2.2.mono HP.out.bel.size)).trans (hbw.mono (Nat.le_trans HP.out.bel.size HS3.out.2.2.size))
          exact ⟨hf5, hD.fr8 hfr hg5, hNN.fr8 hfr hg5, hBB.grown hg5 hsz (fun k hk => (hfr.lt hk).1)⟩
        clear hap hf5 hg5 hfr hbw hcx hsz
        go_wp2_with (at_builtin; rw [← hW4]; refine wpList_append8 rfl (.tmp 25) (.tmp 27) 83 rfl _ _ rfl rfl _ _ HAP.out ?_)
        have HO := hid (of_any8 y HNF.out w5 (HV.out.2.1.belows H5.out.2.2.2))
        obtain ⟨dn, hdn⟩ : ∃ b, b = dN (fo8 (fvW y)) := ⟨_, rfl⟩
        obtain ⟨de, hde⟩ : ∃ b, b = dE (fo8 (fvW y)) := ⟨_, rfl⟩
        obtain ⟨dx, hdx⟩ : ∃ b, b = dX (fo8 (fvW y)) := ⟨_, rfl⟩
        have HTF : Aside ((fvW y).natAbs < 2 ^ ET) := by
          obtain ⟨z, hz⟩ : ∃ z, z = 2098 := ⟨_, rfl⟩
          exact Nat.lt_of_lt_of_le (top_fv HNF.out.1 HNF.out.2 z hz) (Nat.pow_le_pow_right (by decide) (by unfold ET; omega))
        have HDL := Aside.intro (fo8_len (fvW y) ET (Nat.le_trans ET5 (by decide)) HTF.out).1
        rw [← hdx] at HDL
        rw [← hdn, ← hde, ← hdx] at HO
        have HQ3 := Aside.intro (And.intro hdn (And.intro hde hdx))
        clear hdn hde hdx hW4 HAP
        go_wp2_with fail
        with_reducible refine HO.out.mono ?_
        rintro r w6 ⟨⟨v6, rfl, hN6⟩, hb6⟩
        obtain ⟨a6, c6, rfl, _⟩ := hN6.arg (Nat.le_trans HDL.out (by decide))
        obtain ⟨W7, hW7⟩ : ∃ W, W = w6.alloc (.cells #[.bool dn, .slice a6 (ws dx).length c6, .int .i64 de] 33) := ⟨_, rfl⟩
        have H7 : Aside (Fr w.heap.size W7 v5 (l ++ [y]) ∧ Dk W7 gl un (.slice a0 (ws ux).length c0) ue ∧ Nt w.heap.size W7 (.slice a0 (ws ux).length c0) ux ∧ Below w.heap.size w W7 ∧ Dk W7 w6.heap.size dn (.slice a6 (ws dx).length c6) de ∧ Nt w.heap.size W7 (.slice a6 (ws dx).length c6) dx) := by
          have hbx : Below w5.heap.size w5 W7 := by subst hW7; exact hb6.trans ((below_alloc _ _).mono hb6.size)
          refine ⟨H5.out.1.below hbx, H5.out.2.1.below hbx, H5.out.2.2.1.below hbx, H5.out.2.2.2.trans (hbx.mono H5.out.2.2.2.size), ?_, ?_⟩
          · subst hW7; exact Dk.new _ _ _ _
          · have := hN6.mono H5.out.2.2.2.size
            subst hW7; exact this.below (below_alloc _ _)
        clear hN6 hb6 HO H5
        go_upto_region 9 with fail
        rw [← hW7]
        clear hW7
        obtain ⟨x0, x1, x2, xf0, xf1, xf2⟩ := H7.out.2.1.facts
        obtain ⟨z0, z1, z2, zf0, zf1, zf2⟩ := H7.out.2.2.2.2.1.facts
        have HSb : Hid (Calls Tryz.prog 134 #[.agg #[.bool un, .slice a0 (ws ux).length c0, .int .i64 ue], .agg #[.bool dn, .slice a6 (ws dx).length c6, .int .i64 de]] W7 fun r w' =>
            (∃ v, r = .returned (.tuple #[.agg #[.bool (dN (fo8 (U - fvW y))), v, .int .i64 (dE (fo8 (U - fvW y)))], .int .i64 0]) ∧ Nt W7.heap.size w' v (dX (fo8 (U - fvW y)))) ∧ Below W7.heap.size W7 w') := by
          have h1 := (H7.out.2.2.1.arg' (Nat.le_trans HUL.out (by decide))).2
          have h2 := (H7.out.2.2.2.2.2.arg' (Nat.le_trans HDL.out (by decide))).2
          have hT7 := HV.out.2.1.belows H7.out.2.2.2.1
          rw [HQ2.out.1, HQ2.out.2.1, HQ2.out.2.2.1, HQ3.out.1, HQ3.out.2.1, HQ3.out.2.2] at *
          exact sub_any8 U (fvW y) ET ET5 HU.out.1 HTF.out W7 a0 a6 c0 c6 hT7 h1 h2
        obtain ⟨tn, htn⟩ : ∃ b, b = dN (fo8 (U - fvW y)) := ⟨_, rfl⟩
        obtain ⟨te, hte⟩ : ∃ b, b = dE (fo8 (U - fvW y)) := ⟨_, rfl⟩
        obtain ⟨tx, htx⟩ : ∃ b, b = dX (fo8 (U - fvW y)) := ⟨_, rfl⟩
        have HTX : Aside ((ws tx).length ≤ 8192) := by
          rw [htx]
          have q1 := HU.out.1
          have q2 := HTF.out
          exact (fo8_len (U - fvW y) (ET + 1) (by decide) (by rw [Nat.pow_succ]; omega)).1
        rw [← htn, ← hte, ← htx] at HSb
        have HQ4 := Aside.intro (And.intro htn (And.intro hte htx))
        clear htn hte htx
        go_wp2_with fail
        with_reducible refine HSb.out.mono ?_
        rintro r w8 ⟨⟨v8, rfl, hN8⟩, hb8⟩
        obtain ⟨a8, c8, rfl, _⟩ := hN8.arg (Nat.le_trans HTX.out (by decide))
        have hD8 := H7.out.2.1.below hb8
        obtain ⟨p0, p1, p2, pf0, pf1, pf2⟩ := hD8.facts
        have hbt := st3_but8 gl w8 (.bool tn) (.slice a8 (ws tx).length c8) (.int .i64 te)
        have hB8 := H7.out.2.2.2.1.trans (hb8.mono H7.out.2.2.2.1.size)
        have HX : Aside (0 < gk ∧ Pi8 w gl V N (gk - 1) (U - fvW y) (l ++ [y]) v5 (st3 w8 gl (.bool tn) (.slice a8 (ws tx).length c8) (.int .i64 te))) := by
          have q := HP.out.next (pv' := v5) (w' := st3 w8 gl (.bool tn) (.slice a8 (ws tx).length c8) (.int .i64 te)) H00.out
          rw [← HY.out] at q
          refine q ⟨.slice a8 (ws tx).length c8, ?_, ?_⟩ ((H7.out.1.below hb8).but8 hD8 hbt) (But.below hB8 hbt hB8.size hs1.out)
          · rw [← HQ4.out.1, ← HQ4.out.2.1]; exact hD8.set _ _ _
          · rw [← HQ4.out.2.2]; exact (hN8.mono H7.out.2.2.2.1.size).dk9 hD8 hbt
        unfold st3 at HX
        clear hN8 hb8 hD8 hbt hB8 HSb H7 HQ4 x0 x1 x2 xf0 xf1 xf2 z0 z1 z2 zf0 zf1 zf2
        go_wp2
        go_roundg (gk - 1)
        case measure => have := HX.out.1; omega
        case rel => exact ⟨_, _, HX.out.2⟩
end Go.Proofs.YtjpaocgimdinmaaGreatDoor

/- Lists that came in. -/
namespace Go.Proofs.YtjpaocgimdinmaaGreatDoor
open Go.ChangeShapes Go.WideShapes Go.ChangeAt Go.RowKit
set_option linter.unusedVariables false
set_option maxRecDepth 20000
set_option linter.unusedSimpArgs false

/-- Numbers that lie in memory below B. -/
def Fs (B : Nat) (w : World) (ao : Option Addr) (xs : List Nat) : Prop :=
  xs ≠ [] → ∃ b off, b < B ∧ ao = some ⟨b, off, none⟩ ∧ ∀ i, i < xs.length → w.cell? ⟨b, off + i, none⟩ = some (.float .f64 (xs.getD i 0))
theorem Fs.at {B : Nat} {w w' : World} {ao : Option Addr} {xs : List Nat} (h : Fs B w ao xs) (hb : Below B w w') (i : Nat) (hi : i < xs.length) : ∃ b off, ao = some ⟨b, off, none⟩ ∧ w'.cell? ⟨b, off + i, none⟩ = some (.float .f64 (xs.getD i 0)) := by
  obtain ⟨b, off, h1, h2, h3⟩ := h (by intro e; subst e; simp at hi)
  exact ⟨b, off, h2, (hb.cell (p := ⟨b, off + i, none⟩) h1).trans (h3 i hi)⟩
def W64 (xs : List Nat) : Prop := ∀ x ∈ xs, x < 18446744073709551616
theorem W64.get {xs : List Nat} (h : W64 xs) (i : Nat) : xs.getD i 0 < 18446744073709551616 := by
  by_cases hi : i < xs.length
  · rw [List.getD_eq_getElem?_getD, List.getElem?_eq_getElem hi]; exact h _ (List.getElem_mem hi)
  · rw [List.getD_eq_getElem?_getD, List.getElem?_eq_none (by omega)]; simp

theorem trodF {H : Type} {enc : TypeId × Value → H} {P : Program} {w : World} {base : Nat} {spare : Nat → Bool} {held : Bool} {fuel : Nat} {t : TypeId} {cs : List Value} {x : DataW H × List MemPlace} {k : FloatKind} (ht : P.underlying t = some (.float k)) (h : DataW.trod enc P w base spare held fuel t cs = some x) : ∃ n, cs = [.float k n] ∧ x = (.lit (.float k n), []) ∧ (Lit.float k n).wf = true := by
  cases fuel with
  | zero => simp [DataW.trod] at h
  | succ m =>
    simp only [DataW.trod, ht] at h
    split at h <;> simp_all

/-- A list that came in: its numbers, its room. -/
structure CameF (w : World) (a : Option Addr) (n c : Nat) (xs : List Nat) : Prop where
  len : n = xs.length
  cap : n ≤ c
  wf : W64 xs
  rd : Fs w.heap.size w a xs
  nil : a = none → c = 0

theorem add_noneF (b off i : Nat) : (⟨b, off, none⟩ : Addr).add i = ⟨b, off + i, none⟩ := by unfold Addr.add; split <;> simp_all

def numF {H : Type} (y : DataW H × List MemPlace) : Nat := match y.1 with | .lit (.float _ n) => n | _ => 0

theorem Tryz.cellsF : Tryz.prog.cellsOf 38 = 1 := by kernel_rfl
theorem Tryz.bytesF : Tryz.prog.bytesOf 38 = 8 := by kernel_rfl

theorem cameF_of {H : Type} {enc : TypeId × Value → H} {W : World} {a : Option Addr} {n c : Nat} {d : DataW H} {p : List MemPlace} (h : DataW.Trod enc Tryz.prog W 0 (fun _ => true) true 83 (.slice a n c) d p) :
    ∃ xs, CameF W a n c xs ∧ ((d = .nil ∧ c = 0) ∨ ∃ elems spare : List (DataW H), d = .slice elems spare ∧ elems.length + spare.length = c) := by
  obtain ⟨fuel, hf⟩ := h
  rcases DataW.trod_slice Tryz.underlying83 hf with ⟨hcs, hx⟩ | ⟨x, l, cp, elems, rest, m, _, hcs, hx, hb, hl, hm, hlen, hel, hsp, hns⟩
  · simp [Value.cells] at hcs
    obtain ⟨rfl, rfl, rfl⟩ := hcs
    exact ⟨[], ⟨rfl, Nat.le_refl _, (fun x hx => by cases hx), (fun h => absurd rfl h), fun _ => rfl⟩, .inl ⟨(Prod.mk.inj hx).1, rfl⟩⟩
  · simp [Value.cells] at hcs
    obtain ⟨rfl, rfl, rfl⟩ := hcs
    have each : ∀ i y, i < n → elems[i]? = some y → y = (.lit (.float .f64 (numF y)), []) ∧ (Lit.float .f64 (numF y)).wf = true ∧ W.cell? (x.add i) = some (.float .f64 (numF y)) := by
      intro i y hi hy
      have hb' := hel i hi
      rw [hy, Tryz.cellsF, Nat.mul_one, Option.bind_eq_some_iff] at hb'
      obtain ⟨cs', hcs, hy'⟩ := hb'
      obtain ⟨k, rfl, rfl, hw⟩ := trodF Tryz.underlying38 hy'
      exact ⟨rfl, hw, cell_of_cells?_one hcs⟩
    refine ⟨elems.map numF, ⟨by simp [hlen], hl, ?_, ?_, fun e => by cases e⟩, .inr ⟨_, _, (Prod.mk.inj hx).1, ?_⟩⟩
    · intro y hy
      obtain ⟨z, hz, rfl⟩ := List.mem_map.1 hy
      obtain ⟨i, hi⟩ := List.getElem?_of_mem hz
      have hil := (List.getElem?_eq_some_iff.1 hi).1
      have := (each i z (by omega) hi).2.1
      exact of_decide_eq_true this
    · intro hne
      obtain ⟨b, off, spot⟩ := x
      have hn0 : 0 < n := by
        rcases Nat.eq_zero_or_pos n with h0 | h0
        · rw [h0] at hlen; have := List.eq_nil_of_length_eq_zero hlen; subst this; simp at hne
        · exact h0
      have hc0 := (each 0 (elems[0]'(by omega)) hn0 (List.getElem?_eq_getElem _)).2.2
      have hspot : spot = none := by simpa [Addr.add] using World.cell?_spot hc0
      subst hspot
      refine ⟨b, off, World.block_lt_of_cell? W _ (by simpa [Addr.add] using hc0), rfl, fun i hi => ?_⟩
      rw [List.length_map] at hi
      have hadd := add_noneF b off i
      have := (each i (elems[i]'hi) (by omega) (List.getElem?_eq_getElem _)).2.2
      rw [hadd] at this
      rw [this]
      simp [List.getD_eq_getElem?_getD, hi]
    · have hr := (hsp rfl).1
      simp only [List.length_map]
      omega

/-- The form's own reach. -/
theorem cameF_reach {H : Type} {ts : List TypeId} {ds : List (DataW H)} (h : (DataW.weightsEach Tryz.prog ts ds).all (· ≤ reachBytes) = true) {j : Nat} {d : DataW H} {c n : Nat} (ht : ts[j]? = some 83) (hd : ds[j]? = some d) (hn : n ≤ c)
    (hc : (d = .nil ∧ c = 0) ∨ ∃ elems spare : List (DataW H), d = .slice elems spare ∧ elems.length + spare.length = c) : n ≤ 17592186043904 := by
  rcases hc with ⟨_, rfl⟩ | ⟨elems, spare, rfl, hl⟩
  · omega
  · have := sized_slice h ht hd Tryz.underlying83
    rw [Tryz.bytesF, hl] at this
    simp only [reachBytes] at this
    omega

end Go.Proofs.YtjpaocgimdinmaaGreatDoor

/- Bins: told, filled. -/
namespace Go.Proofs.YtjpaocgimdinmaaGreatDoor
open Go Go.RowKit
set_option linter.unusedVariables false
set_option maxRecDepth 20000
set_option linter.unusedSimpArgs false

set_option maxHeartbeats 1000000 in
theorem told_core (g : Nat) (n1 : Bool) (X1 : Nat) (e1 : Int) (x : Nat) (c : Int) (w : World) (l1 : (ws X1).length ≤ 8192)
    (HK : Hid (∀ u, Below w.heap.size w u → Calls Tryz.prog 69 #[.pointer (some ⟨g, 0, none⟩)] u fun r w' => (∃ v, r = .returned (.agg #[.bool n1, v, .int .i64 e1]) ∧ Nt u.heap.size w' v X1) ∧ Below u.heap.size u w'))
    (HBd : Hid (∀ u, Below w.heap.size w u → Calls Tryz.prog 71 #[.pointer (some ⟨g, 0, none⟩)] u fun r w' => r = .returned (.float .f64 x) ∧ Below u.heap.size u w'))
    (HCn : Hid (∀ u, Below w.heap.size w u → Calls Tryz.prog 72 #[.pointer (some ⟨g, 0, none⟩)] u fun r w' => r = .returned (.int .i64 c) ∧ w' = u)) :
    Calls Tryz.prog 28 #[.pointer (some ⟨g, 0, none⟩)] w fun r w' => (∃ v, r = .returned (.tuple #[.agg #[.bool n1, v, .int .i64 e1], .float .f64 x, .int .i64 c]) ∧ Nt w.heap.size w' v X1) ∧ Below w.heap.size w w' := by
  obtain ⟨W1, hW1⟩ : ∃ W, W = w.alloc (.cells #[.bool false, .slice none 0 0, .int .i64 0] 33) := ⟨_, rfl⟩
  have H1 : Aside (Below w.heap.size w W1 ∧ Dk W1 w.heap.size false (.slice none 0 0) 0) := by
    subst hW1; exact ⟨below_alloc _ _, Dk.new _ _ _ _⟩
  go_enter Tryz.func28, Tryz.ntmps28
  go_wp2_with fail
  rw [← hW1]
  clear hW1
  with_reducible refine (HK.out _ H1.out.1).mono ?_
  rintro r u ⟨⟨v1, rfl, hN1⟩, hb1⟩
  obtain ⟨a1, c1, rfl, _⟩ := hN1.arg (Nat.le_trans l1 (by decide))
  have HU := Aside.intro (And.intro (H1.out.1.trans (hb1.mono H1.out.1.size)) (And.intro (H1.out.2.below hb1) (hN1.mono H1.out.1.size)))
  clear hN1 hb1
  go_wp2_with fail
  with_reducible refine (HBd.out _ HU.out.1).mono ?_
  rintro r u2 ⟨rfl, hb2⟩
  have HU2 := Aside.intro (And.intro (HU.out.1.trans (hb2.mono HU.out.1.size)) (And.intro (HU.out.2.1.below hb2) (HU.out.2.2.below hb2)))
  clear hb2
  go_wp2_with fail
  with_reducible refine (HCn.out _ HU2.out.1).mono ?_
  rintro r u3 ⟨rfl, rfl⟩
  have D0 := HU2.out.2.1
  obtain ⟨y0, y1, y2, yf0, yf1, yf2⟩ := D0.facts
  have hbt := st3_but8 w.heap.size u3 (.bool n1) (.slice a1 (ws X1).length c1) (.int .i64 e1)
  have HX := Aside.intro (And.intro (D0.set n1 (.slice a1 (ws X1).length c1) e1) (And.intro (HU2.out.2.2.dk8 D0 hbt) (But.below HU2.out.1 hbt HU2.out.1.size (Nat.le_refl _))))
  clear D0 hbt
  go_wp2
  obtain ⟨k1, k2, k3⟩ := HX.out
  unfold st3 at k2 k3
  obtain ⟨z0, z1, z2, zf0, zf1, zf2⟩ := k1.facts
  unfold st3 at z0 z1 z2
  exact bodyPost_ret (v := .tuple #[.agg #[.bool n1, .slice a1 (ws X1).length c1, .int .i64 e1], .float .f64 x, .int .i64 c]) (by simp [results, Tryz.results28, go_sem, z0, z1, z2]) rfl ⟨⟨_, rfl, k2⟩, k3⟩
theorem told9 (g f : Nat) (L : List Nat) (w : World) (hB : Bz w g f L) (hF : Fin9 L) (hl : L.length ≤ 1099511627776) (hf : f ≤ 8) (hT : Tab w) :
    Calls Tryz.prog 28 #[.pointer (some ⟨g, 0, none⟩)] w fun r w' => (∃ v, r = .returned (.tuple #[.agg #[.bool (dN (fo8 (kvz f L))), v, .int .i64 (dE (fo8 (kvz f L)))], .float .f64 (bdW f L), .int .i64 (L.length : Nat)]) ∧ Nt w.heap.size w' v (dX (fo8 (kvz f L)))) ∧ Below w.heap.size w w' :=
  told_core g _ _ _ _ _ w (fo8_len _ EB (Nat.le_trans EB5 (by decide)) (kvz_EB f L hF hl)).1 (hid (fun u hu => Kept9 g f L u (hB.below hu hB.lt) hF hl (hT.belows hu))) (hid (fun u hu => Bound9 g f L u (hB.below hu hB.lt) hF hl hf (hT.belows hu))) (hid (fun u hu => Count9 g f L u (hB.below hu hB.lt)))
/-- What is let in of a list. -/
def fz (x : Nat) : List Nat := if magW x < 9218868437227405312 then [x] else []
def fx (xs : List Nat) (i : Nat) : List Nat := fz (xs.getD i 0)
theorem fz_fin (xs : List Nat) (hW : W64 xs) (s r k : Nat) : Fin9 (pkc (fx xs) s r k) := by
  induction k with
  | zero => intro x hx; cases hx
  | succ k ih =>
    show Fin9 (if k % s = r then pkc (fx xs) s r k ++ fx xs k else pkc (fx xs) s r k)
    split
    · refine ih.app ?_
      unfold fx fz
      split
      · rename_i h
        intro x hx
        obtain rfl := List.mem_singleton.1 hx
        exact ⟨hW.get k, h⟩
      · intro x hx; cases hx
    · exact ih
theorem fz_len (xs : List Nat) (s r k : Nat) : (pkc (fx xs) s r k).length ≤ k := by
  induction k with
  | zero => exact Nat.le_refl _
  | succ k ih =>
    show (if k % s = r then pkc (fx xs) s r k ++ fx xs k else pkc (fx xs) s r k).length ≤ _
    split
    · rw [List.length_append]
      have : (fx xs k).length ≤ 1 := by unfold fx fz; split <;> simp
      omega
    · omega
theorem pk_next (xs : List Nat) (s r i n : Nat) (h : i % s = r) (hs : 0 < s) (hi : i < n) : pkc (fx xs) s r (min (i + s) n) = pkc (fx xs) s r (min i n) ++ fx xs i := by
  rw [show min i n = i by omega]
  by_cases q : i + s ≤ n
  · rw [show min (i + s) n = i + s by omega]; exact pkc_step _ s r i h hs
  · rw [show min (i + s) n = n by omega]; exact pkc_end _ s r i n h hs (by omega) (by omega)

set_option maxHeartbeats 2000000 in
theorem filled9 (f : Nat) (xs : List Nat) (ao : Option Addr) (n cap r s : Nat) (w : World) (hf0 : 1 ≤ f) (hf : f ≤ 8) (hn : n = xs.length) (hn4 : n ≤ 4000) (hrd : Fs w.heap.size w ao xs) (hW : W64 xs) (hs : 1 ≤ s) (hs2 : s ≤ 64) (hr : r < s) :
    Calls Tryz.prog 26 #[.int .i64 f, .slice ao n cap, .int .i64 r, .int .i64 s] w fun rr w' => rr = .returned (.pointer (some ⟨w.heap.size, 0, none⟩)) ∧ Bz w' w.heap.size f (pkc (fx xs) s r n) ∧ Below w.heap.size w w' := by
  have HA := Aside.intro (And.intro hn (And.intro hrd hW))
  have HN := hid (New9 f w hf0 hf)
  clear hn hrd hW
  go_enter Tryz.func26, Tryz.ntmps26
  go_wp2_with fail
  with_reducible refine HN.out.mono ?_
  rintro rr u ⟨rfl, hB, hb⟩
  have H0 : Aside (Bz u w.heap.size f (pkc (fx xs) s r (min r n)) ∧ Below w.heap.size w u) := by
    refine ⟨?_, hb⟩
    have e : ∀ k, k ≤ r → pkc (fx xs) s r k = [] := by
      intro k
      induction k with
      | zero => intro _; rfl
      | succ k ih =>
        intro hk
        show (if k % s = r then _ else _) = _
        rw [if_neg (by rw [Nat.mod_eq_of_lt (by omega)]; omega)]
        exact ih (by omega)
    rw [e _ (by omega)]
    exact hB
  clear hB hb HN
  go_wp2_with fail
  go_loopg [10] n (fun gk iv wr => ∃ i : Nat, n ≤ gk + i ∧ iv = .int .i64 (i : Nat) ∧ Aside (i % s = r ∧ i ≤ n + 64 + r ∧ Bz wr w.heap.size f (pkc (fx xs) s r (min i n)) ∧ Below w.heap.size w wr))
  case atStart => exact ⟨r, by omega, rfl, ⟨Nat.mod_eq_of_lt hr, by omega, H0.out.1, H0.out.2⟩⟩
  case round =>
    clear H0
    obtain ⟨i, hgi, rfl, HW⟩ := hrel
    have hib : i ≤ 4200 := by have := HW.out.2.1; omega
    by_cases hi : i < n
    · have hid1 : decide ((i : Int) < (n : Int)) = true := by simp; omega
      obtain ⟨b, off, hao, hc⟩ := HA.out.2.1.at HW.out.2.2.2 i (by have := HA.out.1; omega)
      cases hao
      obtain ⟨x, hx⟩ : ∃ x, x = xs.getD i 0 := ⟨_, rfl⟩
      rw [← hx] at hc
      have HXX := Aside.intro hx
      have hxw : x < 18446744073709551616 := by rw [hx]; exact HA.out.2.2.get i
      have hlen := fz_len xs s r (min i n)
      have hfin := Aside.intro (fz_fin xs HA.out.2.2 s r (min i n))
      have HNX := Aside.intro (pk_next xs s r i n HW.out.1 (by omega) hi)
      clear hx
      by_cases hfx : magW x < 9218868437227405312
      · have HAD := hid (Add9 x ⟨hxw, hfx⟩ w.heap.size f (pkc (fx xs) s r (min i n)) wr HW.out.2.2.1 hfin.out (by omega) hf)
        have HY : Aside (pkc (fx xs) s r (min i n) ++ [x] = pkc (fx xs) s r (min (i + s) n)) := by
          rw [HNX.out]; unfold fx fz; rw [← HXX.out, if_pos hfx]; exact Aside.intro rfl
        clear hlen hfin
        go_wp2_with fail
        with_reducible refine HAD.out.mono ?_
        rintro rr v ⟨rfl, hBv, hbt⟩
        have HZ : Aside ((i + s) % s = r ∧ i + s ≤ n + 64 + r ∧ Bz v w.heap.size f (pkc (fx xs) s r (min (i + s) n)) ∧ Below w.heap.size w v) := ⟨by rw [Nat.add_mod_right]; exact HW.out.1, by omega, by rw [← HY.out]; exact hBv, But.below HW.out.2.2.2 hbt HW.out.2.2.2.size (Nat.le_refl _)⟩
        clear hBv hbt HW HAD HY HNX HXX
        go_wp2
        go_roundg (gk - 1)
        case measure => omega
        case rel => exact ⟨i + s, by omega, by simp, HZ⟩
      · have HAD := hid (Add9_odd x ⟨hxw, hfx⟩ w.heap.size f (pkc (fx xs) s r (min i n)) wr HW.out.2.2.1 (by omega))
        have HY : Aside (pkc (fx xs) s r (min i n) = pkc (fx xs) s r (min (i + s) n)) := by
          rw [HNX.out]; unfold fx fz; rw [← HXX.out, if_neg hfx, List.append_nil]; exact Aside.intro rfl
        clear hlen hfin
        go_wp2_with fail
        with_reducible refine HAD.out.mono ?_
        rintro rr v ⟨rfl, hbt⟩
        have HZ : Aside ((i + s) % s = r ∧ i + s ≤ n + 64 + r ∧ Bz v w.heap.size f (pkc (fx xs) s r (min (i + s) n)) ∧ Below w.heap.size w v) := ⟨by rw [Nat.add_mod_right]; exact HW.out.1, by omega, by rw [← HY.out]; exact HW.out.2.2.1.below hbt HW.out.2.2.1.lt, HW.out.2.2.2.trans (hbt.mono HW.out.2.2.2.size)⟩
        clear hbt HW HAD HY HNX HXX
        go_wp2
        go_roundg (gk - 1)
        case measure => omega
        case rel => exact ⟨i + s, by omega, by simp, HZ⟩
    · have hid1 : decide ((i : Int) < (n : Int)) = false := by simp; omega
      go_wp2
      go_ret
      obtain ⟨_, _, q1, q2⟩ := HW.out
      rw [show min i n = n by omega] at q1
      exact ⟨rfl, q1, q2⟩
end Go.Proofs.YtjpaocgimdinmaaGreatDoor

