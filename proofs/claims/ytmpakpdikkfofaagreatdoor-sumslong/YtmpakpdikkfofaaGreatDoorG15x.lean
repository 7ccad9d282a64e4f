/- Bins: Kept. -/
import Derived.Test.YtmpakpdikkfofaaGreatDoorG8x
import Derived.Deep.LoopGhost
import Derived.Test.YtmpakpdikkfofaaGreatDoorD21x
import Derived.Test.YtmpakpdikkfofaaGreatDoorH6x
import Derived.Deep.Cut
import Derived.Deep.RegionHeld3
import Derived.BigQuiet
import Derived.Test.YtmpakpdikkfofaaGreatDoorM1x
import Derived.ProofKit
import Derived.OpenShut
import Derived.ChangeOld
import Derived.ChangeArms
import Derived.SizedLaws
import Derived.Laws.Cover2
import Derived.Test.YtmpakpdikkfofaaGreatDoorH1x
namespace Go.Proofs.YtmpakpdikkfofaaGreatDoor
open Go Go.RowKit
set_option linter.unusedVariables false
set_option maxRecDepth 20000
set_option linter.unusedSimpArgs false

theorem idx9_any (K : Nat → Int) (i : Nat) (hi : i < 8) (w : World) : (Instr.index 94 (.agg #[.int .i64 (K 0 / 4294967296), .int .i64 (K 0 % 4294967296), .int .i64 (K 1 / 4294967296), .int .i64 (K 1 % 4294967296), .int .i64 (K 2 / 4294967296), .int .i64 (K 2 % 4294967296), .int .i64 (K 3 / 4294967296), .int .i64 (K 3 % 4294967296), .int .i64 (K 4 / 4294967296), .int .i64 (K 4 % 4294967296), .int .i64 (K 5 / 4294967296), .int .i64 (K 5 % 4294967296), .int .i64 (K 6 / 4294967296), .int .i64 (K 6 % 4294967296), .int .i64 (K 7 / 4294967296), .int .i64 (K 7 % 4294967296)]) (.int .i64 (i : Nat))).run Tryz.prog w = .ok (.agg #[.int .i64 (K i / 4294967296), .int .i64 (K i % 4294967296)]) w := by
  obtain rfl | rfl | rfl | rfl | rfl | rfl | rfl | rfl : i = 0 ∨ i = 1 ∨ i = 2 ∨ i = 3 ∨ i = 4 ∨ i = 5 ∨ i = 6 ∨ i = 7 := by omega
  · exact idx9_0 ..
  · exact idx9_1 ..
  · exact idx9_2 ..
  · exact idx9_3 ..
  · exact idx9_4 ..
  · exact idx9_5 ..
  · exact idx9_6 ..
  · exact idx9_7 ..
theorem until_two {P : Program} {ops : Array Oper} {Q : Exit → Act → World → Prop} {md : Region.Mode} {S : World → Prop} {stop i j : Nat} {oi oj : Oper} {fuel : Nat} {listed : Array Bool} {a : Act} {w : World} (hr : Region.ready md ops listed = [i, j]) (hi : ops[i]? = some oi) (hj : ops[j]? = some oj)
    (h1 : ∀ K' : Act → World → Prop, Shut (∀ b u, (i < stop → S u) → wpUntil P md ops Q S stop fuel (listed.setIfInBounds i true) b u → K' b u) → if Region.wanted oi (yielded ops a.tmps) = true then Oper.wp P oi a w K' Q else K' (a.put oi.dst undef) w)
    (h2 : ∀ K' : Act → World → Prop, Shut (∀ b u, (j < stop → S u) → wpUntil P md ops Q S stop fuel (listed.setIfInBounds j true) b u → K' b u) → if Region.wanted oj (yielded ops a.tmps) = true then Oper.wp P oj a w K' Q else K' (a.put oj.dst undef) w) : wpUntil P md ops Q S stop (fuel + 1) listed a w :=
  ⟨fun h0 => (by rw [hr] at h0; cases h0), fun k hk => by
    rw [hr] at hk
    rcases List.mem_cons.1 hk with rfl | hk
    · exact wpOp_step hi (fun K' hK => h1 K' (fun b u q1 q2 => hK b u ⟨q1, q2⟩))
    · obtain rfl := List.mem_singleton.1 hk
      exact wpOp_step hj (fun K' hK => h2 K' (fun b u q1 q2 => hK b u ⟨q1, q2⟩))⟩
/-- What stands while Kept walks. -/
structure Ki (w : World) (T : Int) (K : Nat → Int) (i : Nat) (wr : World) : Prop where
  res : Dk wr w.heap.size false (.slice none 0 0) 0
  sum : ∃ v, Dk wr (w.heap.size + 1) (dN (fo8 (kv T K i))) v (dE (fo8 (kv T K i))) ∧ Nt (w.heap.size + 2) wr v (dX (fo8 (kv T K i)))
  bel : Below w.heap.size w wr

set_option maxHeartbeats 4000000 in
theorem Kept_core (g : Nat) (T : Int) (K : Nat → Int) (w : World) (hg : g < w.heap.size) (hT1 : -1 ≤ T ∧ T ≤ 66) (hbig : ∀ i, i ≤ 8 → (kv T K i).natAbs < 2 ^ EB)
    (HC : Hid (∀ u, Below w.heap.size w u → u.cell? ⟨g, 2, none⟩ = some (.int .i64 (T - 34)) ∧ u.rangeAt g 3 [.int .i64 (K 0 / 4294967296), .int .i64 (K 0 % 4294967296), .int .i64 (K 1 / 4294967296), .int .i64 (K 1 % 4294967296), .int .i64 (K 2 / 4294967296), .int .i64 (K 2 % 4294967296), .int .i64 (K 3 / 4294967296), .int .i64 (K 3 % 4294967296), .int .i64 (K 4 / 4294967296), .int .i64 (K 4 % 4294967296), .int .i64 (K 5 / 4294967296), .int .i64 (K 5 % 4294967296), .int .i64 (K 6 / 4294967296), .int .i64 (K 6 % 4294967296), .int .i64 (K 7 / 4294967296), .int .i64 (K 7 % 4294967296)]))
    (HX : Hid (∀ i : Nat, i < 8 → ∀ u, Below w.heap.size w u → Calls Tryz.prog 108 #[.agg #[.int .i64 (K i / 4294967296), .int .i64 (K i % 4294967296)], .int .i64 (T - 34 - (i : Nat))] u fun r w' => (∃ v, r = .returned (.agg #[.bool (dN (fo8 (vb (T - i) (K i)))), v, .int .i64 (dE (fo8 (vb (T - i) (K i))))]) ∧ Nt u.heap.size w' v (dX (fo8 (vb (T - i) (K i))))) ∧ Below u.heap.size u w'))
    (HL : Hid (∀ i : Nat, i < 8 → (ws (dX (fo8 (vb (T - i) (K i))))).length ≤ 8192))
    (HA : Hid (∀ i : Nat, i < 8 → ∀ u a c b d, Below w.heap.size w u → Arg u a (ws (dX (fo8 (kv T K i)))).length c (ws (dX (fo8 (kv T K i)))) → Arg u b (ws (dX (fo8 (vb (T - i) (K i))))).length d (ws (dX (fo8 (vb (T - i) (K i))))) →
      Calls Tryz.prog 107 #[.agg #[.bool (dN (fo8 (kv T K i))), .slice a (ws (dX (fo8 (kv T K i)))).length c, .int .i64 (dE (fo8 (kv T K i)))], .agg #[.bool (dN (fo8 (vb (T - i) (K i)))), .slice b (ws (dX (fo8 (vb (T - i) (K i))))).length d, .int .i64 (dE (fo8 (vb (T - i) (K i))))]] u fun r w' => (∃ v, r = .returned (.tuple #[.agg #[.bool (dN (fo8 (kv T K (i + 1)))), v, .int .i64 (dE (fo8 (kv T K (i + 1))))], .int .i64 0]) ∧ Nt u.heap.size w' v (dX (fo8 (kv T K (i + 1))))) ∧ Below u.heap.size u w')) :
    Calls Tryz.prog 65 #[.pointer (some ⟨g, 0, none⟩)] w fun r w' => (∃ v, r = .returned (.agg #[.bool (dN (fo8 (kv T K 8))), v, .int .i64 (dE (fo8 (kv T K 8)))]) ∧ Nt w.heap.size w' v (dX (fo8 (kv T K 8)))) ∧ Below w.heap.size w w' := by
  obtain ⟨W0, hW0⟩ : ∃ W, W = (w.alloc (Obj.cells #[.bool false, .slice none 0 0, .int .i64 0] 90)).alloc (Obj.cells #[.bool false, .slice none 0 0, .int .i64 0] 90) := ⟨_, rfl⟩
  have HW0 := Aside.intro hW0
  have H0 : Aside (Ki w T K 0 W0) := by
    subst hW0
    have z0 : fo8 (kv T K 0) = some (false, 0, 0) := by unfold kv fo8; exact mkS_zero _ _
    refine ⟨(Dk.new w _ _ _).below (below_alloc _ _), ⟨.slice none 0 0, ?_, ?_⟩, (below_alloc _ _).trans ((below_alloc _ _).mono (by simp))⟩
    · rw [z0]
      have := Dk.new (w.alloc (Obj.cells #[.bool false, .slice none 0 0, .int .i64 0] 90)) false (.slice none 0 0) 0
      rw [show (w.alloc (Obj.cells #[.bool false, .slice none 0 0, .int .i64 0] 90)).heap.size = w.heap.size + 1 by simp] at this
      exact this
    · rw [z0]; exact Nt.nil _ _
  have HBG := Aside.intro hbig
  obtain ⟨da, hda⟩ := Tryz.row_arr9
  have HE := Aside.intro hda
  have HS4 : Aside ((Tryz.prog.info? 94).map (·.size) = some ([.int .i64 (K 0 / 4294967296), .int .i64 (K 0 % 4294967296), .int .i64 (K 1 / 4294967296), .int .i64 (K 1 % 4294967296), .int .i64 (K 2 / 4294967296), .int .i64 (K 2 % 4294967296), .int .i64 (K 3 / 4294967296), .int .i64 (K 3 % 4294967296), .int .i64 (K 4 / 4294967296), .int .i64 (K 4 % 4294967296), .int .i64 (K 5 / 4294967296), .int .i64 (K 5 % 4294967296), .int .i64 (K 6 / 4294967296), .int .i64 (K 6 % 4294967296), .int .i64 (K 7 / 4294967296), .int .i64 (K 7 % 4294967296)] : List Value).length) := Tryz.size_arr9
  have HR := Aside.intro (HC.out W0 H0.out.bel).2
  clear hda hbig hW0
  go_enter Tryz.func65, Tryz.ntmps65
  go_wp2_with (first
    | ((rw [← HW0.out]); (with_reducible refine wpList_load_mid (P := Tryz.prog) rfl 94 (.tmp 8) rfl g 3 rfl [.int .i64 (K 0 / 4294967296), .int .i64 (K 0 % 4294967296), .int .i64 (K 1 / 4294967296), .int .i64 (K 1 % 4294967296), .int .i64 (K 2 / 4294967296), .int .i64 (K 2 % 4294967296), .int .i64 (K 3 / 4294967296), .int .i64 (K 3 % 4294967296), .int .i64 (K 4 / 4294967296), .int .i64 (K 4 % 4294967296), .int .i64 (K 5 / 4294967296), .int .i64 (K 5 % 4294967296), .int .i64 (K 6 / 4294967296), .int .i64 (K 6 % 4294967296), .int .i64 (K 7 / 4294967296), .int .i64 (K 7 % 4294967296)] da HR.out HE.out.1 HE.out.2 HS4.out ?_)))
  clear HW0 HR HS4
  go_loopg [10] 8 (fun gk iv wr => ∃ i : Nat, gk + i = 8 ∧ iv = .int .i64 (i : Nat) ∧ Aside (Ki w T K i wr))
  case atStart => exact ⟨0, by omega, rfl, H0⟩
  case round =>
    clear H0 W0
    obtain ⟨i, hgi, rfl, HW⟩ := hrel
    by_cases hi : i < 8
    · have hix := fun u => idx9_any K i hi u
      have hl2 := HL.out i hi
      have hX2 := hid (HX.out i hi)
      have hA2 := hid (HA.out i hi)
      have l1 := (fo8_len (kv T K i) EB (Nat.le_trans EB5 (by decide)) (HBG.out i (by omega))).1
      have l3 := (fo8_len (kv T K (i + 1)) EB (Nat.le_trans EB5 (by decide)) (HBG.out (i + 1) (by omega))).1
      obtain ⟨v1, S1, S2⟩ := HW.out.sum
      obtain ⟨n1, hn1⟩ : ∃ b, b = dN (fo8 (kv T K i)) := ⟨_, rfl⟩
      obtain ⟨e1, he1⟩ : ∃ b, b = dE (fo8 (kv T K i)) := ⟨_, rfl⟩
      obtain ⟨X1, hX1⟩ : ∃ b, b = dX (fo8 (kv T K i)) := ⟨_, rfl⟩
      rw [← hn1, ← he1] at S1
      rw [← hX1] at S2 l1
      rw [← hn1, ← he1, ← hX1] at hA2
      have HXN := Aside.intro (And.intro hn1 (And.intro he1 hX1))
      clear hn1 he1 hX1
      obtain ⟨n2, hn2⟩ : ∃ b, b = dN (fo8 (vb (T - i) (K i))) := ⟨_, rfl⟩
      obtain ⟨e2, he2⟩ : ∃ b, b = dE (fo8 (vb (T - i) (K i))) := ⟨_, rfl⟩
      obtain ⟨X2, hXX2⟩ : ∃ b, b = dX (fo8 (vb (T - i) (K i))) := ⟨_, rfl⟩
      rw [← hn2, ← he2, ← hXX2] at hA2 hX2
      rw [← hXX2] at hl2
      clear hn2 he2 hXX2
      obtain ⟨n3, hn3⟩ : ∃ b, b = dN (fo8 (kv T K (i + 1))) := ⟨_, rfl⟩
      obtain ⟨e3, he3⟩ : ∃ b, b = dE (fo8 (kv T K (i + 1))) := ⟨_, rfl⟩
      obtain ⟨X3, hX3⟩ : ∃ b, b = dX (fo8 (kv T K (i + 1))) := ⟨_, rfl⟩
      rw [← hn3, ← he3, ← hX3] at hA2
      rw [← hX3] at l3
      have H3N := Aside.intro (And.intro hn3 (And.intro he3 hX3))
      clear hn3 he3 hX3
      obtain ⟨a1, c1, rfl, _⟩ := S2.arg (Nat.le_trans l1 (by decide))
      obtain ⟨U, hU⟩ : ∃ U, U = wr.alloc (.cells #[.int .i64 (K i / 4294967296), .int .i64 (K i % 4294967296)] 93) := ⟨_, rfl⟩
      have HU := Aside.intro hU
      have HV : Aside (Below w.heap.size w U.drew ∧ Dk U.drew (w.heap.size + 1) n1 (.slice a1 (ws X1).length c1) e1 ∧ Dk U.drew w.heap.size false (.slice none 0 0) 0 ∧ Nt (w.heap.size + 2) U.drew (.slice a1 (ws X1).length c1) X1 ∧ Bl U.drew wr.heap.size 93 [.int .i64 (K i / 4294967296), .int .i64 (K i % 4294967296)] ∧ w.heap.size + 1 < wr.heap.size) := by
        subst hU
        have hb2 := (below_alloc wr (.cells #[.int .i64 (K i / 4294967296), .int .i64 (K i % 4294967296)] 93)).drew
        exact ⟨HW.out.bel.trans (hb2.mono HW.out.bel.size), S1.below hb2, HW.out.res.below hb2, S2.below hb2, (Bl.new wr 93 [_, _]).drew, S1.lt⟩
      clear hU S1 S2
      have mk : Hid (∀ u, Below w.heap.size w u → Dk u (w.heap.size + 1) n1 (.slice a1 (ws X1).length c1) e1 → Bl u wr.heap.size 93 [.int .i64 (K i / 4294967296), .int .i64 (K i % 4294967296)] → u.cell? ⟨w.heap.size + 1, 0, none⟩ = some (.bool n1) ∧ u.cell? ⟨w.heap.size + 1, 1, none⟩ = some (.slice a1 (ws X1).length c1) ∧ u.cell? ⟨w.heap.size + 1, 2, none⟩ = some (.int .i64 e1) ∧ u.cell? ⟨wr.heap.size, 0, none⟩ = some (.int .i64 (K i / 4294967296)) ∧ u.cell? ⟨wr.heap.size, 1, none⟩ = some (.int .i64 (K i % 4294967296)) ∧ u.cell? ⟨g, 2, none⟩ = some (.int .i64 (T - 34))) :=
        hid (fun u p0 p1 p2 => ⟨p1.facts.1, p1.facts.2.1, p1.facts.2.2.1, p2.cell 0 _ rfl, p2.cell 1 _ rfl, (HC.out u p0).1⟩)
      have kS := Aside.intro (mk.out _ HV.out.1 HV.out.2.1 HV.out.2.2.2.2.1)
      have hi8 : (i : Int) < 8 := by omega
      have hw9 : IntKind.i64.wrap (T - 34 - (i : Int)) = T - 34 - (i : Int) := by rw [IntKind.wrap_i64]; omega
      clear HX HL HA HW
      go_wp2_with fail
      rw [← HU.out]
      clear HU
      refine until_region (fun u => u.cell? ⟨w.heap.size + 1, 0, none⟩ = some (.bool n1) ∧ u.cell? ⟨w.heap.size + 1, 1, none⟩ = some (.slice a1 (ws X1).length c1) ∧ u.cell? ⟨w.heap.size + 1, 2, none⟩ = some (.int .i64 e1) ∧ u.cell? ⟨wr.heap.size, 0, none⟩ = some (.int .i64 (K i / 4294967296)) ∧ u.cell? ⟨wr.heap.size, 1, none⟩ = some (.int .i64 (K i % 4294967296)) ∧ u.cell? ⟨g, 2, none⟩ = some (.int .i64 (T - 34))) 12 (by kernel_rfl) ?_
      refine until_take (i := 0) [9, 10] (v := ?_) rfl (by kernel_rfl) (by kernel_rfl) (by kernel_rfl) (by kernel_rfl) (by kernel_rfl) (fun _ _ _ h => h) (Or.inl ⟨by rfl, ?_⟩) kS.out ?_
      rotate_left
      · intro u hSu
        try dsimp only at hSu
        first | (go_simp; done) | (go_simp; with_reducible rfl)
      try simp only [Act.put, List.setIfInBounds_toArray, List.set_cons_zero, List.set_cons_succ]
      refine until_take (i := 1) [8, 9, 10] (v := ?_) rfl (by kernel_rfl) (by kernel_rfl) (by kernel_rfl) (by kernel_rfl) (by kernel_rfl) (fun _ _ _ h => h) (Or.inl ⟨by rfl, ?_⟩) kS.out ?_
      rotate_left
      · intro u hSu
        try dsimp only at hSu
        first | (go_simp; done) | (go_simp; with_reducible rfl)
      try simp only [Act.put, List.setIfInBounds_toArray, List.set_cons_zero, List.set_cons_succ]
      refine until_take (i := 2) [3, 4, 5, 7, 8, 9, 10] (v := ?_) rfl (by kernel_rfl) (by kernel_rfl) (by kernel_rfl) (by kernel_rfl) (by kernel_rfl) (fun _ _ _ h => h) (Or.inl ⟨by rfl, ?_⟩) kS.out ?_
      rotate_left
      · intro u hSu
        try dsimp only at hSu
        first | (go_simp; done) | (go_simp; with_reducible rfl)
      try simp only [Act.put, List.setIfInBounds_toArray, List.set_cons_zero, List.set_cons_succ]
      refine until_take (i := 3) [4, 5, 7, 8, 9, 10] (v := ?_) rfl (by kernel_rfl) (by kernel_rfl) (by kernel_rfl) (by kernel_rfl) (by kernel_rfl) (fun _ _ _ h => h) (Or.inl ⟨by rfl, ?_⟩) kS.out ?_
      rotate_left
      · intro u hSu
        try dsimp only at hSu
        first | (go_simp; done) | (go_simp; with_reducible rfl)
      try simp only [Act.put, List.setIfInBounds_toArray, List.set_cons_zero, List.set_cons_succ]
      refine until_take (i := 4) [5, 7, 8, 9, 10] (v := ?_) rfl (by kernel_rfl) (by kernel_rfl) (by kernel_rfl) (by kernel_rfl) (by kernel_rfl) (fun _ _ _ h => h) (Or.inl ⟨by rfl, ?_⟩) kS.out ?_
      rotate_left
      · intro u hSu
        try dsimp only at hSu
        first | (go_simp; done) | (go_simp; with_reducible rfl)
      try simp only [Act.put, List.setIfInBounds_toArray, List.set_cons_zero, List.set_cons_succ]
      refine until_take (i := 5) [7, 8, 9, 10] (v := ?_) rfl (by kernel_rfl) (by kernel_rfl) (by kernel_rfl) (by kernel_rfl) (by kernel_rfl) (fun _ _ _ h => h) (Or.inl ⟨by rfl, ?_⟩) kS.out ?_
      rotate_left
      · intro u hSu
        try dsimp only at hSu
        first | (go_simp; done) | (go_simp; with_reducible rfl)
      try simp only [Act.put, List.setIfInBounds_toArray, List.set_cons_zero, List.set_cons_succ]
      refine until_take (i := 6) [7, 8, 9, 10] (v := ?_) rfl (by kernel_rfl) (by kernel_rfl) (by kernel_rfl) (by kernel_rfl) (by kernel_rfl) (fun _ _ _ h => h) (Or.inl ⟨by rfl, ?_⟩) kS.out ?_
      rotate_left
      · intro u hSu
        try dsimp only at hSu
        first | (go_simp; done) | (go_simp; with_reducible rfl)
      try simp only [Act.put, List.setIfInBounds_toArray, List.set_cons_zero, List.set_cons_succ]
      refine until_take (i := 7) [8, 9, 10] (v := ?_) rfl (by kernel_rfl) (by kernel_rfl) (by kernel_rfl) (by kernel_rfl) (by kernel_rfl) (fun _ _ _ h => h) (Or.inl ⟨by rfl, ?_⟩) kS.out ?_
      rotate_left
      · intro u hSu
        try dsimp only at hSu
        first | (go_simp; done) | (go_simp; with_reducible rfl)
      try simp only [Act.put, List.setIfInBounds_toArray, List.set_cons_zero, List.set_cons_succ]
      refine until_one (i := 8) (by kernel_rfl) rfl (fun K' hK => ?_)
      go_simp
      refine (hX2.out _ HV.out.1).mono ?_
      rintro r u ⟨⟨v2, rfl, hN2⟩, hb⟩
      obtain ⟨a2, c2, rfl, A2⟩ := hN2.arg (Nat.le_trans hl2 (by decide))
      have hs0 := HV.out.1.size
      have HV := Aside.intro (And.intro (HV.out.1.trans (hb.mono HV.out.1.size)) (And.intro (HV.out.2.1.below hb) (And.intro (HV.out.2.2.1.below hb) (And.intro (HV.out.2.2.2.1.below hb) (And.intro (HV.out.2.2.2.2.1.below hb HV.out.2.2.2.2.1.lt) HV.out.2.2.2.2.2)))))
      have kS := Aside.intro (mk.out _ HV.out.1 HV.out.2.1 HV.out.2.2.2.2.1)
      have HA2 := Aside.intro A2
      clear hb A2 hN2
      dsimp only
      refine hK.out _ _ (fun _ => kS.out) ?_
      clear hK K'
      try simp only [Act.put, List.setIfInBounds_toArray, List.set_cons_zero, List.set_cons_succ]
      refine until_one (i := 9) (by kernel_rfl) rfl (fun K' hK => ?_)
      go_simp
      refine (hA2.out u a1 c1 a2 c2 HV.out.1 (HV.out.2.2.2.1.arg' (Nat.le_trans l1 (by decide))).2 HA2.out).mono ?_
      rintro r u2 ⟨⟨v3, rfl, hN3⟩, hb⟩
      obtain ⟨a3, c3, rfl, _⟩ := hN3.arg (Nat.le_trans l3 (by decide))
      have HN3 := Aside.intro (hN3.mono (show w.heap.size + 2 ≤ u.heap.size by have := HV.out.2.2.2.2.1.lt; have := HV.out.2.2.2.2.2; omega))
      have HV := Aside.intro (And.intro (HV.out.1.trans (hb.mono HV.out.1.size)) (And.intro (HV.out.2.1.below hb) (And.intro (HV.out.2.2.1.below hb) (And.intro (HV.out.2.2.2.1.below hb) (And.intro (HV.out.2.2.2.2.1.below hb HV.out.2.2.2.2.1.lt) HV.out.2.2.2.2.2)))))
      have kS := Aside.intro (mk.out _ HV.out.1 HV.out.2.1 HV.out.2.2.2.2.1)
      clear hb hN3
      dsimp only
      refine hK.out _ _ (fun _ => kS.out) ?_
      clear hK K'
      try simp only [Act.put, List.setIfInBounds_toArray, List.set_cons_zero, List.set_cons_succ]
      refine until_take (i := 10) [] (v := ?_) rfl (by kernel_rfl) (by kernel_rfl) (by kernel_rfl) (by kernel_rfl) (by kernel_rfl) (fun _ _ _ h => h) (Or.inl ⟨by rfl, ?_⟩) kS.out ?_
      rotate_left
      · intro u hSu
        try dsimp only at hSu
        first | (go_simp; done) | (go_simp; with_reducible rfl)
      try simp only [Act.put, List.setIfInBounds_toArray, List.set_cons_zero, List.set_cons_succ]
      obtain ⟨z0, z1, z2, zf0, zf1, zf2⟩ := HV.out.2.1.facts
      have HXX : Aside (Ki w T K (i + 1) (st3 u2 (w.heap.size + 1) (.bool n3) (.slice a3 (ws X3).length c3) (.int .i64 e3))) := by
        have hbt := st3_but8 (w.heap.size + 1) u2 (.bool n3) (.slice a3 (ws X3).length c3) (.int .i64 e3)
        refine ⟨HV.out.2.2.1.but8 hbt (by omega), ⟨.slice a3 (ws X3).length c3, ?_, ?_⟩, ?_⟩
        · rw [← H3N.out.1, ← H3N.out.2.1]; exact HV.out.2.1.set _ _ _
        · rw [← H3N.out.2.2]; exact HN3.out.but8 hbt (by omega)
        · exact But.below HV.out.1 hbt HV.out.1.size (by omega)
      unfold st3 at HXX
      refine until_two (i := 11) (j := 12) (by kernel_rfl) rfl rfl (fun K' hK => ?_) (fun K' hK => ?_)
      · go_simp
        refine hK.out _ _ (fun _ => kS.out) ?_
        clear hK K'
        try simp only [Act.put, List.setIfInBounds_toArray, List.set_cons_zero, List.set_cons_succ]
        refine until_two (i := 12) (j := 13) (by kernel_rfl) rfl rfl (fun K' hK => ?_) (fun K' hK => ?_)
        · go_simp
          refine hK.out _ _ (fun h => absurd h (by decide)) ?_
          clear hK K'
          try simp only [Act.put, List.setIfInBounds_toArray, List.set_cons_zero, List.set_cons_succ]
          refine until_one (i := 13) (by kernel_rfl) rfl (fun K' hK => ?_)
          go_simp
          refine hK.out _ _ (fun h => absurd h (by decide)) ?_
          clear hK K'
          try simp only [Act.put, List.setIfInBounds_toArray, List.set_cons_zero, List.set_cons_succ]
          refine until_done (by kernel_rfl) ?_ _
          clear kS z0 z1 z2 zf0 zf1 zf2 HV HN3 HA2 H3N HXN mk hX2 hA2
          go_wp2
          go_roundg (gk - 1)
          case measure => omega
          case rel => exact ⟨i + 1, by omega, by simp, HXX⟩
        · go_simp
          refine hK.out _ _ (fun h => absurd h (by decide)) ?_
          clear hK K'
          try simp only [Act.put, List.setIfInBounds_toArray, List.set_cons_zero, List.set_cons_succ]
          refine until_one (i := 12) (by kernel_rfl) rfl (fun K' hK => ?_)
          go_simp
          refine hK.out _ _ (fun h => absurd h (by decide)) ?_
          clear hK K'
          try simp only [Act.put, List.setIfInBounds_toArray, List.set_cons_zero, List.set_cons_succ]
          refine until_done (by kernel_rfl) ?_ _
          clear kS z0 z1 z2 zf0 zf1 zf2 HV HN3 HA2 H3N HXN mk hX2 hA2
          go_wp2
          go_roundg (gk - 1)
          case measure => omega
          case rel => exact ⟨i + 1, by omega, by simp, HXX⟩
      · go_simp
        refine hK.out _ _ (fun h => absurd h (by decide)) ?_
        clear hK K'
        try simp only [Act.put, List.setIfInBounds_toArray, List.set_cons_zero, List.set_cons_succ]
        refine until_one (i := 11) (by kernel_rfl) rfl (fun K' hK => ?_)
        go_simp
        refine hK.out _ _ (fun _ => kS.out) ?_
        clear hK K'
        try simp only [Act.put, List.setIfInBounds_toArray, List.set_cons_zero, List.set_cons_succ]
        refine until_one (i := 13) (by kernel_rfl) rfl (fun K' hK => ?_)
        go_simp
        refine hK.out _ _ (fun h => absurd h (by decide)) ?_
        clear hK K'
        try simp only [Act.put, List.setIfInBounds_toArray, List.set_cons_zero, List.set_cons_succ]
        refine until_done (by kernel_rfl) ?_ _
        clear kS z0 z1 z2 zf0 zf1 zf2 HV HN3 HA2 H3N HXN mk hX2 hA2
        go_wp2
        go_roundg (gk - 1)
        case measure => omega
        case rel => exact ⟨i + 1, by omega, by simp, HXX⟩
    · obtain rfl : i = 8 := by omega
      obtain rfl : gk = 0 := by omega
      obtain ⟨v1, S1, S2⟩ := HW.out.sum
      have l1 := (fo8_len (kv T K 8) EB (Nat.le_trans EB5 (by decide)) (HBG.out 8 (by omega))).1
      obtain ⟨n1, hn1⟩ : ∃ b, b = dN (fo8 (kv T K 8)) := ⟨_, rfl⟩
      obtain ⟨e1, he1⟩ : ∃ b, b = dE (fo8 (kv T K 8)) := ⟨_, rfl⟩
      obtain ⟨X1, hX1⟩ : ∃ b, b = dX (fo8 (kv T K 8)) := ⟨_, rfl⟩
      rw [← hn1, ← he1] at S1
      rw [← hX1] at S2 l1
      have HNM := Aside.intro (And.intro hn1 (And.intro he1 hX1))
      obtain ⟨a1, c1, rfl, _⟩ := S2.arg (Nat.le_trans l1 (by decide))
      obtain ⟨y0, y1, y2, yf0, yf1, yf2⟩ := S1.facts
      have R2 := HW.out.res
      obtain ⟨z0, z1, z2, zf0, zf1, zf2⟩ := R2.facts
      have hbt := st3_but8 w.heap.size wr (.bool n1) (.slice a1 (ws X1).length c1) (.int .i64 e1)
      have HF := Aside.intro (And.intro (R2.set n1 (.slice a1 (ws X1).length c1) e1) (And.intro ((S2.mono (show w.heap.size ≤ w.heap.size + 2 by omega)).dk8 R2 hbt) (But.below HW.out.bel hbt HW.out.bel.size (Nat.le_refl _))))
      clear HX HL HA HC S1 S2 R2 hbt HW hn1 he1 hX1
      go_wp2
      refine close8 Tryz.results65 (g := w.heap.size) (n := n1) (v := .slice a1 (ws X1).length c1) (e := e1) rfl HF.out.1 ?_
      rw [← HNM.out.1, ← HNM.out.2.1, ← HNM.out.2.2]
      exact ⟨⟨_, rfl, HF.out.2.1⟩, HF.out.2.2⟩
end Go.Proofs.YtmpakpdikkfofaaGreatDoor

/- Bins: Kept, Bound, Count, told. -/
namespace Go.Proofs.YtmpakpdikkfofaaGreatDoor
open Go Go.RowKit
set_option linter.unusedVariables false
set_option maxRecDepth 20000
set_option linter.unusedSimpArgs false

/-- What bins keep of a list. -/
def kvz (f : Nat) (L : List Nat) : Int := kv (tL (ZL L)) (kf f (tL (ZL L)) (SL (ZL L))) 8
theorem ZL_div (L : List Nat) : ∀ z ∈ ZL L, (16384 : Int) ∣ z := by
  intro z hz
  obtain ⟨x, _, rfl⟩ := List.mem_map.1 hz
  exact ⟨fvW x, by unfold zW; rw [Int.mul_comm]⟩
theorem kf_hi (f : Nat) (L : List Nat) (hl : L.length ≤ 1099511627776) (i : Nat) : (kf f (tL (ZL L)) (SL (ZL L)) i).natAbs ≤ 2 ^ 75 := by
  unfold kf; split
  · have := SL_hi L hl (tL (ZL L) - i); omega
  · simp
theorem kvz_EB (f : Nat) (L : List Nat) (hF : Fin9 L) (hl : L.length ≤ 1099511627776) : (kvz f L).natAbs < 2 ^ EB := kv_EB _ _ 8 (Nat.le_refl _) (by have := tL_hi L hF; omega) (kf_hi f L hl)
theorem Kept9 (g f : Nat) (L : List Nat) (w : World) (hB : Bz w g f L) (hF : Fin9 L) (hl : L.length ≤ 1099511627776) (hT : Tab w) :
    Calls Tryz.prog 65 #[.pointer (some ⟨g, 0, none⟩)] w fun r w' => (∃ v, r = .returned (.agg #[.bool (dN (fo8 (kvz f L))), v, .int .i64 (dE (fo8 (kvz f L)))]) ∧ Nt w.heap.size w' v (dX (fo8 (kvz f L)))) ∧ Below w.heap.size w w' := by
  have b1 := tL_ge (ZL L)
  have b2 := tL_hi L hF
  have hK := kf_hi f L hl
  obtain ⟨K, hKK⟩ : ∃ K, K = kf f (tL (ZL L)) (SL (ZL L)) := ⟨_, rfl⟩
  obtain ⟨T, hTT⟩ : ∃ T, T = tL (ZL L) := ⟨_, rfl⟩
  have hz : ∀ i : Nat, T - i < 0 → K i = 0 := fun i hi => by
    rw [hKK]; unfold kf; split
    · rw [← hTT]; exact SL_neg _ _ hi
    · rfl
  have hd : ∀ i : Nat, T - i = 0 → (16384 : Int) ∣ K i := fun i hi => by
    rw [hKK]; unfold kf; split
    · rw [← hTT, hi]; exact SL_div _ (ZL_div L)
    · exact ⟨0, rfl⟩
  unfold kvz
  rw [← hKK, ← hTT]
  rw [← hKK] at hK
  rw [← hTT] at b1 b2
  have hbig : ∀ i, i ≤ 8 → (kv T K i).natAbs < 2 ^ EB := fun i hi => kv_EB T K i hi (by omega) hK
  have hvb : ∀ i : Nat, (vb (T - i) (K i)).natAbs < 2 ^ EB := fun i => vb_EB _ _ (by omega) (hK i)
  have e5 : EB ≤ 200000 := Nat.le_trans EB5 (by decide)
  refine Kept_core g T K w hB.lt ⟨b1, b2⟩ hbig (hid (fun u hu => ?_)) (hid (fun i hi u hu => ?_)) (hid (fun i hi => ?_)) (hid (fun i hi u a c b d hu A1 A2 => ?_))
  · have hB2 := hB.below hu hB.lt
    refine ⟨by rw [hTT]; exact Bs.tp hB2, Bs.row hB2 K hKK.symm⟩
  · have := exact9 (K i) (T - i) (by omega) (hz i) (hd i) (hK i) u (hT.belows hu)
    rw [show T - (i : Int) - 34 = T - 34 - i by omega] at this
    exact this
  · exact (fo8_len _ EB e5 (hvb i)).1
  · obtain ⟨q1, q2, q3, _⟩ := fo8_len (vb (T - i) (K i)) EB e5 (hvb i)
    have := add_any8 (kv T K i) (vb (T - i) (K i)) EB EB5 (hbig i (by omega)) (hvb i) (dE (fo8 (vb (T - i) (K i)))) q2 q3 (dN (fo8 (vb (T - i) (K i)))) (dX (fo8 (vb (T - i) (K i)))) (fo8_self _ EB e5 (hvb i)) u a b c d (hT.belows hu) A1 A2
    exact this
/-- What Bound tells. -/
def bdW (f : Nat) (L : List Nat) : Nat := if tL (ZL L) = -1 then 0 else (rndS (ib (L.length : Nat) (tL (ZL L) - 34 - f + 1)) 2).1
end Go.Proofs.YtmpakpdikkfofaaGreatDoor

/- Parts: the nearest finite number, what is left, how long it goes on. -/
namespace Go.Proofs.YtmpakpdikkfofaaGreatDoor
open Go.RowKit J
set_option linter.unusedVariables false
set_option maxRecDepth 20000
set_option linter.unusedSimpArgs false

/-- An infinity made the greatest number of its sign. -/
def clW8 (x : Nat) : Nat := if magW x == 9218868437227405312 then x - 1 else x
/-- The nearest finite number. -/
def nrW (V : Int) : Nat := clW8 (rndS (fo8 V) 0).1
/-- What Parts tells of V. -/
def IsParts : Int → List Nat → Prop
  | V, [] => V = 0
  | V, x :: l => V ≠ 0 ∧ x = nrW V ∧ IsParts (V - fvW x) l
theorem IsParts.one {V : Int} {l k : List Nat} (h : IsParts V l) (h2 : IsParts V k) : l = k := by
  induction l generalizing V k with
  | nil =>
    cases k with
    | nil => rfl
    | cons y k => exact absurd h h2.1
  | cons x l ih =>
    cases k with
    | nil => exact absurd h2 h.1
    | cons y k =>
      obtain ⟨_, rfl, h3⟩ := h
      obtain ⟨_, rfl, h4⟩ := h2
      rw [ih h3 h4]

theorem ex_ne (V : Nat) (hV : V ≠ 0) : ∃ R, NE R V 1 := by
  obtain ⟨R, _, h⟩ := nearest_ne false V 0 0 hV
  exact ⟨R, by simpa using h⟩
/-- What is rounded, by its nearest rung. -/
theorem rnd_ne (V : Int) (m : Nat) (hm : m ≤ 200000) (hV : V.natAbs < 2 ^ m) (h0 : V ≠ 0) {R : Nat} (hR : NE R V.natAbs 1) :
    rndS (fo8 V) 0 = (wd64 (decide (V < 0)) (min R 9218868437227405312), 0) := by
  obtain ⟨n, X, e, h1, F, h2, h3, _⟩ := fo8_frm V m hm hV
  have hf := fo8_fo V m hm hV
  rw [h1] at hf ⊢
  have hU := U_pos
  have hT : V * (UU : Int) ≠ 0 := fun q => by
    rcases Int.mul_eq_zero.1 q with q | q
    · exact h0 q
    · omega
  obtain ⟨hX, hn, hw⟩ := round_fo hf hT
  have hs := hR.scale UU hU
  rw [Nat.one_mul] at hs
  have e1 : (V * (UU : Int)).natAbs = V.natAbs * UU := by rw [Int.natAbs_mul, Int.natAbs_natCast]
  rw [rndS_form 0 n X e (by omega) (by omega), hw R (by rw [e1]; exact hs)]
  unfold rS
  rw [if_neg hX, h3 h0]
theorem sg_neg (s : Bool) (v : Nat) : B.sg s v = if s then -(v : Int) else v := by cases s <;> rfl
theorem maxV (a : Nat) (ha : a = 2045) : vK 9218868437227405311 = 9007199254740991 * 2 ^ a := by
  have e := vK_word a 9007199254740991 (.inr (by decide)) (by decide)
  rw [show a * 4503599627370496 + 9007199254740991 = 9218868437227405311 by omega] at e
  exact e
theorem magW_cl (s : Bool) : clW8 (wd64 s 9218868437227405312) = wd64 s 9218868437227405311 := by cases s <;> decide
/-- What the nearest finite number is: either the nearest number, or the greatest one, where the sum lies beyond. -/
theorem nr_any (V : Int) (m : Nat) (hm : m ≤ 200000) (hV : V.natAbs < 2 ^ m) (h0 : V ≠ 0) :
    (Wd (nrW V) ∧ finW (nrW V)) ∧ ((nrW V = (rndS (fo8 V) 0).1 ∧ finW (rndS (fo8 V) 0).1 ∧ IsRn V (fvW (nrW V))) ∨
      ((rndS (fo8 V) 0).1 = wd64 (decide (V < 0)) 9218868437227405312 ∧ nrW V = wd64 (decide (V < 0)) 9218868437227405311 ∧ fvW (nrW V) = B.sg (decide (V < 0)) (vK 9218868437227405311) ∧ vK 9218868437227405311 ≤ V.natAbs)) := by
  obtain ⟨R, hR⟩ := ex_ne V.natAbs (by omega)
  have hr := rnd_ne V m hm hV h0 hR
  unfold nrW
  rw [hr]
  simp only
  by_cases hi : R < 9218868437227405312
  · rw [Nat.min_eq_left (by omega)]
    obtain ⟨g1, g2, g3⟩ := magW_wd (decide (V < 0)) R (by omega)
    have hc : clW8 (wd64 (decide (V < 0)) R) = wd64 (decide (V < 0)) R := by
      unfold clW8
      rw [g1, if_neg (by simp; omega)]
    rw [hc]
    obtain ⟨f1, f2⟩ := fv_wd (decide (V < 0)) R hi
    refine ⟨⟨g3, f1⟩, .inl ⟨rfl, f1, ?_⟩⟩
    rw [f2]
    exact ne_rn hR (fun _ => rfl)
  · rw [Nat.min_eq_right (by omega), magW_cl]
    obtain ⟨g1, g2, g3⟩ := magW_wd (decide (V < 0)) 9218868437227405311 (by omega)
    obtain ⟨f1, f2⟩ := fv_wd (decide (V < 0)) 9218868437227405311 (by omega)
    refine ⟨⟨g3, f1⟩, .inr ⟨rfl, rfl, f2, ?_⟩⟩
    have hd : (vK (R - 1) + vK R) * 1 ≤ 2 * V.natAbs := hR.dn (by omega)
    have h1 : vK 9218868437227405311 ≤ vK (R - 1) := vmono (by omega)
    have h2 : vK 9218868437227405311 ≤ vK R := vmono (by omega)
    rw [Nat.mul_one] at hd
    omega
def EL : Nat := 2097
def ET : Nat := 2117
/-- How long it goes on at most. -/
def stp (V : Int) : Nat := V.natAbs / 2 ^ EL + bl V.natAbs
theorem stp_less (V : Int) (m : Nat) (hm : m ≤ 200000) (hV : V.natAbs < 2 ^ m) (h0 : V ≠ 0) : stp (V - fvW (nrW V)) < stp V ∧ (V - fvW (nrW V)).natAbs < V.natAbs := by
  obtain ⟨_, h | ⟨_, _, h3, h4⟩⟩ := nr_any V m hm hV h0
  · have hr := h.2.2.rel
    generalize fvW (nrW V) = s at *
    have e : (s - V).natAbs = (V - s).natAbs := by omega
    rw [e] at hr
    have hlt : (V - s).natAbs < V.natAbs := by omega
    refine ⟨?_, hlt⟩
    unfold stp
    have hd : (V - s).natAbs / 2 ^ EL ≤ V.natAbs / 2 ^ EL := Nat.div_le_div_right (by omega)
    have hb : bl (V - s).natAbs < bl V.natAbs := by
      by_cases hz : (V - s).natAbs = 0
      · rw [hz]
        have : 0 < bl V.natAbs := (bl_gt _ 0).2 (by simp; omega)
        have : bl 0 = 0 := by decide
        omega
      · have h1 := bl_mul_pow 1 (V - s).natAbs hz
        have h2 := bl_mono (X := 2 ^ 1 * (V - s).natAbs) (Y := V.natAbs) (by omega)
        omega
    omega
  · obtain ⟨a, ha⟩ : ∃ a, a = 2045 := ⟨_, rfl⟩
    have hp : (2 : Nat) ^ EL ≤ vK 9218868437227405311 := by
      rw [maxV a ha, show EL = 52 + a by unfold EL; omega, Nat.pow_add]
      exact Nat.mul_le_mul_right _ (by decide)
    have h1 : 0 < (2 : Nat) ^ EL := Nat.two_pow_pos _
    have hs : (V - fvW (nrW V)).natAbs = V.natAbs - vK 9218868437227405311 := by
      rw [h3, sg_neg]
      by_cases hn : V < 0
      · rw [decide_eq_true hn, if_pos rfl]; omega
      · rw [decide_eq_false hn, if_neg (by decide)]; omega
    generalize vK 9218868437227405311 = M at *
    refine ⟨?_, by rw [hs]; omega⟩
    unfold stp
    rw [hs]
    have h2 := bl_mono (X := V.natAbs - M) (Y := V.natAbs) (by omega)
    have h3 : (V.natAbs - M) / 2 ^ EL < V.natAbs / 2 ^ EL := by
      generalize (2 : Nat) ^ EL = q at *
      have : (V.natAbs - M) / q ≤ (V.natAbs - q) / q := Nat.div_le_div_right (by omega)
      have e : (V.natAbs - q) / q + 1 = V.natAbs / q := by
        rw [← Nat.add_div_right _ h1, Nat.sub_add_cancel (by omega)]
      omega
    omega
end Go.Proofs.YtmpakpdikkfofaaGreatDoor

/- The program's Parts. -/
namespace Go.Proofs.YtmpakpdikkfofaaGreatDoor
open Go.RowKit J
set_option linter.unusedVariables false
set_option maxRecDepth 20000
set_option linter.unusedSimpArgs false

theorem Fr.but8 {lo : Nat} {w w' : World} {v u : Value} {L : List Nat} {g : Nat} {n : Bool} {e : Int} (h : Fr lo w v L) (hD : Dk w g n u e) (hb : But g w w') : Fr lo w' v L := by
  refine ⟨h.1, ?_⟩
  rcases h.2 with hn | ⟨g', cap, cur, rfl, hlo, hgc, rest⟩
  · exact .inl hn
  · refine .inr ⟨g', cap, cur, rfl, hlo, (hb.block g' (Array.getElem?_eq_some_iff.1 hgc).1 ?_).trans hgc, rest⟩
    rintro rfl
    unfold Dk at hD
    rw [hD] at hgc
    cases hgc
section
attribute [local go_sem] B.f64bits B.f64frombits
end
/-- What stands while Parts walks. -/
structure Pi8 (w : World) (gl : Nat) (V : Int) (N gk : Nat) (U : Int) (l : List Nat) (pv : Value) (wr : World) : Prop where
  left : ∃ v, Dk wr gl (dN (fo8 U)) v (dE (fo8 U)) ∧ Nt w.heap.size wr v (dX (fo8 U))
  row : Fr w.heap.size wr pv l
  bel : Below w.heap.size w wr
  val : ∀ r, IsParts U r → IsParts V (l ++ r)
  fin : FinL l
  len : l.length + gk ≤ N
  stp : stp U ≤ gk
  top : U.natAbs < 2 ^ ET
theorem ET5 : ET ≤ 100000 := by decide
theorem Pi8.next {w : World} {gl : Nat} {V : Int} {N gk : Nat} {U : Int} {l : List Nat} {pv pv' : Value} {wr w' : World} (h : Pi8 w gl V N gk U l pv wr) (h0 : U ≠ 0)
    (h1 : ∃ v, Dk w' gl (dN (fo8 (U - fvW (nrW U)))) v (dE (fo8 (U - fvW (nrW U)))) ∧ Nt w.heap.size w' v (dX (fo8 (U - fvW (nrW U))))) (h2 : Fr w.heap.size w' pv' (l ++ [nrW U])) (h3 : Below w.heap.size w w') :
    0 < gk ∧ Pi8 w gl V N (gk - 1) (U - fvW (nrW U)) (l ++ [nrW U]) pv' w' := by
  obtain ⟨s1, s2⟩ := stp_less U ET (Nat.le_trans ET5 (by decide)) h.top h0
  have hs := h.stp
  have hl := h.len
  have hg : 0 < gk := by omega
  refine ⟨hg, h1, h2, h3, fun r hr => ?_, h.fin.append (fun x hx => ?_), by rw [List.length_append, List.length_singleton]; omega, by omega, Nat.lt_trans s2 h.top⟩
  · rw [List.append_assoc]
    exact h.val _ ⟨h0, rfl, hr⟩
  · simp at hx
    subst hx
    exact (nr_any U ET (Nat.le_trans ET5 (by decide)) h.top h0).1

end Go.Proofs.YtmpakpdikkfofaaGreatDoor

/- Lists that came in. -/
namespace Go.Proofs.YtmpakpdikkfofaaGreatDoor
open Go.ChangeShapes Go.WideShapes Go.ChangeAt Go.RowKit
set_option linter.unusedVariables false
set_option maxRecDepth 20000
set_option linter.unusedSimpArgs false

end Go.Proofs.YtmpakpdikkfofaaGreatDoor

/- Bins: told, filled. -/
namespace Go.Proofs.YtmpakpdikkfofaaGreatDoor
open Go Go.RowKit
set_option linter.unusedVariables false
set_option maxRecDepth 20000
set_option linter.unusedSimpArgs false

/-- What is let in of a list. -/
def fz (x : Nat) : List Nat := if magW x < 9218868437227405312 then [x] else []
def fx (xs : List Nat) (i : Nat) : List Nat := fz (xs.getD i 0)
end Go.Proofs.YtmpakpdikkfofaaGreatDoor

/- Bins: Round, Fold; awake. -/
namespace Go.Proofs.YtmpakpdikkfofaaGreatDoor
open Go Go.RowKit
set_option linter.unusedVariables false
set_option maxRecDepth 20000
set_option linter.unusedSimpArgs false

set_option maxHeartbeats 400000 in
theorem Round9 (g f : Nat) (L : List Nat) (mode : Int) (w : World) (hB : Bz w g f L) (hF : Fin9 L) (hl : L.length ≤ 1099511627776) (hT : Tab w) :
    Calls Tryz.prog 30 #[.pointer (some ⟨g, 0, none⟩), .int .i64 mode] w fun r w' => r = .returned (.tuple #[.float .f64 (rndS (fo8 (kvz f L)) mode).1, .int .i64 (rndS (fo8 (kvz f L)) mode).2]) ∧ Below w.heap.size w w' := by
  have e5 : EB ≤ 200000 := Nat.le_trans EB5 (by decide)
  have HK := hid (Kept9 g f L w hB hF hl hT)
  obtain ⟨l1, l2, l3, _⟩ := fo8_len (kvz f L) EB e5 (kvz_EB f L hF hl)
  have hself := fo8_self (kvz f L) EB e5 (kvz_EB f L hF hl)
  have HR : Hid (∀ u a c, Below w.heap.size w u → Arg u a (ws (dX (fo8 (kvz f L)))).length c (ws (dX (fo8 (kvz f L)))) → Calls Tryz.prog 58 #[.agg #[.bool (dN (fo8 (kvz f L))), .slice a (ws (dX (fo8 (kvz f L)))).length c, .int .i64 (dE (fo8 (kvz f L)))], .int .i64 mode] u fun r w' => r = .returned (.tuple #[.float .f64 (rndS (fo8 (kvz f L)) mode).1, .int .i64 (rndS (fo8 (kvz f L)) mode).2]) ∧ Below u.heap.size u w') := hid (fun u a c hu A => by
    have := Round_any A (hT.belows hu) (dN (fo8 (kvz f L))) (dE (fo8 (kvz f L))) mode l2 l3
    rw [val_ws, hself] at this
    exact this)
  obtain ⟨x, hx⟩ : ∃ x, x = (rndS (fo8 (kvz f L)) mode).1 := ⟨_, rfl⟩
  obtain ⟨er, her⟩ : ∃ x, x = (rndS (fo8 (kvz f L)) mode).2 := ⟨_, rfl⟩
  obtain ⟨n1, hn1⟩ : ∃ b, b = dN (fo8 (kvz f L)) := ⟨_, rfl⟩
  obtain ⟨e1, he1⟩ : ∃ b, b = dE (fo8 (kvz f L)) := ⟨_, rfl⟩
  obtain ⟨X1, hX1⟩ : ∃ b, b = dX (fo8 (kvz f L)) := ⟨_, rfl⟩
  rw [← hx, ← her] at HR ⊢
  rw [← hn1, ← he1, ← hX1] at HR HK
  rw [← hX1] at l1
  clear hx her hn1 he1 hX1 hself hB hF hT l2 l3
  go_enter Tryz.func30, Tryz.ntmps30
  go_wp2_with fail
  with_reducible refine HK.out.mono ?_
  rintro r u ⟨⟨v1, rfl, hN1⟩, hb1⟩
  obtain ⟨a1, c1, rfl, A1⟩ := hN1.arg (Nat.le_trans l1 (by decide))
  have HA := Aside.intro (And.intro A1 hb1)
  clear A1 hN1 hb1
  go_wp2_with fail
  with_reducible refine (HR.out u a1 c1 HA.out.2 HA.out.1).mono ?_
  rintro r u2 ⟨rfl, hb2⟩
  have HB := Aside.intro (HA.out.2.trans (hb2.mono HA.out.2.size))
  clear hb2
  go_wp2
  go_ret2
  exact ⟨rfl, HB.out⟩
end Go.Proofs.YtmpakpdikkfofaaGreatDoor

/- The program's Alike. -/
namespace Go.Proofs.YtmpakpdikkfofaaGreatDoor
open Go.RowKit
set_option linter.unusedVariables false
set_option maxRecDepth 20000
set_option linter.unusedSimpArgs false

theorem fin9_take {xs : List Nat} {k : Nat} (hW : W64 xs) (h : Fin9 (xs.take k)) (hk : k < xs.length) (hf : finW (xs.getD k 0)) : Fin9 (xs.take (k + 1)) ∧ xs.take (k + 1) = xs.take k ++ [xs.getD k 0] := by
  have e : xs.take (k + 1) = xs.take k ++ [xs.getD k 0] := by
    rw [List.take_succ_eq_append_getElem hk, List.getD_eq_getElem?_getD, List.getElem?_eq_getElem hk]; rfl
  refine ⟨fun x hx => ?_, e⟩
  rw [e] at hx
  rcases List.mem_append.1 hx with h1 | h1
  · exact h x h1
  · have : x = xs.getD k 0 := by simpa using h1
    rw [this]; exact ⟨hW.get k, hf⟩
/-- What Alike answers. -/
noncomputable def alA (f : Nat) (xs : List Nat) : Nat × Int := by
  classical
  exact if Fin9 xs then rndS (fo8 (kvz f xs)) 0 else (0, 30)
set_option maxHeartbeats 4000000 in
theorem Alike10 (xs : List Nat) (a : Option Addr) (n c f : Nat) (w : World) (hn : n = xs.length) (hF : Fs w.heap.size w a xs) (hW : W64 xs) (hT : Tab w) (h1 : 1 ≤ f) (h8 : f ≤ 8) (hl : n ≤ 65536) :
    Calls Tryz.prog 10 #[.slice a n c, .int .i64 (f : Nat)] w fun r w' => r = .returned (.tuple #[.float .f64 (alA f xs).1, .int .i64 (alA f xs).2]) ∧ Below w.heap.size w w' := by
  obtain ⟨X, hX⟩ : ∃ X, X = alA f xs := ⟨_, rfl⟩
  rw [← hX]
  obtain ⟨X1, X2⟩ := X
  simp only
  have HX : Aside ((Fin9 xs → (X1, X2) = rndS (fo8 (kvz f xs)) 0) ∧ (¬ Fin9 xs → (X1, X2) = (0, 30))) := by
    refine ⟨fun h => ?_, fun h => ?_⟩
    · rw [hX]; unfold alA; rw [if_pos h]
    · rw [hX]; unfold alA; rw [if_neg h]
  have HN := hid (New9 f w h1 h8)
  have HA := Aside.intro (And.intro hn (And.intro hF (And.intro hW (And.intro hT (And.intro h8 hl)))))
  have b2 : decide ((65536 : Int) < (n : Int)) = false := by simp; omega
  have hnb : n < 4611686018427387904 := by omega
  clear hn hF hW hT h1 h8 hl hX
  go_enter Tryz.func10, Tryz.ntmps10
  go_wp2_with fail
  refine HN.out.mono ?_
  rintro r w1 ⟨rfl, hB, hb⟩
  obtain ⟨g, hg⟩ : ∃ g, g = w.heap.size := ⟨_, rfl⟩
  have B1 : Aside (Bz w1 g f [] ∧ Below w.heap.size w w1 ∧ w.heap.size ≤ g) := by rw [hg]; exact ⟨hB, hb, Nat.le_refl _⟩
  rw [← hg]
  clear hB hb HN hg
  go_wp2
  go_loopg [21] n (fun gk i wr => ∃ k : Nat, gk + k = n ∧ i = .int .i64 (k : Nat) ∧ Aside (Bz wr g f (xs.take k) ∧ Fin9 (xs.take k) ∧ Below w.heap.size w wr))
  case atStart => exact ⟨0, by omega, by simp, B1.out.1, fun x hx => by simp at hx, B1.out.2.1⟩
  case round =>
    obtain ⟨k, hgk, rfl, HR⟩ := hrel
    by_cases hk : k < n
    · obtain ⟨b, off, rfl, hc⟩ := HA.out.2.1.at HR.out.2.2 k (by rw [← HA.out.1]; exact hk)
      obtain ⟨x, hx⟩ : ∃ x, x = xs.getD k 0 := ⟨_, rfl⟩
      rw [← hx] at hc
      have hx64 : x < 18446744073709551616 := by rw [hx]; exact HA.out.2.2.1.get k
      have hlen : (xs.take k).length < 1099511627776 := by rw [List.length_take]; have := HA.out.2.2.2.2.2; omega
      by_cases hf : finW x
      · have HE := Aside.intro (fin9_take HA.out.2.2.1 HR.out.2.1 (by rw [← HA.out.1]; exact hk) (by rw [← hx]; exact hf))
        have C := hid (Add9 x ⟨hx64, hf⟩ g f (xs.take k) wr HR.out.1 HR.out.2.1 hlen HA.out.2.2.2.2.1)
        rw [hx, ← HE.out.2, ← hx] at C
        clear hx hx64 hlen hf
        go_wp2_with fail
        refine C.out.mono ?_
        rintro r w2 ⟨rfl, hB2, hbut⟩
        have K2 := Aside.intro (And.intro hB2 (But.below HR.out.2.2 hbut HR.out.2.2.size B1.out.2.2))
        clear hB2 hbut C
        go_wp2
        go_roundg (gk - 1)
        case measure => omega
        case rel => exact ⟨k + 1, by omega, by first | rfl | simp, K2.out.1, HE.out.1, K2.out.2⟩
      · have hno : ¬ Fin9 xs := fun h => hf (by
          rw [hx]
          have hk2 : k < xs.length := by rw [← HA.out.1]; exact hk
          rw [List.getD_eq_getElem?_getD, List.getElem?_eq_getElem hk2]
          exact (h _ (List.getElem_mem hk2)).2)
        have HY := Aside.intro (HX.out.2 hno)
        have C := hid (Add9_odd x ⟨hx64, hf⟩ g f (xs.take k) wr HR.out.1 hlen)
        clear hx hx64 hlen hf hno
        go_wp2_with fail
        refine C.out.mono ?_
        rintro r w2 ⟨rfl, hb2⟩
        have K2 := Aside.intro (HR.out.2.2.trans (hb2.mono HR.out.2.2.size))
        clear hb2 C
        go_wp2
        go_ret2
        have e := HY.out
        cases e
        exact ⟨rfl, K2.out⟩
    · have hd : n ≤ k := by omega
      have etk : xs.take k = xs := by rw [List.take_of_length_le]; rw [← HA.out.1]; omega
      have hB := HR.out.1
      have hFi := HR.out.2.1
      rw [etk] at hB hFi
      have C := hid (Round9 g f xs 0 wr hB hFi (by rw [← HA.out.1]; have := HA.out.2.2.2.2.2; omega) (HA.out.2.2.2.1.belows HR.out.2.2))
      rw [← HX.out.1 hFi] at C
      simp only at C
      clear etk hB hFi
      go_wp2_with fail
      refine C.out.mono ?_
      rintro r w2 ⟨rfl, hb2⟩
      have K2 := Aside.intro (HR.out.2.2.trans (hb2.mono HR.out.2.2.size))
      clear hb2 C
      go_wp2
      go_ret2
      exact ⟨rfl, K2.out⟩
set_option maxHeartbeats 1000000 in
theorem Alike10_long (a : Option Addr) (n c f : Nat) (w : World) (h1 : 1 ≤ f) (h8 : f ≤ 8) (hl : 65536 < n) :
    Calls Tryz.prog 10 #[.slice a n c, .int .i64 (f : Nat)] w fun r w' => r = .returned (.tuple #[.float .f64 0, .int .i64 2]) ∧ Below w.heap.size w w' := by
  have HN := hid (New9 f w h1 h8)
  have b2 : decide ((65536 : Int) < (n : Int)) = true := by simp; omega
  clear h1 h8 hl
  go_enter Tryz.func10, Tryz.ntmps10
  go_wp2_with fail
  refine HN.out.mono ?_
  rintro r w1 ⟨rfl, _, hb⟩
  have B1 := Aside.intro hb
  clear hb HN
  go_wp2
  go_ret2
  exact ⟨rfl, B1.out⟩
end Go.Proofs.YtmpakpdikkfofaaGreatDoor

/- SumsLong: errors that don't come; a number less itself. -/
namespace Go.Proofs.YtmpakpdikkfofaaGreatDoor
open Go.RowKit J
set_option linter.unusedVariables false
set_option maxRecDepth 20000
set_option linter.unusedSimpArgs false

theorem exV_some {V : Int} (h0 : -(HB : Int) < V) (h1 : V < (HB : Int)) : ∃ n X e, exV V = some (n, X, e) ∧ mkS n X e = some (n, X, e) := by
  by_cases hv : V = 0
  · subst hv
    exact ⟨false, 0, 0, by unfold exV; exact mkS_zero _ _, mkS_zero _ _⟩
  · have hb : bl V.natAbs ≤ 4238 := by
      refine Nat.le_of_not_lt (fun q => ?_)
      obtain ⟨k, hk⟩ : ∃ k, k = 4238 := ⟨_, rfl⟩
      rw [← hk] at q
      have h2 := (bl_gt V.natAbs k).1 q
      have h3 := HB_two k hk
      omega
    have hlo : lo V.natAbs ≤ bl V.natAbs := by
      obtain ⟨m, o1, o2, o3⟩ := odd_part V.natAbs (by omega)
      omega
    have hs : mkS (decide (V < 0)) V.natAbs (-2148) = some (decide (V < 0), V.natAbs / 2 ^ lo V.natAbs, -2148 + (lo V.natAbs : Int)) := by
      unfold mkS
      rw [if_neg (by omega), if_neg (by omega)]
    exact ⟨_, _, _, hs, mkS_idem (mkS_frm hs)⟩
theorem rd7_fine {V : Int} (s : Sp) (h0 : -(HB : Int) < V) (h1 : V < (HB : Int)) : (rd7 V s 0 1 1).2 = 0 := by
  obtain ⟨n, X, e, h2, h3⟩ := exV_some h0 h1
  unfold rd7
  split
  · rfl
  · rw [h2]
    show (rndS (mkS n X e) 0).2 = 0
    rw [h3, rndS_form 0 n X e (by decide) (by decide)]
theorem alA_fine (f : Nat) (xs : List Nat) (hl : xs.length ≤ 65536) (h : Fin9 xs) : (alA f xs).2 = 0 := by
  obtain ⟨n, X, e, h1, _⟩ := fo8_frm (kvz f xs) EB (Nat.le_trans EB5 (by decide)) (kvz_EB f xs h (by omega))
  unfold alA
  rw [if_pos h, h1, rndS_form 0 n X e (by decide) (by decide)]
theorem alA_odd (f : Nat) (xs : List Nat) (h : ¬ Fin9 xs) : (alA f xs).2 = 30 := by unfold alA; rw [if_neg h]
theorem vS_fine (xs : List Nat) (hW : W64 xs) (hl : xs.length ≤ 65536) : -(HB : Int) < vS xs ∧ vS xs < (HB : Int) := by
  obtain ⟨h1, h2⟩ := vS_bound xs hW xs.length (Nat.le_refl _)
  rw [List.take_length] at h1 h2
  have h3 : xs.length * QB ≤ 65536 * QB := Nat.mul_le_mul_right _ hl
  have h4 := QB_HB
  have h5 := QB_pos
  omega
/-- A number less itself. -/
theorem sub_self10 (x z : Nat) (hx : x < 18446744073709551616) (h : Gives .sub x x z) : (FloatKind.f64.format.order z 0 != some .eq) = !decide (finW x) := by
  obtain ⟨hz, hlt⟩ := gives_nrm (.inr (.inl rfl)) h
  by_cases hf : finW x
  · rw [decide_eq_true hf]
    have e : arW .sub x x = 0 := by
      rw [sub_turn x x hx]
      have hm : magW x < 9223372036854775808 := Nat.mod_lt _ (by decide)
      have ht : turnW x = wd64 (!negW x) (magW x) := by rw [← turn_wd _ _ hm, ← wd_of x hx]
      obtain ⟨R, hR, hA⟩ := add_wd (negW x) (!negW x) (magW x) (magW x) hf hf
      have hT : B.sg (negW x) (vK (magW x)) + B.sg (!negW x) (vK (magW x)) = 0 := by unfold B.sg; cases negW x <;> simp <;> omega
      rw [hT] at hR hA
      have hR0 : R = 0 := by
        have : NE 0 (0 : Int).natAbs 1 := NEf.own (by decide) (by rw [B.val_zero]; rfl)
        exact hR.one this (by decide)
      rw [← wd_of x hx, ← ht, hR0] at hA
      show (Ieee.double.add x (turnW x)).getD oddW = 0
      rw [hA]
      cases negW x <;> rfl
    rw [e] at hz
    have hz0 : z = 0 := by
      unfold nrm at hz
      split at hz
      · exact absurd hz (by decide)
      · exact hz
    rw [hz0]
    decide
  · rw [decide_eq_false hf]
    have hn : nanW z = true := by
      have e : arW .sub x x = oddW := by
        rcases kinds x hx with ⟨a1, a2, a3, a4⟩ | ⟨a1, a2, a3, a4⟩ | ⟨a1, a2, a4⟩
        · exact sub_nan_l hx a1
        · rw [arW_sub, read_infW x hx a4]
          cases negW x <;> rfl
        · exact absurd a4 hf
      rw [e] at hz
      by_cases hq : nanW z = true
      · exact hq
      · unfold nrm at hz
        rw [if_neg hq] at hz
        rw [hz] at hq
        exact absurd nan_odd hq
    obtain ⟨s, e, f, he, hf2, h1, h2⟩ := bwz z hlt
    have e2 := B.eq_f64 s false e f 0 0 he hf2 (by decide) (by decide)
    rw [← h1, show B.bw false 0 0 = 0 from rfl, h2, hn] at e2
    rw [bne, e2]
    rfl
end Go.Proofs.YtmpakpdikkfofaaGreatDoor

/- SumsLong: the law's walk. -/
namespace Go.Proofs.YtmpakpdikkfofaaGreatDoor
open Go.RowKit J
set_option linter.unusedVariables false
set_option maxRecDepth 20000
set_option linter.unusedSimpArgs false
attribute [local go_sem] st_float

theorem rep_set (x N k : Nat) (hk : k < N) : (List.replicate k x ++ List.replicate (N - k) 0).set k x = List.replicate (k + 1) x ++ List.replicate (N - (k + 1)) 0 := by
  rw [List.set_append_right _ _ (by simp), List.length_replicate, Nat.sub_self, show N - k = (N - (k + 1)) + 1 by omega, List.replicate_succ, List.set_cons_zero, List.replicate_succ', List.append_assoc]
  rfl
set_option maxHeartbeats 8000000 in
theorem long_core (N x : Nat) (w : World) (hT : Tab w) (hx : x < 18446744073709551616) (h0 : 65535 ≤ N) (h1 : N ≤ 65538) :
    Calls Tryz.prog 3 #[.int .i64 (N : Nat), .float .f64 x] w fun r w' => r = .returned (.bool true) ∧ Below w.heap.size w w' := by
  have HL := hid (live10 w hT)
  have HT := Aside.intro hT
  have hmk := fun u : World => make_floats (N : Int) N rfl (by omega) u
  have d0 : decide ((N : Int) < 65535) = false := by simp; omega
  have d1 : decide ((65538 : Int) < (N : Int)) = false := by simp; omega
  have hW : W64 (List.replicate N x) := fun y hy => by rw [List.eq_of_mem_replicate hy]; exact hx
  have hNb : N < 4611686018427387904 := by omega
  have HS : Aside (65535 ≤ N ∧ N ≤ 65538 ∧ x < 18446744073709551616 ∧ W64 (List.replicate N x)) := ⟨h0, h1, hx, hW⟩
  clear hT h0 h1 hx hW
  go_enter Tryz.func3, Tryz.ntmps3
  go_wp2_with fail
  refine HL.out.mono ?_
  rintro r u0 ⟨rfl, hb⟩
  have B0 := Aside.intro hb
  have HO := Aside.intro (OwnF.made u0 N)
  clear hb HL
  go_wp2
  go_loopg [7] N (fun gk i wr => ∃ k : Nat, gk + k = N ∧ i = .int .i64 (k : Nat) ∧ Aside (OwnF wr u0.heap.size (List.replicate k x ++ List.replicate (N - k) 0) ∧ Below w.heap.size w wr))
  case atStart => exact ⟨0, by omega, by simp, by simpa using HO.out, B0.out.trans ((below_alloc _ _).mono B0.out.size)⟩
  case round =>
    obtain ⟨k, hgk, rfl, HA⟩ := hrel
    clear hmk
    by_cases hk : k < N
    · have hcl := HA.out.1.cell k (by simp; omega)
      have hfz := HA.out.1.frozen k
      go_wp2
      go_roundg (gk - 1)
      case measure => omega
      case rel =>
        refine ⟨k + 1, by omega, by first | rfl | simp, ?_, But.below HA.out.2 ((But.refl _ _).set k _) HA.out.2.size B0.out.size⟩
        rw [← rep_set x N k hk]
        exact HA.out.1.set k x
    · obtain rfl : N = k := by omega
      have hge : N ≤ N := Nat.le_refl _
      have hOw : OwnF wr u0.heap.size (List.replicate N x) := by have := HA.out.1; simpa using this
      have HF : Aside (∀ u : World, Below wr.heap.size wr u → Fs u.heap.size u (some ⟨u0.heap.size, 0, none⟩) (List.replicate N x)) := fun u hb => by
        have h := (hOw.below hb hOw.lt).fs (Nat.lt_of_lt_of_le hOw.lt hb.size) N
        rw [List.take_of_length_le (by simp)] at h
        exact h
      have HW := Aside.intro HA.out.2
      clear hOw hgk hk hge
      obtain ⟨h0, h1, hx, hW64⟩ := HS.out
      have hlen : N = (List.replicate N x).length := by simp
      have key : ∃ (z1 z2 z3 : Nat) (E G : Int), Hid (∀ u : World, Below wr.heap.size wr u → Calls Tryz.prog 8 #[.slice (some ⟨u0.heap.size, 0, none⟩) N N, .int .i64 0, .agg #[.int .i64 1, .int .i64 1]] u fun r w' => r = .returned (.tuple #[.float .f64 z1, .int .i64 E]) ∧ Below u.heap.size u w') ∧
          Hid (∀ u : World, Below wr.heap.size wr u → Calls Tryz.prog 9 #[.slice (some ⟨u0.heap.size, 0, none⟩) N N, .int .i64 65536] u fun r w' => r = .returned (.tuple #[.float .f64 z2, .int .i64 E]) ∧ Below u.heap.size u w') ∧
          Hid (∀ u : World, Below wr.heap.size wr u → Calls Tryz.prog 10 #[.slice (some ⟨u0.heap.size, 0, none⟩) N N, .int .i64 8] u fun r w' => r = .returned (.tuple #[.float .f64 z3, .int .i64 G]) ∧ Below u.heap.size u w') ∧
          ((E = 0 ∧ N ≤ 65536 ∧ G = (if finW x then 0 else 30)) ∨ (E = 2 ∧ 65536 < N ∧ G = 2)) := by
        by_cases hl : N ≤ 65536
        · have hvs := vS_fine (List.replicate N x) hW64 (by simpa using hl)
          refine ⟨(rd7 (vS (List.replicate N x)) (sS (List.replicate N x)) 0 1 1).1, _, _, 0, (alA 8 (List.replicate N x)).2, ?_, fun u hb => Blocked10 (List.replicate N x) _ N N 65536 u hlen (HF.out u hb) hW64 (Nat.le_refl _) hl (by decide) (by decide), fun u hb => Alike10 (List.replicate N x) _ N N 8 u hlen (HF.out u hb) hW64 ((HT.out.belows HW.out).belows hb) (by decide) (by decide) hl, .inl ⟨rfl, hl, ?_⟩⟩
          · intro u hb
            have := Exact10 (List.replicate N x) (some ⟨u0.heap.size, 0, none⟩) N N 0 1 1 u hlen (HF.out u hb) hW64 ((HT.out.belows HW.out).belows hb) (by decide) (by decide) (by decide) hl (by decide) (by decide)
            rw [rd7_fine _ hvs.1 hvs.2] at this
            exact this
          · by_cases hf : finW x
            · rw [if_pos hf]
              exact alA_fine 8 _ (by simpa using hl) (fun y hy => by rw [List.eq_of_mem_replicate hy]; exact ⟨hx, hf⟩)
            · rw [if_neg hf]
              exact alA_odd 8 _ (fun h => hf (h x (List.mem_replicate.2 ⟨by omega, rfl⟩)).2)
        · exact ⟨0, 0, 0, 2, 2, fun u hb => Exact10_long _ N N 0 1 1 u (by decide) (by decide) (by decide) (by omega), fun u hb => Blocked10_long _ N N 65536 u (by decide) (by decide) (by omega), fun u hb => Alike10_long _ N N 8 u (by decide) (by decide) (by omega), .inr ⟨rfl, by omega, rfl⟩⟩
      obtain ⟨z1, z2, z3, E, G, H1, H2, H3, hE⟩ := key
      clear hlen hW64 HA
      rcases hE with ⟨rfl, hl, hG⟩ | ⟨rfl, hl, rfl⟩
      · have dW : decide ((65536 : Int) < (N : Int)) = false := by simp; omega
        have dL : decide ((N : Int) ≤ 65536) = true := by simp; omega
        clear hl h0 h1 hx
        by_cases hf : finW x
        · have so : Aside (∀ z, Gives .sub x x z → (FloatKind.f64.format.order z 0 != some .eq) = false) := fun z hz => by
            rw [sub_self10 x z HS.out.2.2.1 hz, decide_eq_true hf]; rfl
          rw [if_pos hf] at hG
          subst hG
          clear hf
          go_wp2_with fail
          refine (H1.out _ (below_alloc _ _)).mono ?_
          rintro r y1 ⟨rfl, hb⟩
          have BB : Aside (Below wr.heap.size wr y1) := (below_alloc wr _).trans (hb.mono (by simp))
          clear hb H1
          go_wp2_with fail
          with_reducible refine (H2.out _ BB.out).mono ?_
          rintro r y2 ⟨rfl, hb⟩
          have BB := Aside.intro (BB.out.trans (hb.mono BB.out.size))
          clear hb H2
          go_wp2_with fail
          with_reducible refine (H3.out _ BB.out).mono ?_
          rintro r y3 ⟨rfl, hb⟩
          have BB := Aside.intro (BB.out.trans (hb.mono BB.out.size))
          clear hb H3
          cases hfb : floatBits .sub .f64 x x with
          | some z =>
            have d := run_float_arith (P := Tryz.prog) y3 .sub 22 .f64 x x z hfb
            have o := so.out z (.inl hfb)
            clear hfb
            go_wp2_with (simp only [d])
            go_ret
            exact ⟨rfl, HW.out.trans (BB.out.mono HW.out.size)⟩
          | none =>
            obtain ⟨z, hz, d⟩ := run_float_none (P := Tryz.prog) y3 .sub 22 x x (.inr (.inl rfl)) hfb
            have o := so.out z (.inr ⟨hfb, hz⟩)
            clear hfb hz
            go_wp2_with (simp only [d])
            go_ret
            exact ⟨rfl, HW.out.trans ((BB.out.mono HW.out.size).drew)⟩
        · have so : Aside (∀ z, Gives .sub x x z → (FloatKind.f64.format.order z 0 != some .eq) = true) := fun z hz => by
            rw [sub_self10 x z HS.out.2.2.1 hz, decide_eq_false hf]; rfl
          rw [if_neg hf] at hG
          subst hG
          clear hf
          go_wp2_with fail
          refine (H1.out _ (below_alloc _ _)).mono ?_
          rintro r y1 ⟨rfl, hb⟩
          have BB : Aside (Below wr.heap.size wr y1) := (below_alloc wr _).trans (hb.mono (by simp))
          clear hb H1
          go_wp2_with fail
          with_reducible refine (H2.out _ BB.out).mono ?_
          rintro r y2 ⟨rfl, hb⟩
          have BB := Aside.intro (BB.out.trans (hb.mono BB.out.size))
          clear hb H2
          go_wp2_with fail
          with_reducible refine (H3.out _ BB.out).mono ?_
          rintro r y3 ⟨rfl, hb⟩
          have BB := Aside.intro (BB.out.trans (hb.mono BB.out.size))
          clear hb H3
          cases hfb : floatBits .sub .f64 x x with
          | some z =>
            have d := run_float_arith (P := Tryz.prog) y3 .sub 22 .f64 x x z hfb
            have o := so.out z (.inl hfb)
            clear hfb
            go_wp2_with (simp only [d])
            go_ret
            exact ⟨rfl, HW.out.trans (BB.out.mono HW.out.size)⟩
          | none =>
            obtain ⟨z, hz, d⟩ := run_float_none (P := Tryz.prog) y3 .sub 22 x x (.inr (.inl rfl)) hfb
            have o := so.out z (.inr ⟨hfb, hz⟩)
            clear hfb hz
            go_wp2_with (simp only [d])
            go_ret
            exact ⟨rfl, HW.out.trans ((BB.out.mono HW.out.size).drew)⟩
      · have dW : decide ((65536 : Int) < (N : Int)) = true := by simp; omega
        have dL : decide ((N : Int) ≤ 65536) = false := by simp; omega
        clear hl h0 h1 hx
        by_cases hf : finW x
        · have so : Aside (∀ z, Gives .sub x x z → (FloatKind.f64.format.order z 0 != some .eq) = false) := fun z hz => by
            rw [sub_self10 x z HS.out.2.2.1 hz, decide_eq_true hf]; rfl
          clear hf
          go_wp2_with fail
          refine (H1.out _ (below_alloc _ _)).mono ?_
          rintro r y1 ⟨rfl, hb⟩
          have BB : Aside (Below wr.heap.size wr y1) := (below_alloc wr _).trans (hb.mono (by simp))
          clear hb H1
          go_wp2_with fail
          with_reducible refine (H2.out _ BB.out).mono ?_
          rintro r y2 ⟨rfl, hb⟩
          have BB := Aside.intro (BB.out.trans (hb.mono BB.out.size))
          clear hb H2
          go_wp2_with fail
          with_reducible refine (H3.out _ BB.out).mono ?_
          rintro r y3 ⟨rfl, hb⟩
          have BB := Aside.intro (BB.out.trans (hb.mono BB.out.size))
          clear hb H3
          cases hfb : floatBits .sub .f64 x x with
          | some z =>
            have d := run_float_arith (P := Tryz.prog) y3 .sub 22 .f64 x x z hfb
            have o := so.out z (.inl hfb)
            clear hfb
            go_wp2_with (simp only [d])
            go_ret
            exact ⟨rfl, HW.out.trans (BB.out.mono HW.out.size)⟩
          | none =>
            obtain ⟨z, hz, d⟩ := run_float_none (P := Tryz.prog) y3 .sub 22 x x (.inr (.inl rfl)) hfb
            have o := so.out z (.inr ⟨hfb, hz⟩)
            clear hfb hz
            go_wp2_with (simp only [d])
            go_ret
            exact ⟨rfl, HW.out.trans ((BB.out.mono HW.out.size).drew)⟩
        · have so : Aside (∀ z, Gives .sub x x z → (FloatKind.f64.format.order z 0 != some .eq) = true) := fun z hz => by
            rw [sub_self10 x z HS.out.2.2.1 hz, decide_eq_false hf]; rfl
          clear hf
          go_wp2_with fail
          refine (H1.out _ (below_alloc _ _)).mono ?_
          rintro r y1 ⟨rfl, hb⟩
          have BB : Aside (Below wr.heap.size wr y1) := (below_alloc wr _).trans (hb.mono (by simp))
          clear hb H1
          go_wp2_with fail
          with_reducible refine (H2.out _ BB.out).mono ?_
          rintro r y2 ⟨rfl, hb⟩
          have BB := Aside.intro (BB.out.trans (hb.mono BB.out.size))
          clear hb H2
          go_wp2_with fail
          with_reducible refine (H3.out _ BB.out).mono ?_
          rintro r y3 ⟨rfl, hb⟩
          have BB := Aside.intro (BB.out.trans (hb.mono BB.out.size))
          clear hb H3
          cases hfb : floatBits .sub .f64 x x with
          | some z =>
            have d := run_float_arith (P := Tryz.prog) y3 .sub 22 .f64 x x z hfb
            have o := so.out z (.inl hfb)
            clear hfb
            go_wp2_with (simp only [d])
            go_ret
            exact ⟨rfl, HW.out.trans (BB.out.mono HW.out.size)⟩
          | none =>
            obtain ⟨z, hz, d⟩ := run_float_none (P := Tryz.prog) y3 .sub 22 x x (.inr (.inl rfl)) hfb
            have o := so.out z (.inr ⟨hfb, hz⟩)
            clear hfb hz
            go_wp2_with (simp only [d])
            go_ret
            exact ⟨rfl, HW.out.trans ((BB.out.mono HW.out.size).drew)⟩

theorem walk2_SumsLong (n : Int) (x : Nat) (w : World) (hT : Tab w) (hn : (Lit.int .i64 n).wf = true) (hx : x < 18446744073709551616) :
    Calls Tryz.prog 3 #[.int .i64 n, .float .f64 x] w fun r w' => r = .returned (.bool true) ∧ Below w.heap.size w w' := by
  by_cases h : n < 65535 ∨ 65538 < n
  · have HL := hid (live10 w hT)
    by_cases h1 : n < 65535
    · have d0 : decide (n < 65535) = true := by simpa using h1
      clear h h1 hT hn hx
      go_enter Tryz.func3, Tryz.ntmps3
      go_wp2_with fail
      refine HL.out.mono ?_
      rintro r u0 ⟨rfl, hb⟩
      have B0 := Aside.intro hb
      clear hb HL
      go_wp2
      go_ret
      exact ⟨rfl, B0.out⟩
    · have d0 : decide (n < 65535) = false := by simp; omega
      have d1 : decide (65538 < n) = true := by simp; omega
      clear h h1 hT hn hx
      go_enter Tryz.func3, Tryz.ntmps3
      go_wp2_with fail
      refine HL.out.mono ?_
      rintro r u0 ⟨rfl, hb⟩
      have B0 := Aside.intro hb
      clear hb HL
      go_wp2
      go_ret
      exact ⟨rfl, B0.out⟩
  · obtain ⟨N, rfl⟩ : ∃ N : Nat, n = (N : Int) := ⟨n.toNat, by omega⟩
    exact long_core N x w hT hx (by omega) (by omega)
end Go.Proofs.YtmpakpdikkfofaaGreatDoor

