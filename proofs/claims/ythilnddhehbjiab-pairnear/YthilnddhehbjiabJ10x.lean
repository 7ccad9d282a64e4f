/- The document's Plus, Times at finite numbers. -/
import Derived.Test.YthilnddhehbjiabJ8x
import Derived.Test.YthilnddhehbjiabD10x
import Derived.Test.YthilnddhehbjiabD32cx
import Derived.BigQuiet
import Derived.Deep.Cut
import Derived.Test.YthilnddhehbjiabM2x
import Derived.Test.YthilnddhehbjiabBIeeex
import Derived.Deep.RegionHeld3
import Derived.Deep.CutRange
namespace Go.Proofs.Ythilnddhehbjiab
open Go.RowKit
set_option linter.unusedVariables false
set_option maxRecDepth 20000
set_option linter.unusedSimpArgs false
attribute [local go_sem] st_float

set_option maxHeartbeats 4000000 in
theorem rPlus_num (x y z : Nat) (nx ny nX nY nS : Bool) (X Y S : Nat) (eX eY eS : Int) (w : World) (lX : (ws X).length ≤ 8192) (lY : (ws Y).length ≤ 8192) (lS : (ws S).length ≤ 8192) (hS : ((((ws S).length : Nat) : Int) == 0) = false) 
    (H1 : Hid (∀ u, Calls Try.prog 62 #[.float .f64 x] u fun r w' => r = .returned (.bool false) ∧ w' = u))
    (H2 : Hid (∀ u, Calls Try.prog 62 #[.float .f64 y] u fun r w' => r = .returned (.bool false) ∧ w' = u))
    (H3 : Hid (∀ u, Calls Try.prog 63 #[.float .f64 x] u fun r w' => r = .returned (.bool false) ∧ w' = u))
    (H4 : Hid (∀ u, Calls Try.prog 63 #[.float .f64 y] u fun r w' => r = .returned (.bool false) ∧ w' = u))
    (HX : Hid (∀ u, Calls Try.prog 46 #[.float .f64 x] u fun r w' => (∃ v, r = .returned (.tuple #[.agg #[.bool nX, v, .int .i64 eX], .int .i64 0]) ∧ Nt u.heap.size w' v X) ∧ Below u.heap.size u w'))
    (HY : Hid (∀ u, Calls Try.prog 46 #[.float .f64 y] u fun r w' => (∃ v, r = .returned (.tuple #[.agg #[.bool nY, v, .int .i64 eY], .int .i64 0]) ∧ Nt u.heap.size w' v Y) ∧ Below u.heap.size u w'))
    (HA : Hid (∀ u a b c d, Arg u a (ws X).length c (ws X) → Arg u b (ws Y).length d (ws Y) → Calls Try.prog 35 #[.agg #[.bool nX, .slice a (ws X).length c, .int .i64 eX], .agg #[.bool nY, .slice b (ws Y).length d, .int .i64 eY]] u fun r w' => (∃ v, r = .returned (.tuple #[.agg #[.bool nS, v, .int .i64 eS], .int .i64 0]) ∧ Nt u.heap.size w' v S) ∧ Below u.heap.size u w'))
    (HR : Hid (∀ u a c, Arg u a (ws S).length c (ws S) → Calls Try.prog 66 #[.agg #[.bool nS, .slice a (ws S).length c, .int .i64 eS], .int .i64 0] u fun r w' => r = .returned (.tuple #[.float .f64 z, .int .i64 0]) ∧ Below u.heap.size u w')) :
    Calls Try.prog 43 #[.float .f64 x, .float .f64 y] w fun r w' => r = .returned (.float .f64 z) ∧ Below w.heap.size w w' := by
  go_enter Try.func43, Try.ntmps43
  go_wp2_with fail
  refine (Calls.mono (H1.out _)) ?_
  rintro r wx ⟨rfl, hw⟩
  rw [hw]
  clear hw wx H1
  go_wp2_with fail
  refine (Calls.mono (H2.out _)) ?_
  rintro r wx ⟨rfl, hw⟩
  rw [hw]
  clear hw wx H2
  go_wp2_with fail
  refine (Calls.mono (H3.out _)) ?_
  rintro r wx ⟨rfl, hw⟩
  rw [hw]
  clear hw wx H3
  go_wp2_with fail
  refine (Calls.mono (H4.out _)) ?_
  rintro r wx ⟨rfl, hw⟩
  rw [hw]
  clear hw wx H4
  go_wp2_with fail
  refine (Calls.mono (HX.out _)) ?_
  rintro r w1 ⟨⟨v1, rfl, N1⟩, hb1⟩
  clear HX
  obtain ⟨a1, c1, rfl, A1⟩ := N1.arg (by omega)
  clear N1
  have hz1 : w.heap.size ≤ w1.heap.size := hb1.size
  have S1 := Aside.intro hb1
  clear hb1
  go_wp2_with fail
  refine (Calls.mono (HY.out _)) ?_
  rintro r w2 ⟨⟨v2, rfl, N2⟩, hb2⟩
  clear HY
  obtain ⟨a2, c2, rfl, A2⟩ := N2.arg (by omega)
  clear N2
  have hz2 : w1.heap.size < w2.heap.size := by
    have := hb2.size
    simp only [World.size_alloc, World.size_setCell] at this
    omega
  have B12 := Aside.intro (Below.trans (B := w1.heap.size) (a := w1) (by repeat (first | exact Below.refl _ _ | assumption | exact Nat.le_refl _ | (simp only [World.size_alloc, World.size_setCell]; omega) | omega | refine Below.alloc ?_ ?_ _ | refine Below.setCell ?_ ?_ _ | refine Below.drew ?_)) (hb2.mono (by simp only [World.size_alloc, World.size_setCell]; omega)))
  have A1' := A1.below B12.out
  clear A1
  obtain ⟨hc2, hf2⟩ := bcell hb2
  clear hb2
  have c2_0 : w2.cell? ⟨w1.heap.size, 0, none⟩ = some (.bool nX) := by
    rw [hc2 _ _ (by simp only [World.size_alloc, World.size_setCell]; omega)]
    simp [go_sem]
  have c2_1 : w2.cell? ⟨w1.heap.size, 1, none⟩ = some (.slice a1 (ws X).length c1) := by
    rw [hc2 _ _ (by simp only [World.size_alloc, World.size_setCell]; omega)]
    simp [go_sem]
  have c2_2 : w2.cell? ⟨w1.heap.size, 2, none⟩ = some (.int .i64 eX) := by
    rw [hc2 _ _ (by simp only [World.size_alloc, World.size_setCell]; omega)]
    simp [go_sem]
  clear hc2 hf2
  have n12 : w1.heap.size ≠ w2.heap.size := by omega
  go_wp2_with fail
  refine (Calls.mono (HA.out _ a1 a2 c1 c2 (A1'.below (by repeat (first | exact Below.refl _ _ | assumption | exact Nat.le_refl _ | (simp only [World.size_alloc, World.size_setCell]; omega) | omega | refine Below.alloc ?_ ?_ _ | refine Below.setCell ?_ ?_ _ | refine Below.drew ?_))) (A2.below (by repeat (first | exact Below.refl _ _ | assumption | exact Nat.le_refl _ | (simp only [World.size_alloc, World.size_setCell]; omega) | omega | refine Below.alloc ?_ ?_ _ | refine Below.setCell ?_ ?_ _ | refine Below.drew ?_))))) ?_
  rintro r w3 ⟨⟨v3, rfl, N3⟩, hb3⟩
  clear HA A1' A2
  obtain ⟨a3, c3, rfl, A3⟩ := N3.arg (by omega)
  clear N3
  have hz3 : w2.heap.size < w3.heap.size := by
    have := hb3.size
    simp only [World.size_alloc, World.size_setCell] at this
    omega
  have B23 := Aside.intro (Below.trans (B := w2.heap.size) (a := w2) (by repeat (first | exact Below.refl _ _ | assumption | exact Nat.le_refl _ | (simp only [World.size_alloc, World.size_setCell]; omega) | omega | refine Below.alloc ?_ ?_ _ | refine Below.setCell ?_ ?_ _ | refine Below.drew ?_)) (hb3.mono (by simp only [World.size_alloc, World.size_setCell]; omega)))
  clear hb3
  clear c2_0 c2_1 c2_2
  go_wp2_with fail
  refine (Calls.mono (HR.out _ a3 c3 (A3.below (by repeat (first | exact Below.refl _ _ | assumption | exact Nat.le_refl _ | (simp only [World.size_alloc, World.size_setCell]; omega) | omega | refine Below.alloc ?_ ?_ _ | refine Below.setCell ?_ ?_ _ | refine Below.drew ?_))))) ?_
  rintro r w4 ⟨rfl, hb4⟩
  clear HR
  have B34 := Aside.intro (Below.trans (B := w3.heap.size) (a := w3) (by repeat (first | exact Below.refl _ _ | assumption | exact Nat.le_refl _ | (simp only [World.size_alloc, World.size_setCell]; omega) | omega | refine Below.alloc ?_ ?_ _ | refine Below.setCell ?_ ?_ _ | refine Below.drew ?_)) (hb4.mono (by simp only [World.size_alloc, World.size_setCell]; omega)))
  clear hb4
  have F := Aside.intro (S1.out.trans ((B12.out.mono hz1).trans ((B23.out.mono (by omega)).trans (B34.out.mono (by omega)))))
  go_wp2
  exact bodyPost_ret (v := .float .f64 z) (by simp [results, Try.results43, go_sem]) rfl ⟨rfl, (by have := F.out; clear S1 B12 B23 B34 F; repeat (first | exact Below.refl _ _ | assumption | exact Nat.le_refl _ | (simp only [World.size_alloc, World.size_setCell]; omega) | omega | refine Below.alloc ?_ ?_ _ | refine Below.setCell ?_ ?_ _ | refine Below.drew ?_))⟩
set_option maxHeartbeats 4000000 in
theorem rTimes_num (x y z : Nat) (nx ny nX nY nS : Bool) (X Y S : Nat) (eX eY eS : Int) (w : World) (lX : (ws X).length ≤ 8192) (lY : (ws Y).length ≤ 8192) (lS : (ws S).length ≤ 8192) 
    (H1 : Hid (∀ u, Calls Try.prog 64 #[.float .f64 x] u fun r w' => r = .returned (.bool nx) ∧ w' = u))
    (H2 : Hid (∀ u, Calls Try.prog 64 #[.float .f64 y] u fun r w' => r = .returned (.bool ny) ∧ w' = u))
    (H3 : Hid (∀ u, Calls Try.prog 62 #[.float .f64 x] u fun r w' => r = .returned (.bool false) ∧ w' = u))
    (H4 : Hid (∀ u, Calls Try.prog 62 #[.float .f64 y] u fun r w' => r = .returned (.bool false) ∧ w' = u))
    (H5 : Hid (∀ u, Calls Try.prog 63 #[.float .f64 x] u fun r w' => r = .returned (.bool false) ∧ w' = u))
    (H6 : Hid (∀ u, Calls Try.prog 63 #[.float .f64 y] u fun r w' => r = .returned (.bool false) ∧ w' = u))
    (H7 : Hid (∀ u, Calls Try.prog 52 #[.float .f64 x] u fun r w' => r = .returned (.bool false) ∧ w' = u))
    (H8 : Hid (∀ u, Calls Try.prog 52 #[.float .f64 y] u fun r w' => r = .returned (.bool false) ∧ w' = u))
    (HX : Hid (∀ u, Calls Try.prog 46 #[.float .f64 x] u fun r w' => (∃ v, r = .returned (.tuple #[.agg #[.bool nX, v, .int .i64 eX], .int .i64 0]) ∧ Nt u.heap.size w' v X) ∧ Below u.heap.size u w'))
    (HY : Hid (∀ u, Calls Try.prog 46 #[.float .f64 y] u fun r w' => (∃ v, r = .returned (.tuple #[.agg #[.bool nY, v, .int .i64 eY], .int .i64 0]) ∧ Nt u.heap.size w' v Y) ∧ Below u.heap.size u w'))
    (HA : Hid (∀ u a b c d, Arg u a (ws X).length c (ws X) → Arg u b (ws Y).length d (ws Y) → Calls Try.prog 36 #[.agg #[.bool nX, .slice a (ws X).length c, .int .i64 eX], .agg #[.bool nY, .slice b (ws Y).length d, .int .i64 eY]] u fun r w' => (∃ v, r = .returned (.tuple #[.agg #[.bool nS, v, .int .i64 eS], .int .i64 0]) ∧ Nt u.heap.size w' v S) ∧ Below u.heap.size u w'))
    (HR : Hid (∀ u a c, Arg u a (ws S).length c (ws S) → Calls Try.prog 66 #[.agg #[.bool nS, .slice a (ws S).length c, .int .i64 eS], .int .i64 0] u fun r w' => r = .returned (.tuple #[.float .f64 z, .int .i64 0]) ∧ Below u.heap.size u w')) :
    Calls Try.prog 45 #[.float .f64 x, .float .f64 y] w fun r w' => r = .returned (.float .f64 z) ∧ Below w.heap.size w w' := by
  go_enter Try.func45, Try.ntmps45
  go_wp2_with fail
  refine (Calls.mono (H1.out _)) ?_
  rintro r wx ⟨rfl, hw⟩
  rw [hw]
  clear hw wx H1
  go_wp2_with fail
  refine (Calls.mono (H2.out _)) ?_
  rintro r wx ⟨rfl, hw⟩
  rw [hw]
  clear hw wx H2
  go_wp2_with fail
  refine (Calls.mono (H3.out _)) ?_
  rintro r wx ⟨rfl, hw⟩
  rw [hw]
  clear hw wx H3
  go_wp2_with fail
  refine (Calls.mono (H4.out _)) ?_
  rintro r wx ⟨rfl, hw⟩
  rw [hw]
  clear hw wx H4
  go_wp2_with fail
  refine (Calls.mono (H5.out _)) ?_
  rintro r wx ⟨rfl, hw⟩
  rw [hw]
  clear hw wx H5
  go_wp2_with fail
  refine (Calls.mono (H6.out _)) ?_
  rintro r wx ⟨rfl, hw⟩
  rw [hw]
  clear hw wx H6
  go_wp2_with fail
  refine (Calls.mono (H7.out _)) ?_
  rintro r wx ⟨rfl, hw⟩
  rw [hw]
  clear hw wx H7
  go_wp2_with fail
  refine (Calls.mono (H8.out _)) ?_
  rintro r wx ⟨rfl, hw⟩
  rw [hw]
  clear hw wx H8
  go_wp2_with fail
  refine (Calls.mono (HX.out _)) ?_
  rintro r w1 ⟨⟨v1, rfl, N1⟩, hb1⟩
  clear HX
  obtain ⟨a1, c1, rfl, A1⟩ := N1.arg (by omega)
  clear N1
  have hz1 : w.heap.size ≤ w1.heap.size := hb1.size
  have S1 := Aside.intro hb1
  clear hb1
  go_wp2_with fail
  refine (Calls.mono (HY.out _)) ?_
  rintro r w2 ⟨⟨v2, rfl, N2⟩, hb2⟩
  clear HY
  obtain ⟨a2, c2, rfl, A2⟩ := N2.arg (by omega)
  clear N2
  have hz2 : w1.heap.size < w2.heap.size := by
    have := hb2.size
    simp only [World.size_alloc, World.size_setCell] at this
    omega
  have B12 := Aside.intro (Below.trans (B := w1.heap.size) (a := w1) (by repeat (first | exact Below.refl _ _ | assumption | exact Nat.le_refl _ | (simp only [World.size_alloc, World.size_setCell]; omega) | omega | refine Below.alloc ?_ ?_ _ | refine Below.setCell ?_ ?_ _ | refine Below.drew ?_)) (hb2.mono (by simp only [World.size_alloc, World.size_setCell]; omega)))
  have A1' := A1.below B12.out
  clear A1
  obtain ⟨hc2, hf2⟩ := bcell hb2
  clear hb2
  have c2_0 : w2.cell? ⟨w1.heap.size, 0, none⟩ = some (.bool nX) := by
    rw [hc2 _ _ (by simp only [World.size_alloc, World.size_setCell]; omega)]
    simp [go_sem]
  have c2_1 : w2.cell? ⟨w1.heap.size, 1, none⟩ = some (.slice a1 (ws X).length c1) := by
    rw [hc2 _ _ (by simp only [World.size_alloc, World.size_setCell]; omega)]
    simp [go_sem]
  have c2_2 : w2.cell? ⟨w1.heap.size, 2, none⟩ = some (.int .i64 eX) := by
    rw [hc2 _ _ (by simp only [World.size_alloc, World.size_setCell]; omega)]
    simp [go_sem]
  clear hc2 hf2
  have n12 : w1.heap.size ≠ w2.heap.size := by omega
  go_wp2_with fail
  refine (Calls.mono (HA.out _ a1 a2 c1 c2 (A1'.below (by repeat (first | exact Below.refl _ _ | assumption | exact Nat.le_refl _ | (simp only [World.size_alloc, World.size_setCell]; omega) | omega | refine Below.alloc ?_ ?_ _ | refine Below.setCell ?_ ?_ _ | refine Below.drew ?_))) (A2.below (by repeat (first | exact Below.refl _ _ | assumption | exact Nat.le_refl _ | (simp only [World.size_alloc, World.size_setCell]; omega) | omega | refine Below.alloc ?_ ?_ _ | refine Below.setCell ?_ ?_ _ | refine Below.drew ?_))))) ?_
  rintro r w3 ⟨⟨v3, rfl, N3⟩, hb3⟩
  clear HA A1' A2
  obtain ⟨a3, c3, rfl, A3⟩ := N3.arg (by omega)
  clear N3
  have hz3 : w2.heap.size < w3.heap.size := by
    have := hb3.size
    simp only [World.size_alloc, World.size_setCell] at this
    omega
  have B23 := Aside.intro (Below.trans (B := w2.heap.size) (a := w2) (by repeat (first | exact Below.refl _ _ | assumption | exact Nat.le_refl _ | (simp only [World.size_alloc, World.size_setCell]; omega) | omega | refine Below.alloc ?_ ?_ _ | refine Below.setCell ?_ ?_ _ | refine Below.drew ?_)) (hb3.mono (by simp only [World.size_alloc, World.size_setCell]; omega)))
  clear hb3
  clear c2_0 c2_1 c2_2
  go_wp2_with fail
  refine (Calls.mono (HR.out _ a3 c3 (A3.below (by repeat (first | exact Below.refl _ _ | assumption | exact Nat.le_refl _ | (simp only [World.size_alloc, World.size_setCell]; omega) | omega | refine Below.alloc ?_ ?_ _ | refine Below.setCell ?_ ?_ _ | refine Below.drew ?_))))) ?_
  rintro r w4 ⟨rfl, hb4⟩
  clear HR
  have B34 := Aside.intro (Below.trans (B := w3.heap.size) (a := w3) (by repeat (first | exact Below.refl _ _ | assumption | exact Nat.le_refl _ | (simp only [World.size_alloc, World.size_setCell]; omega) | omega | refine Below.alloc ?_ ?_ _ | refine Below.setCell ?_ ?_ _ | refine Below.drew ?_)) (hb4.mono (by simp only [World.size_alloc, World.size_setCell]; omega)))
  clear hb4
  have F := Aside.intro (S1.out.trans ((B12.out.mono hz1).trans ((B23.out.mono (by omega)).trans (B34.out.mono (by omega)))))
  go_wp2
  exact bodyPost_ret (v := .float .f64 z) (by simp [results, Try.results45, go_sem]) rfl ⟨rfl, (by have := F.out; clear S1 B12 B23 B34 F; repeat (first | exact Below.refl _ _ | assumption | exact Nat.le_refl _ | (simp only [World.size_alloc, World.size_setCell]; omega) | omega | refine Below.alloc ?_ ?_ _ | refine Below.setCell ?_ ?_ _ | refine Below.drew ?_))⟩
end Go.Proofs.Ythilnddhehbjiab

/- The document's Plus at finite numbers whose sum is nought. -/
namespace Go.Proofs.Ythilnddhehbjiab
open Go.RowKit
set_option linter.unusedVariables false
set_option maxRecDepth 20000
set_option linter.unusedSimpArgs false
attribute [local go_sem] st_float

set_option maxHeartbeats 4000000 in
theorem rPlus_zero (x y z : Nat) (nx ny nX nY nS : Bool) (X Y S : Nat) (eX eY eS : Int) (w : World) (lX : (ws X).length ≤ 8192) (lY : (ws Y).length ≤ 8192) (lS : (ws S).length ≤ 8192) (hS : ((((ws S).length : Nat) : Int) == 0) = true) 
    (H1 : Hid (∀ u, Calls Try.prog 62 #[.float .f64 x] u fun r w' => r = .returned (.bool false) ∧ w' = u))
    (H2 : Hid (∀ u, Calls Try.prog 62 #[.float .f64 y] u fun r w' => r = .returned (.bool false) ∧ w' = u))
    (H3 : Hid (∀ u, Calls Try.prog 63 #[.float .f64 x] u fun r w' => r = .returned (.bool false) ∧ w' = u))
    (H4 : Hid (∀ u, Calls Try.prog 63 #[.float .f64 y] u fun r w' => r = .returned (.bool false) ∧ w' = u))
    (HX : Hid (∀ u, Calls Try.prog 46 #[.float .f64 x] u fun r w' => (∃ v, r = .returned (.tuple #[.agg #[.bool nX, v, .int .i64 eX], .int .i64 0]) ∧ Nt u.heap.size w' v X) ∧ Below u.heap.size u w'))
    (HY : Hid (∀ u, Calls Try.prog 46 #[.float .f64 y] u fun r w' => (∃ v, r = .returned (.tuple #[.agg #[.bool nY, v, .int .i64 eY], .int .i64 0]) ∧ Nt u.heap.size w' v Y) ∧ Below u.heap.size u w'))
    (HA : Hid (∀ u a b c d, Arg u a (ws X).length c (ws X) → Arg u b (ws Y).length d (ws Y) → Calls Try.prog 35 #[.agg #[.bool nX, .slice a (ws X).length c, .int .i64 eX], .agg #[.bool nY, .slice b (ws Y).length d, .int .i64 eY]] u fun r w' => (∃ v, r = .returned (.tuple #[.agg #[.bool nS, v, .int .i64 eS], .int .i64 0]) ∧ Nt u.heap.size w' v S) ∧ Below u.heap.size u w'))
    (H5 : Hid (∀ u, Calls Try.prog 64 #[.float .f64 x] u fun r w' => r = .returned (.bool nx) ∧ w' = u))
    (H6 : Hid (∀ u, Calls Try.prog 64 #[.float .f64 y] u fun r w' => r = .returned (.bool ny) ∧ w' = u))
    (H7 : Hid (∀ u, Calls Try.prog 65 #[.int .u64 0, .bool (nx && ny)] u fun r w' => r = .returned (.float .f64 z) ∧ w' = u)) :
    Calls Try.prog 43 #[.float .f64 x, .float .f64 y] w fun r w' => r = .returned (.float .f64 z) ∧ Below w.heap.size w w' := by
  cases nx
  · go_enter Try.func43, Try.ntmps43
    go_wp2_with fail
    refine (Calls.mono (H1.out _)) ?_
    rintro r wx ⟨rfl, hw⟩
    rw [hw]
    clear hw wx H1
    go_wp2_with fail
    refine (Calls.mono (H2.out _)) ?_
    rintro r wx ⟨rfl, hw⟩
    rw [hw]
    clear hw wx H2
    go_wp2_with fail
    refine (Calls.mono (H3.out _)) ?_
    rintro r wx ⟨rfl, hw⟩
    rw [hw]
    clear hw wx H3
    go_wp2_with fail
    refine (Calls.mono (H4.out _)) ?_
    rintro r wx ⟨rfl, hw⟩
    rw [hw]
    clear hw wx H4
    go_wp2_with fail
    refine (Calls.mono (HX.out _)) ?_
    rintro r w1 ⟨⟨v1, rfl, N1⟩, hb1⟩
    clear HX
    obtain ⟨a1, c1, rfl, A1⟩ := N1.arg (by omega)
    clear N1
    have hz1 : w.heap.size ≤ w1.heap.size := hb1.size
    have S1 := Aside.intro hb1
    clear hb1
    go_wp2_with fail
    refine (Calls.mono (HY.out _)) ?_
    rintro r w2 ⟨⟨v2, rfl, N2⟩, hb2⟩
    clear HY
    obtain ⟨a2, c2, rfl, A2⟩ := N2.arg (by omega)
    clear N2
    have hz2 : w1.heap.size < w2.heap.size := by
      have := hb2.size
      simp only [World.size_alloc, World.size_setCell] at this
      omega
    have B12 := Aside.intro (Below.trans (B := w1.heap.size) (a := w1) (by repeat (first | exact Below.refl _ _ | assumption | exact Nat.le_refl _ | (simp only [World.size_alloc, World.size_setCell]; omega) | omega | refine Below.alloc ?_ ?_ _ | refine Below.setCell ?_ ?_ _ | refine Below.drew ?_)) (hb2.mono (by simp only [World.size_alloc, World.size_setCell]; omega)))
    have A1' := A1.below B12.out
    clear A1
    obtain ⟨hc2, hf2⟩ := bcell hb2
    clear hb2
    have c2_0 : w2.cell? ⟨w1.heap.size, 0, none⟩ = some (.bool nX) := by
      rw [hc2 _ _ (by simp only [World.size_alloc, World.size_setCell]; omega)]
      simp [go_sem]
    have c2_1 : w2.cell? ⟨w1.heap.size, 1, none⟩ = some (.slice a1 (ws X).length c1) := by
      rw [hc2 _ _ (by simp only [World.size_alloc, World.size_setCell]; omega)]
      simp [go_sem]
    have c2_2 : w2.cell? ⟨w1.heap.size, 2, none⟩ = some (.int .i64 eX) := by
      rw [hc2 _ _ (by simp only [World.size_alloc, World.size_setCell]; omega)]
      simp [go_sem]
    clear hc2 hf2
    have n12 : w1.heap.size ≠ w2.heap.size := by omega
    go_wp2_with fail
    refine (Calls.mono (HA.out _ a1 a2 c1 c2 (A1'.below (by repeat (first | exact Below.refl _ _ | assumption | exact Nat.le_refl _ | (simp only [World.size_alloc, World.size_setCell]; omega) | omega | refine Below.alloc ?_ ?_ _ | refine Below.setCell ?_ ?_ _ | refine Below.drew ?_))) (A2.below (by repeat (first | exact Below.refl _ _ | assumption | exact Nat.le_refl _ | (simp only [World.size_alloc, World.size_setCell]; omega) | omega | refine Below.alloc ?_ ?_ _ | refine Below.setCell ?_ ?_ _ | refine Below.drew ?_))))) ?_
    rintro r w3 ⟨⟨v3, rfl, N3⟩, hb3⟩
    clear HA A1' A2
    obtain ⟨a3, c3, rfl, A3⟩ := N3.arg (by omega)
    clear N3
    have hz3 : w2.heap.size < w3.heap.size := by
      have := hb3.size
      simp only [World.size_alloc, World.size_setCell] at this
      omega
    have B23 := Aside.intro (Below.trans (B := w2.heap.size) (a := w2) (by repeat (first | exact Below.refl _ _ | assumption | exact Nat.le_refl _ | (simp only [World.size_alloc, World.size_setCell]; omega) | omega | refine Below.alloc ?_ ?_ _ | refine Below.setCell ?_ ?_ _ | refine Below.drew ?_)) (hb3.mono (by simp only [World.size_alloc, World.size_setCell]; omega)))
    clear hb3
    clear c2_0 c2_1 c2_2
    go_wp2_with fail
    refine (Calls.mono (H5.out _)) ?_
    rintro r wx ⟨rfl, hw⟩
    rw [hw]
    clear hw wx H5
    go_wp2_with fail
    refine (Calls.mono (H7.out _)) ?_
    rintro r wx ⟨rfl, hw⟩
    rw [hw]
    clear hw wx H7
    go_wp2
    have F := Aside.intro (S1.out.trans ((B12.out.mono hz1).trans (B23.out.mono (by omega))))
    exact bodyPost_ret (v := .float .f64 z) (by simp [results, Try.results43, go_sem]) rfl ⟨rfl, (by have := F.out; clear S1 B12 B23 F; repeat (first | exact Below.refl _ _ | assumption | exact Nat.le_refl _ | (simp only [World.size_alloc, World.size_setCell]; omega) | omega | refine Below.alloc ?_ ?_ _ | refine Below.setCell ?_ ?_ _ | refine Below.drew ?_))⟩
  · go_enter Try.func43, Try.ntmps43
    go_wp2_with fail
    refine (Calls.mono (H1.out _)) ?_
    rintro r wx ⟨rfl, hw⟩
    rw [hw]
    clear hw wx H1
    go_wp2_with fail
    refine (Calls.mono (H2.out _)) ?_
    rintro r wx ⟨rfl, hw⟩
    rw [hw]
    clear hw wx H2
    go_wp2_with fail
    refine (Calls.mono (H3.out _)) ?_
    rintro r wx ⟨rfl, hw⟩
    rw [hw]
    clear hw wx H3
    go_wp2_with fail
    refine (Calls.mono (H4.out _)) ?_
    rintro r wx ⟨rfl, hw⟩
    rw [hw]
    clear hw wx H4
    go_wp2_with fail
    refine (Calls.mono (HX.out _)) ?_
    rintro r w1 ⟨⟨v1, rfl, N1⟩, hb1⟩
    clear HX
    obtain ⟨a1, c1, rfl, A1⟩ := N1.arg (by omega)
    clear N1
    have hz1 : w.heap.size ≤ w1.heap.size := hb1.size
    have S1 := Aside.intro hb1
    clear hb1
    go_wp2_with fail
    refine (Calls.mono (HY.out _)) ?_
    rintro r w2 ⟨⟨v2, rfl, N2⟩, hb2⟩
    clear HY
    obtain ⟨a2, c2, rfl, A2⟩ := N2.arg (by omega)
    clear N2
    have hz2 : w1.heap.size < w2.heap.size := by
      have := hb2.size
      simp only [World.size_alloc, World.size_setCell] at this
      omega
    have B12 := Aside.intro (Below.trans (B := w1.heap.size) (a := w1) (by repeat (first | exact Below.refl _ _ | assumption | exact Nat.le_refl _ | (simp only [World.size_alloc, World.size_setCell]; omega) | omega | refine Below.alloc ?_ ?_ _ | refine Below.setCell ?_ ?_ _ | refine Below.drew ?_)) (hb2.mono (by simp only [World.size_alloc, World.size_setCell]; omega)))
    have A1' := A1.below B12.out
    clear A1
    obtain ⟨hc2, hf2⟩ := bcell hb2
    clear hb2
    have c2_0 : w2.cell? ⟨w1.heap.size, 0, none⟩ = some (.bool nX) := by
      rw [hc2 _ _ (by simp only [World.size_alloc, World.size_setCell]; omega)]
      simp [go_sem]
    have c2_1 : w2.cell? ⟨w1.heap.size, 1, none⟩ = some (.slice a1 (ws X).length c1) := by
      rw [hc2 _ _ (by simp only [World.size_alloc, World.size_setCell]; omega)]
      simp [go_sem]
    have c2_2 : w2.cell? ⟨w1.heap.size, 2, none⟩ = some (.int .i64 eX) := by
      rw [hc2 _ _ (by simp only [World.size_alloc, World.size_setCell]; omega)]
      simp [go_sem]
    clear hc2 hf2
    have n12 : w1.heap.size ≠ w2.heap.size := by omega
    go_wp2_with fail
    refine (Calls.mono (HA.out _ a1 a2 c1 c2 (A1'.below (by repeat (first | exact Below.refl _ _ | assumption | exact Nat.le_refl _ | (simp only [World.size_alloc, World.size_setCell]; omega) | omega | refine Below.alloc ?_ ?_ _ | refine Below.setCell ?_ ?_ _ | refine Below.drew ?_))) (A2.below (by repeat (first | exact Below.refl _ _ | assumption | exact Nat.le_refl _ | (simp only [World.size_alloc, World.size_setCell]; omega) | omega | refine Below.alloc ?_ ?_ _ | refine Below.setCell ?_ ?_ _ | refine Below.drew ?_))))) ?_
    rintro r w3 ⟨⟨v3, rfl, N3⟩, hb3⟩
    clear HA A1' A2
    obtain ⟨a3, c3, rfl, A3⟩ := N3.arg (by omega)
    clear N3
    have hz3 : w2.heap.size < w3.heap.size := by
      have := hb3.size
      simp only [World.size_alloc, World.size_setCell] at this
      omega
    have B23 := Aside.intro (Below.trans (B := w2.heap.size) (a := w2) (by repeat (first | exact Below.refl _ _ | assumption | exact Nat.le_refl _ | (simp only [World.size_alloc, World.size_setCell]; omega) | omega | refine Below.alloc ?_ ?_ _ | refine Below.setCell ?_ ?_ _ | refine Below.drew ?_)) (hb3.mono (by simp only [World.size_alloc, World.size_setCell]; omega)))
    clear hb3
    clear c2_0 c2_1 c2_2
    go_wp2_with fail
    refine (Calls.mono (H5.out _)) ?_
    rintro r wx ⟨rfl, hw⟩
    rw [hw]
    clear hw wx H5
    go_wp2_with fail
    refine (Calls.mono (H6.out _)) ?_
    rintro r wx ⟨rfl, hw⟩
    rw [hw]
    clear hw wx H6
    go_wp2_with fail
    refine (Calls.mono (H7.out _)) ?_
    rintro r wx ⟨rfl, hw⟩
    rw [hw]
    clear hw wx H7
    go_wp2
    have F := Aside.intro (S1.out.trans ((B12.out.mono hz1).trans (B23.out.mono (by omega))))
    exact bodyPost_ret (v := .float .f64 z) (by simp [results, Try.results43, go_sem]) rfl ⟨rfl, (by have := F.out; clear S1 B12 B23 F; repeat (first | exact Below.refl _ _ | assumption | exact Nat.le_refl _ | (simp only [World.size_alloc, World.size_setCell]; omega) | omega | refine Below.alloc ?_ ?_ _ | refine Below.setCell ?_ ?_ _ | refine Below.drew ?_))⟩
end Go.Proofs.Ythilnddhehbjiab

/- DyadRounds: what the document's search, its half and its Nearby come to: plain mathematics. -/
namespace Go.Proofs.Ythilnddhehbjiab
open Go.RowKit
set_option linter.unusedVariables false
set_option maxRecDepth 20000

/-- The number that a search by halves ends at is where the value lies; the halves are what the place told. -/
theorem Lies.doc {K : Nat} {t : Bool} {m : Int} {V S : Nat} (h : Lies K t m V S) (k : Nat) (hk : k < 9218868437227405312) (h1 : vK k * S ≤ V) (h2 : k + 1 = 9218868437227405312 ∨ V < vK (k + 1) * S) :
    k = K ∧ t = decide (V = vK K * S) ∧ (t = false → m = cmpZ ((2 * V : Nat) : Int) ((vK K * S + vK (K + 1) * S : Nat) : Int)) := by
  have hge := h.ge
  have hfin := h.fin
  have hpos := h.pos
  have hkK : k = K := by
    rcases Nat.lt_trichotomy k K with q | q | q
    · exfalso
      rcases h2 with e | e
      · omega
      · have := vS_le (S := S) (show k + 1 ≤ K by omega)
        omega
    · exact q
    · exfalso
      have a1 := vS_le (S := S) (show K + 1 ≤ k by omega)
      have a2 := vS_lt (K := K) (L := K + 1) hpos (by omega)
      cases t with
      | true =>
        have := h.one rfl
        omega
      | false =>
        rcases h.high rfl with e | e
        · omega
        · omega
  subst hkK
  refine ⟨rfl, ?_, ?_⟩
  · cases t with
    | true => exact (decide_eq_true (h.one rfl)).symm
    | false =>
      have := h.low rfl
      exact (decide_eq_false (by omega)).symm
  · intro ht
    have a2 := vS_lt (K := k) (L := k + 1) hpos (by omega)
    by_cases hb : V < vK (k + 1) * S
    · have hm := h.mids ht hb
      generalize vK k * S = A at *
      generalize vK (k + 1) * S = C at *
      unfold cmpZ
      rcases hm with ⟨e, q⟩ | ⟨e, q⟩ | ⟨e, q⟩
      · rw [if_pos (by omega), e]
      · rw [if_neg (by omega), if_neg (by omega), e]
      · rw [if_neg (by omega), if_pos (by omega), e]
    · rcases h.high ht with e | ⟨_, e⟩
      · exact absurd e hb
      · generalize vK k * S = A at *
        generalize vK (k + 1) * S = C at *
        unfold cmpZ
        rw [if_neg (by omega), if_pos (by omega), e]

end Go.Proofs.Ythilnddhehbjiab

/- DyadRounds: the document's search by halves. -/
namespace Go.Proofs.Ythilnddhehbjiab
open Go.RowKit
set_option linter.unusedVariables false
set_option maxRecDepth 20000
set_option linter.unusedSimpArgs false

/-- A width of the document's, in a block. -/
def Zk (w : World) (g : Nat) (dg ls En : Int) : Prop := w.heap[g]? = some (.cells #[.int .i64 dg, .int .i64 ls, .int .u64 En] 78 (0, 0))
theorem Zk.lt {w : World} {g : Nat} {dg ls En : Int} (h : Zk w g dg ls En) : g < w.heap.size := (Array.getElem?_eq_some_iff.1 h).1
theorem Zk.below {w w' : World} {g : Nat} {dg ls En : Int} (h : Zk w g dg ls En) (hb : Below w.heap.size w w') : Zk w' g dg ls En := by
  unfold Zk; rw [hb.block g h.lt]; exact h
theorem Zk.facts {w : World} {g : Nat} {dg ls En : Int} (h : Zk w g dg ls En) : w.cell? ⟨g, 0, none⟩ = some (.int .i64 dg) ∧ w.cell? ⟨g, 1, none⟩ = some (.int .i64 ls) ∧ w.cell? ⟨g, 2, none⟩ = some (.int .u64 En) := by
  unfold Zk at h
  simp [World.cell?, h]

/-- What the search keeps to. -/
structure Half (w : World) (dg ls : Int) (En : Nat) (ag : Nat → Int) (f t : Nat) (u : World) : Prop where
  bel : Below w.heap.size w u
  sz : Zk u w.heap.size dg ls En
  ft : f < t
  tE : t ≤ En
  lo : f = 0 ∨ ag f ≤ 0
  hi : t = En ∨ 0 < ag t

set_option maxHeartbeats 4000000 in
theorem below_core {w : World} {a : Option Addr} {l c : Nat} (dg ls : Int) (En : Nat) (e : Int) (hE : 0 < En) (hE2 : En < 9223372036854775808) (num : Nat → Nat × Int) (ag : Nat → Int) (lnum : ∀ k, (ws (num k).1).length ≤ 8192)
    (HN : Hid (∀ (k : Nat) (u : World), k < En → Calls Try.prog 78 #[.agg #[.int .i64 dg, .int .i64 ls, .int .u64 (En : Nat)], .int .u64 (k : Nat)] u fun r w' => ∃ v, r = .returned (.tuple #[v, .int .i64 (num k).2]) ∧ Nt u.heap.size w' v (num k).1 ∧ Below u.heap.size u w'))
    (HA : Hid (∀ (k : Nat) (u : World) (p : Option Addr) (s : Nat), k < En → Below w.heap.size w u → Arg u p (ws (num k).1).length s (ws (num k).1) → Calls Try.prog 70 #[.slice p (ws (num k).1).length s, .int .i64 (num k).2, .slice a l c, .int .i64 e] u fun r w' => r = .returned (.int .i64 (ag k)) ∧ Below u.heap.size u w')) :
    Calls Try.prog 81 #[.agg #[.int .i64 dg, .int .i64 ls, .int .u64 (En : Nat)], .slice a l c, .int .i64 e] w fun r w' =>
      (∃ k : Nat, r = .returned (.int .u64 (k : Nat)) ∧ k < En ∧ (k = 0 ∨ ag k ≤ 0) ∧ (k + 1 = En ∨ 0 < ag (k + 1))) ∧ Below w.heap.size w w' := by
  obtain ⟨W1, hW1⟩ : ∃ W, W = w.alloc (.cells #[.int .i64 dg, .int .i64 ls, .int .u64 (En : Nat)] 78) := ⟨_, rfl⟩
  have Z : Zk W1 w.heap.size dg ls En := by rw [hW1]; exact heap_alloc_new _ _
  have hB : Below w.heap.size w W1 := by rw [hW1]; exact below_alloc w _
  obtain ⟨p0, p1, p2⟩ := Z.facts
  have S0 : Aside (Half w dg ls En ag 0 En W1) := Aside.intro ⟨hB, Z, hE, Nat.le_refl _, .inl rfl, .inl rfl⟩
  clear Z hB
  have hw : ∀ n : Int, 0 ≤ n → n < 18446744073709551616 → IntKind.u64.wrap n = n := fun n h1 h2 => by simp [IntKind.wrap, IntKind.bits, IntKind.signed]; omega
  have HW := Aside.intro hw
  clear hw
  go_enter Try.func81, Try.ntmps81
  go_upto_region 2 with fail
  rw [← hW1]
  clear hW1
  go_wp2_with fail
  clear p0 p1 p2
  go_loopg [7, 8] En (fun gk fv tv wr => ∃ f t : Nat, gk + f = t ∧ fv = .int .u64 (f : Nat) ∧ tv = .int .u64 (t : Nat) ∧ f < t ∧ t ≤ En ∧ Aside (Half w dg ls En ag f t wr))
  case atStart => exact ⟨0, En, by omega, rfl, rfl, hE, Nat.le_refl _, S0⟩
  case round =>
    obtain ⟨f, t, hgk, rfl, rfl, hft, htE, S1⟩ := hrel
    have e1 := HW.out ((t : Int) - (f : Int)) (by omega) (by omega)
    by_cases hone : 1 < (t : Int) - (f : Int)
    · obtain ⟨m, hm⟩ : ∃ m, (f + t) / 2 = m := ⟨_, rfl⟩
      have e2 := HW.out ((f : Int) + (t : Int)) (by omega) (by omega)
      have e3 : ((f : Int) + (t : Int)) / 2 = (m : Nat) := by omega
      have e4 : IntKind.u64.wrap ((m : Nat) : Int) = (m : Nat) := HW.out _ (by omega) (by omega)
      have hmE : m < En := by omega
      obtain ⟨p0, p1, p2⟩ := S1.out.sz.facts
      obtain ⟨X, hX⟩ : ∃ X, (num m).1 = X := ⟨_, rfl⟩
      obtain ⟨y, hy⟩ : ∃ y, (num m).2 = y := ⟨_, rfl⟩
      have H1 := hid (HN.out m wr hmE)
      have H2 := hid fun u p s => HA.out m u p s hmE
      have lX := lnum m
      rw [hX, hy] at H1 H2
      rw [hX] at lX
      go_wp2_with fail
      clear p0 p1 p2
      refine (Calls.mono H1.out) ?_
      rintro r u1 ⟨v, rfl, hN, hb⟩
      obtain ⟨b1, c1, rfl, hArg⟩ := hN.arg (by omega)
      have S2 := Aside.intro (⟨S1.out.bel.trans (hb.mono S1.out.bel.size), S1.out.sz.below hb, S1.out.ft, S1.out.tE, S1.out.lo, S1.out.hi⟩ : Half w dg ls En ag f t u1)
      have H3 := hid (H2.out u1 b1 c1 S2.out.bel hArg)
      clear hb hN hArg S1 H1 H2
      go_wp2_with fail
      refine (Calls.mono H3.out) ?_
      rintro r u2 ⟨rfl, hb⟩
      have S3 := Aside.intro (⟨S2.out.bel.trans (hb.mono S2.out.bel.size), S2.out.sz.below hb, S2.out.ft, S2.out.tE, S2.out.lo, S2.out.hi⟩ : Half w dg ls En ag f t u2)
      clear hb H3 S2
      by_cases hag : ag m ≤ 0
      · go_wp2_with fail
        go_roundg (t - m)
        case measure => omega
        case rel => exact ⟨m, t, by omega, rfl, rfl, by omega, htE, Aside.intro ⟨S3.out.bel, S3.out.sz, by omega, htE, .inr hag, S3.out.hi⟩⟩
      · have hag' : decide (ag m ≤ 0) = false := decide_eq_false hag
        go_wp2_with fail
        go_roundg (m - f)
        case measure => omega
        case rel => exact ⟨f, m, by omega, rfl, rfl, by omega, by omega, Aside.intro ⟨S3.out.bel, S3.out.sz, by omega, by omega, S3.out.lo, .inr (by omega)⟩⟩
    · have hone' : decide (1 < (t : Int) - (f : Int)) = false := decide_eq_false hone
      obtain rfl : t = f + 1 := by omega
      have e5 : ((f + 1 : Nat) : Int) - (f : Int) = 1 := by omega
      go_wp2_with fail
      go_ret
      exact ⟨⟨f, rfl, by omega, S1.out.lo, S1.out.hi⟩, S1.out.bel⟩
end Go.Proofs.Ythilnddhehbjiab

/- DyadRounds: the document's half, its Nearby. -/
namespace Go.Proofs.Ythilnddhehbjiab
open Go.RowKit
set_option linter.unusedVariables false
set_option maxRecDepth 20000
set_option linter.unusedSimpArgs false

set_option maxHeartbeats 4000000 in
theorem half_core {w : World} {a : Option Addr} {l c : Nat} (dg ls En k k1 e f g q : Int) (A Bv MV SM TW : Nat) (hv : Int) (lA : (ws A).length ≤ 8192) (lB : (ws Bv).length ≤ 8192) (lM : (ws MV).length ≤ 8192) (lS : (ws SM).length ≤ 8192) (lT : (ws TW).length ≤ 35184372088832)
    (ek : IntKind.u64.wrap (k + 1) = k1) (hgf : decide (g < f) = false) (eq : IntKind.i64.wrap (g - f) = q)
    (HN : Hid (∀ (u : World), Calls Try.prog 78 #[.agg #[.int .i64 dg, .int .i64 ls, .int .u64 En], .int .u64 k] u fun r w' => ∃ v, r = .returned (.tuple #[v, .int .i64 f]) ∧ Nt u.heap.size w' v A ∧ Below u.heap.size u w'))
    (HN1 : Hid (∀ (u : World), Calls Try.prog 78 #[.agg #[.int .i64 dg, .int .i64 ls, .int .u64 En], .int .u64 k1] u fun r w' => ∃ v, r = .returned (.tuple #[v, .int .i64 g]) ∧ Nt u.heap.size w' v Bv ∧ Below u.heap.size u w'))
    (HM : Hid (∀ (u : World) (p : Option Addr) (s lo : Nat), Nt lo u (.slice p (ws Bv).length s) Bv → Calls Try.prog 54 #[.slice p (ws Bv).length s, .int .i64 q] u fun r w' => ∃ v, r = .returned v ∧ Nt u.heap.size w' v MV ∧ Below u.heap.size u w'))
    (HP : Hid (∀ (u : World) (p : Option Addr) (s : Nat) (p2 : Option Addr) (s2 : Nat), Arg u p (ws A).length s (ws A) → Arg u p2 (ws MV).length s2 (ws MV) → Calls Try.prog 56 #[.slice p (ws A).length s, .slice p2 (ws MV).length s2] u fun r w' => ∃ v, r = .returned v ∧ Nt u.heap.size w' v SM ∧ Below u.heap.size u w'))
    (HT : Hid (∀ (u : World) (p : Option Addr), Below w.heap.size w u → Arg u p 1 1 [2] → Calls Try.prog 59 #[.slice a l c, .slice p 1 1] u fun r w' => ∃ v, r = .returned v ∧ Nt u.heap.size w' v TW ∧ Below u.heap.size u w'))
    (HA : Hid (∀ (u : World) (p : Option Addr) (s : Nat) (p2 : Option Addr) (s2 : Nat), Arg u p (ws TW).length s (ws TW) → Arg u p2 (ws SM).length s2 (ws SM) → Calls Try.prog 70 #[.slice p (ws TW).length s, .int .i64 e, .slice p2 (ws SM).length s2, .int .i64 f] u fun r w' => r = .returned (.int .i64 hv) ∧ Below u.heap.size u w')) :
    Calls Try.prog 82 #[.agg #[.int .i64 dg, .int .i64 ls, .int .u64 En], .int .u64 k, .slice a l c, .int .i64 e] w fun r w' => r = .returned (.int .i64 hv) ∧ Below w.heap.size w w' := by
  obtain ⟨W1, hW1⟩ : ∃ W, W = w.alloc (.cells #[.int .i64 dg, .int .i64 ls, .int .u64 En] 78) := ⟨_, rfl⟩
  have Z : Zk W1 w.heap.size dg ls En := by rw [hW1]; exact heap_alloc_new _ _
  have hB : Below w.heap.size w W1 := by rw [hW1]; exact below_alloc w _
  obtain ⟨p0, p1, p2⟩ := Z.facts
  have S0 := (Aside.intro (And.intro hB Z))
  clear Z hB
  have H1 := hid (HN.out W1)
  go_enter Try.func82, Try.ntmps82
  go_upto_region 1 with fail
  rw [← hW1]
  clear hW1
  go_wp2_with fail
  clear p0 p1 p2
  refine (Calls.mono H1.out) ?_
  rintro r u1 ⟨v, rfl, hN, hb⟩
  obtain ⟨a1, c1, rfl, _⟩ := hN.arg (by omega)
  have Z1 := S0.out.2.below hb
  obtain ⟨p0, p1, p2⟩ := Z1.facts
  have B1 := S0.out.1.trans (hb.mono S0.out.1.size)
  have S1 := (Aside.intro (And.intro B1 (And.intro Z1 hN)))
  have H2 := hid (HN1.out u1)
  clear hb hN Z1 B1 S0 H1
  go_wp2_with fail
  clear p0 p1 p2
  refine (Calls.mono H2.out) ?_
  rintro r u2 ⟨v, rfl, hN, hb⟩
  obtain ⟨a2, c2, rfl, _⟩ := hN.arg (by omega)
  have B2 := S1.out.1.trans (hb.mono S1.out.1.size)
  have N1 := S1.out.2.2.below hb
  have H3 := hid (HM.out u2 a2 c2 _ hN)
  have S2 := (Aside.intro (And.intro B2 N1))
  clear hb hN B2 N1 S1 H2
  go_wp2_with fail
  refine (Calls.mono H3.out) ?_
  rintro r u3 ⟨v, rfl, hN, hb⟩
  obtain ⟨a3, c3, rfl, hA3⟩ := hN.arg (by omega)
  have B3 := S2.out.1.trans (hb.mono S2.out.1.size)
  have N3 := S2.out.2.below hb
  have H4 := hid (HP.out u3 a1 c1 a3 c3 (N3.arg' (by omega)).2 hA3)
  have S3 := Aside.intro B3
  clear hb hN hA3 B3 N3 S2 H3
  go_wp2_with fail
  refine (Calls.mono H4.out) ?_
  rintro r u4 ⟨v, rfl, hN, hb⟩
  obtain ⟨a4, c4, rfl, _⟩ := hN.arg (by omega)
  have B4 := S3.out.trans (hb.mono S3.out.size)
  obtain ⟨U, hU⟩ : ∃ U, U = u4.alloc (.cells #[.int .u32 2] 67) := ⟨_, rfl⟩
  have hA : Below u4.heap.size u4 U := by rw [hU]; exact below_alloc _ _
  have B5 := B4.trans (hA.mono B4.size)
  have AL : Arg U (some ⟨u4.heap.size, 0, none⟩) 1 1 [2] := by rw [hU]; exact lit_arg u4 2 (by omega)
  have H5 := hid (HT.out U (some ⟨u4.heap.size, 0, none⟩) B5 AL)
  have N5 := hN.below hA
  have S5 := (Aside.intro (And.intro B5 N5))
  clear hb hN B4 hA B5 AL N5 S3 H4
  go_wp2_with fail
  rw [← hU]
  clear hU
  refine (Calls.mono H5.out) ?_
  rintro r u6 ⟨v, rfl, hN, hb⟩
  obtain ⟨a6, c6, rfl, hA6⟩ := hN.arg (by omega)
  have B6 := S5.out.1.trans (hb.mono S5.out.1.size)
  have N6 := S5.out.2.below hb
  have H6 := hid (HA.out u6 a6 c6 a4 c4 hA6 (N6.arg' (by omega)).2)
  have S6 := Aside.intro B6
  clear hb hN hA6 B6 N6 S5 H5
  go_wp2_with fail
  refine (Calls.mono H6.out) ?_
  rintro r u7 ⟨rfl, hb⟩
  have B7 := Aside.intro (S6.out.trans (hb.mono S6.out.size))
  clear hb H6 S6
  go_wp2
  go_ret
  exact ⟨rfl, B7.out⟩

/-- Where Nearby goes. -/
def nbyD (mode : Int) (n : Bool) (k : Nat) (z hv : Int) : Nat := if z = 0 then k else if outS mode k hv n then k + 1 else k
end Go.Proofs.Ythilnddhehbjiab

/- DyadRounds: the document's Nearby. -/
namespace Go.Proofs.Ythilnddhehbjiab
open Go.RowKit
set_option linter.unusedVariables false
set_option maxRecDepth 20000
set_option linter.unusedSimpArgs false

set_option maxHeartbeats 4000000 in
theorem nearby_core {w : World} {a : Option Addr} {l c : Nat} (dg ls En : Int) (n : Bool) (k : Nat) (e f mode : Int) (A : Nat) (z hv : Int) (lA : (ws A).length ≤ 8192) (hk : k < 9223372036854775808) (hm0 : 0 ≤ mode) (hm4 : mode ≤ 4) (hv3 : hv = -1 ∨ hv = 0 ∨ hv = 1)
    (HB : Hid (∀ (u : World), Below w.heap.size w u → Calls Try.prog 81 #[.agg #[.int .i64 dg, .int .i64 ls, .int .u64 En], .slice a l c, .int .i64 e] u fun r w' => r = .returned (.int .u64 (k : Nat)) ∧ Below u.heap.size u w'))
    (HN : Hid (∀ (u : World), Calls Try.prog 78 #[.agg #[.int .i64 dg, .int .i64 ls, .int .u64 En], .int .u64 (k : Nat)] u fun r w' => ∃ v, r = .returned (.tuple #[v, .int .i64 f]) ∧ Nt u.heap.size w' v A ∧ Below u.heap.size u w'))
    (HA : Hid (∀ (u : World) (p : Option Addr) (s : Nat), Below w.heap.size w u → Arg u p (ws A).length s (ws A) → Calls Try.prog 70 #[.slice p (ws A).length s, .int .i64 f, .slice a l c, .int .i64 e] u fun r w' => r = .returned (.int .i64 z) ∧ Below u.heap.size u w'))
    (HH : Hid (∀ (u : World), Below w.heap.size w u → Calls Try.prog 82 #[.agg #[.int .i64 dg, .int .i64 ls, .int .u64 En], .int .u64 (k : Nat), .slice a l c, .int .i64 e] u fun r w' => r = .returned (.int .i64 hv) ∧ Below u.heap.size u w')) :
    Calls Try.prog 77 #[.agg #[.int .i64 dg, .int .i64 ls, .int .u64 En], .bool n, .slice a l c, .int .i64 e, .int .i64 mode] w fun r w' => r = .returned (.int .u64 (nbyD mode n k z hv : Nat)) ∧ Below w.heap.size w w' := by
  obtain ⟨W1, hW1⟩ : ∃ W, W = w.alloc (.cells #[.int .i64 dg, .int .i64 ls, .int .u64 En] 78) := ⟨_, rfl⟩
  have Z : Zk W1 w.heap.size dg ls En := by rw [hW1]; exact heap_alloc_new _ _
  have hB : Below w.heap.size w W1 := by rw [hW1]; exact below_alloc w _
  obtain ⟨p0, p1, p2⟩ := Z.facts
  have H1 := hid (HB.out W1 hB)
  have S0 := (Aside.intro (And.intro hB Z))
  clear Z hB
  have ek : IntKind.u64.wrap ((k : Int) + 1) = (k : Int) + 1 := by simp [IntKind.wrap, IntKind.bits, IntKind.signed]; omega
  obtain ⟨R, hR⟩ : ∃ R, nbyD mode n k z hv = R := ⟨_, rfl⟩
  rw [hR]
  go_enter Try.func77, Try.ntmps77
  go_upto_region 1 with fail
  rw [← hW1]
  clear hW1
  go_wp2_with fail
  clear p0 p1 p2
  refine (Calls.mono H1.out) ?_
  rintro r u1 ⟨rfl, hb⟩
  have Z1 := S0.out.2.below hb
  obtain ⟨p0, p1, p2⟩ := Z1.facts
  have B1 := S0.out.1.trans (hb.mono S0.out.1.size)
  have S1 := (Aside.intro (And.intro B1 Z1))
  have H2 := hid (HN.out u1)
  clear hb Z1 B1 S0 H1
  go_wp2_with fail
  clear p0 p1 p2
  refine (Calls.mono H2.out) ?_
  rintro r u2 ⟨v, rfl, hN, hb⟩
  obtain ⟨a2, c2, rfl, hA2⟩ := hN.arg (by omega)
  have Z2 := S1.out.2.below hb
  have B2 := S1.out.1.trans (hb.mono S1.out.1.size)
  have H3 := hid (HA.out u2 a2 c2 B2 hA2)
  have S2 := (Aside.intro (And.intro B2 Z2))
  clear hb hN hA2 Z2 B2 S1 H2
  go_wp2_with fail
  refine (Calls.mono H3.out) ?_
  rintro r u3 ⟨rfl, hb⟩
  have Z3 := S2.out.2.below hb
  have B3 := S2.out.1.trans (hb.mono S2.out.1.size)
  have S3 := (Aside.intro (And.intro B3 Z3))
  obtain ⟨p0, p1, p2⟩ := Z3.facts
  have H4 := hid (HH.out u3 B3)
  clear hb Z3 B3 S2 H3
  by_cases hz : z = 0
  · subst hz
    obtain rfl : k = R := by rw [← hR]; unfold nbyD; rw [if_pos rfl]
    clear hR
    go_wp2_with fail
    go_ret
    exact ⟨rfl, S3.out.1⟩
  · have hz' : (z == 0) = false := by simpa using hz
    have hR2 : (if outS mode k hv n then k + 1 else k) = R := by rw [← hR]; unfold nbyD; rw [if_neg hz]
    clear hR hz
    go_wp2_with fail
    clear p0 p1 p2
    refine (Calls.mono H4.out) ?_
    rintro r u4 ⟨rfl, hb⟩
    have B4 := Aside.intro (S3.out.1.trans (hb.mono S3.out.1.size))
    clear hb S3 H4 hz'
    have hc : mode = 0 ∨ mode = 1 ∨ mode = 2 ∨ mode = 3 ∨ mode = 4 := by omega
    clear hm0 hm4
    rcases hc with rfl | rfl | rfl | rfl | rfl
    · rcases hv3 with rfl | rfl | rfl
      · have := Aside.intro hR2
        clear hR2
        go_wp2
        go_ret
        exact ⟨by rw [← this.out]; simp [outS], B4.out⟩
      · by_cases hp : k % 2 = 1
        · have hp' : (k : Int) % 2 = 1 := by omega
          have := Aside.intro hR2
          clear hR2
          go_wp2
          go_ret
          exact ⟨by rw [← this.out]; simp [outS, hp], B4.out⟩
        · have hp' : (k : Int) % 2 = 0 := by omega
          have := Aside.intro hR2
          clear hR2
          go_wp2
          go_ret
          exact ⟨by rw [← this.out]; simp [outS, hp], B4.out⟩
      · have := Aside.intro hR2
        clear hR2
        go_wp2
        go_ret
        exact ⟨by rw [← this.out]; simp [outS], B4.out⟩
    · have := Aside.intro hR2
      clear hR2
      go_wp2
      go_ret
      exact ⟨by rw [← this.out]; simp [outS], B4.out⟩
    · cases n
      all_goals (
        have := Aside.intro hR2
        clear hR2
        go_wp2
        go_ret
        exact ⟨by rw [← this.out]; simp [outS], B4.out⟩)
    · cases n
      all_goals (
        have := Aside.intro hR2
        clear hR2
        go_wp2
        go_ret
        exact ⟨by rw [← this.out]; simp [outS], B4.out⟩)
    · rcases hv3 with rfl | rfl | rfl
      all_goals (
        have := Aside.intro hR2
        clear hR2
        go_wp2
        go_ret
        exact ⟨by rw [← this.out]; simp [outS], B4.out⟩)
end Go.Proofs.Ythilnddhehbjiab

/- DyadRounds: the document's Round, Round32. -/
namespace Go.Proofs.Ythilnddhehbjiab
open Go.RowKit
attribute [local go_sem] B.f64frombits
set_option linter.unusedVariables false
set_option maxRecDepth 20000
set_option linter.unusedSimpArgs false

set_option maxHeartbeats 4000000 in
theorem rRound_lo {w : World} {a : Option Addr} {l c : Nat} (n : Bool) (e mode : Int) (hm : mode < 0) :
    Calls Try.prog 66 #[.agg #[.bool n, .slice a l c, .int .i64 e], .int .i64 mode] w fun r w' => r = .returned (.tuple #[.float .f64 0, .int .i64 1]) ∧ Below w.heap.size w w' := by
  obtain ⟨W1, hW1⟩ : ∃ W, W = w.alloc (.cells #[.bool n, .slice a l c, .int .i64 e] 43) := ⟨_, rfl⟩
  have D0 : Dk W1 w.heap.size n (.slice a l c) e := by rw [hW1]; exact Dk.new _ _ _ _
  have hB : Below w.heap.size w W1 := by rw [hW1]; exact below_alloc w _
  have S0 := Aside.intro hB
  clear D0 hB
  go_enter Try.func66, Try.ntmps66
  go_upto_region 1 with fail
  rw [← hW1]
  clear hW1
  go_wp2
  go_ret2
  exact ⟨rfl, S0.out⟩

set_option maxHeartbeats 4000000 in
theorem rRound_hi {w : World} {a : Option Addr} {l c : Nat} (n : Bool) (e mode : Int) (hm0 : decide (mode < 0) = false) (hm : 4 < mode) :
    Calls Try.prog 66 #[.agg #[.bool n, .slice a l c, .int .i64 e], .int .i64 mode] w fun r w' => r = .returned (.tuple #[.float .f64 0, .int .i64 1]) ∧ Below w.heap.size w w' := by
  obtain ⟨W1, hW1⟩ : ∃ W, W = w.alloc (.cells #[.bool n, .slice a l c, .int .i64 e] 43) := ⟨_, rfl⟩
  have D0 : Dk W1 w.heap.size n (.slice a l c) e := by rw [hW1]; exact Dk.new _ _ _ _
  have hB : Below w.heap.size w W1 := by rw [hW1]; exact below_alloc w _
  have S0 := Aside.intro hB
  clear D0 hB
  go_enter Try.func66, Try.ntmps66
  go_upto_region 1 with fail
  rw [← hW1]
  clear hW1
  go_wp2
  go_ret2
  exact ⟨rfl, S0.out⟩

set_option maxHeartbeats 4000000 in
theorem rRound_no {w : World} {a : Option Addr} {l c : Nat} (n : Bool) (e mode : Int) (nD : Bool) (eD : Int) (XD : Nat) (hm0 : 0 ≤ mode) (hm4 : mode ≤ 4) (lX : (ws XD).length ≤ 8192)
    (HM : Hid (∀ (u : World), Below w.heap.size w u → Calls Try.prog 53 #[.agg #[.bool n, .slice a l c, .int .i64 e]] u fun r w' => (∃ v, r = .returned (.tuple #[.agg #[.bool nD, v, .int .i64 eD], .bool false]) ∧ Nt u.heap.size w' v XD) ∧ Below u.heap.size u w')) :
    Calls Try.prog 66 #[.agg #[.bool n, .slice a l c, .int .i64 e], .int .i64 mode] w fun r w' => r = .returned (.tuple #[.float .f64 0, .int .i64 2]) ∧ Below w.heap.size w w' := by
  obtain ⟨W1, hW1⟩ : ∃ W, W = w.alloc (.cells #[.bool n, .slice a l c, .int .i64 e] 43) := ⟨_, rfl⟩
  have D0 : Dk W1 w.heap.size n (.slice a l c) e := by rw [hW1]; exact Dk.new _ _ _ _
  have hB : Below w.heap.size w W1 := by rw [hW1]; exact below_alloc w _
  obtain ⟨p0, p1, p2, pf0, pf1, pf2⟩ := D0.facts
  have H1 := hid (HM.out W1 hB)
  have S0 := Aside.intro hB
  have hm1 : decide (mode < 0) = false := decide_eq_false (by omega)
  have hm2 : decide (4 < mode) = false := decide_eq_false (by omega)
  clear D0 hB
  go_enter Try.func66, Try.ntmps66
  go_upto_region 1 with fail
  rw [← hW1]
  clear hW1
  go_wp2_with fail
  clear p0 p1 p2 pf0 pf1 pf2
  refine (Calls.mono H1.out) ?_
  rintro r u1 ⟨⟨v, rfl, hN⟩, hb⟩
  obtain ⟨a1, c1, rfl, _⟩ := hN.arg (by omega)
  obtain ⟨U1, hU1⟩ : ∃ U, U = u1.alloc (.cells #[.bool nD, .slice a1 (ws XD).length c1, .int .i64 eD] 43) := ⟨_, rfl⟩
  have hA : Below u1.heap.size u1 U1 := by rw [hU1]; exact below_alloc _ _
  have DX : Dk U1 u1.heap.size nD (.slice a1 (ws XD).length c1) eD := by rw [hU1]; exact Dk.new _ _ _ _
  have B1 := S0.out.trans (hb.mono S0.out.size)
  have BU := B1.trans (hA.mono B1.size)
  have NX := hN.below hA
  have S1 := (Aside.intro (And.intro BU (And.intro DX NX)))
  clear hb hN hA DX B1 BU NX S0 H1
  go_upto_region 4 with fail
  rw [← hU1]
  clear hU1
  go_wp2
  go_ret2
  exact ⟨rfl, S1.out.1⟩

set_option maxHeartbeats 4000000 in
theorem rRound_p {w : World} {a : Option Addr} {l c : Nat} (n : Bool) (e mode : Int) (eD : Int) (XD R : Nat) (kk k2 : Int) (hm0 : 0 ≤ mode) (hm4 : mode ≤ 4) (lX : (ws XD).length ≤ 8192) (hk0 : 0 ≤ kk) (hR : kk.toNat = R)
    (HM : Hid (∀ (u : World), Below w.heap.size w u → Calls Try.prog 53 #[.agg #[.bool n, .slice a l c, .int .i64 e]] u fun r w' => (∃ v, r = .returned (.tuple #[.agg #[.bool false, v, .int .i64 eD], .bool true]) ∧ Nt u.heap.size w' v XD) ∧ Below u.heap.size u w'))
    (HO : Hid (∀ (u : World), Calls Try.prog 67 #[] u fun r w' => r = .returned (.agg #[.int .i64 53, .int .i64 (-1074), .int .u64 9218868437227405312]) ∧ Below u.heap.size u w'))
    (HB : Hid (∀ (u : World) (p : Option Addr) (s : Nat), Arg u p (ws XD).length s (ws XD) → Calls Try.prog 77 #[.agg #[.int .i64 53, .int .i64 (-1074), .int .u64 9218868437227405312], .bool false, .slice p (ws XD).length s, .int .i64 eD, .int .i64 mode] u fun r w' => r = .returned (.int .u64 kk) ∧ Below u.heap.size u w')) :
    Calls Try.prog 66 #[.agg #[.bool n, .slice a l c, .int .i64 e], .int .i64 mode] w fun r w' => r = .returned (.tuple #[.float .f64 R, .int .i64 0]) ∧ Below w.heap.size w w' := by
  obtain ⟨W1, hW1⟩ : ∃ W, W = w.alloc (.cells #[.bool n, .slice a l c, .int .i64 e] 43) := ⟨_, rfl⟩
  have D0 : Dk W1 w.heap.size n (.slice a l c) e := by rw [hW1]; exact Dk.new _ _ _ _
  have hB : Below w.heap.size w W1 := by rw [hW1]; exact below_alloc w _
  obtain ⟨p0, p1, p2, pf0, pf1, pf2⟩ := D0.facts
  have H1 := hid (HM.out W1 hB)
  have S0 := Aside.intro hB
  have hm1 : decide (mode < 0) = false := decide_eq_false (by omega)
  have hm2 : decide (4 < mode) = false := decide_eq_false (by omega)
  clear D0 hB
  go_enter Try.func66, Try.ntmps66
  go_upto_region 1 with fail
  rw [← hW1]
  clear hW1
  go_wp2_with fail
  clear p0 p1 p2 pf0 pf1 pf2
  refine (Calls.mono H1.out) ?_
  rintro r u1 ⟨⟨v, rfl, hN⟩, hb⟩
  obtain ⟨a1, c1, rfl, _⟩ := hN.arg (by omega)
  obtain ⟨U1, hU1⟩ : ∃ U, U = u1.alloc (.cells #[.bool false, .slice a1 (ws XD).length c1, .int .i64 eD] 43) := ⟨_, rfl⟩
  have hA : Below u1.heap.size u1 U1 := by rw [hU1]; exact below_alloc _ _
  have DX : Dk U1 u1.heap.size false (.slice a1 (ws XD).length c1) eD := by rw [hU1]; exact Dk.new _ _ _ _
  have B1 := S0.out.trans (hb.mono S0.out.size)
  have BU := B1.trans (hA.mono B1.size)
  have NX := hN.below hA
  have S1 := (Aside.intro (And.intro BU (And.intro DX NX)))
  clear hb hN hA DX B1 BU NX S0 H1
  go_upto_region 4 with fail
  rw [← hU1]
  clear hU1
  obtain ⟨p0, p1, p2, pf0, pf1, pf2⟩ := S1.out.2.1.facts
  go_upto_region 6 with fail
  go_cut [8] from 22 to 30 (fun kv wx => kv = .int .u64 kk ∧ Aside (Below w.heap.size w wx ∧ Dk wx u1.heap.size false (.slice a1 (ws XD).length c1) eD))
  case first =>
    have O1 := hid (HO.out U1)
    have O2 := hid (HO.out U1.drew)
    go_region_held3 (fun w' => w'.cell? ⟨u1.heap.size, 0, none⟩ = some (.bool false) ∧ w'.cell? ⟨u1.heap.size, 1, none⟩ = some (.slice a1 (ws XD).length c1) ∧ w'.cell? ⟨u1.heap.size, 2, none⟩ = some (.int .i64 eD)) (go_keep) (first
      | (go_at_call 67
         first | with_reducible refine O1.out.mono ?_ | with_reducible refine O2.out.mono ?_
         rintro r u3 ⟨rfl, hb⟩
         have hb3 : Below U1.heap.size U1 u3 := by first | exact hb | exact ((Below.refl _ U1).drew).trans (hb.mono (Nat.le_refl _))
         have KD := S1.out.2.1.below hb3
         have KN := S1.out.2.2.below hb3
         have KB := S1.out.1.trans (hb3.mono S1.out.1.size)
         have HB3 := hid (HB.out u3 a1 c1 (KN.arg' (by omega)).2)
         obtain ⟨q0, q1, q2, qf0, qf1, qf2⟩ := KD.facts
         have S9 := (Aside.intro (And.intro KB KD))
         clear hb hb3 KD KN KB)
      | (go_at_call 77
         with_reducible refine HB3.out.mono ?_
         rintro r u4 ⟨rfl, hb⟩
         have LD := S9.out.2.below hb
         obtain ⟨t0, t1, t2, tf0, tf1, tf2⟩ := LD.facts
         have LB := S9.out.1.trans (hb.mono S9.out.1.size)
         have S10 := (Aside.intro (And.intro LB LD))
         clear hb LD LB))
    all_goals (
      go_wp2
      go_meet
      case rel => exact ⟨rfl, S10⟩)
  case rest =>
    obtain ⟨rfl, S2⟩ := hcut
    clear p0 p1 p2 pf0 pf1 pf2
    obtain ⟨p0, p1, p2, pf0, pf1, pf2⟩ := S2.out.2.facts
    go_wp2
    go_ret2
    exact ⟨rfl, S2.out.1⟩

set_option maxHeartbeats 4000000 in
theorem rRound_n {w : World} {a : Option Addr} {l c : Nat} (n : Bool) (e mode : Int) (eD : Int) (XD R : Nat) (kk k2 : Int) (hm0 : 0 ≤ mode) (hm4 : mode ≤ 4) (lX : (ws XD).length ≤ 8192) (hk0 : 0 ≤ kk) (e1 : IntKind.u64.wrap (kk + 9223372036854775808) = k2) (hR : k2.toNat = R)
    (HM : Hid (∀ (u : World), Below w.heap.size w u → Calls Try.prog 53 #[.agg #[.bool n, .slice a l c, .int .i64 e]] u fun r w' => (∃ v, r = .returned (.tuple #[.agg #[.bool true, v, .int .i64 eD], .bool true]) ∧ Nt u.heap.size w' v XD) ∧ Below u.heap.size u w'))
    (HO : Hid (∀ (u : World), Calls Try.prog 67 #[] u fun r w' => r = .returned (.agg #[.int .i64 53, .int .i64 (-1074), .int .u64 9218868437227405312]) ∧ Below u.heap.size u w'))
    (HB : Hid (∀ (u : World) (p : Option Addr) (s : Nat), Arg u p (ws XD).length s (ws XD) → Calls Try.prog 77 #[.agg #[.int .i64 53, .int .i64 (-1074), .int .u64 9218868437227405312], .bool true, .slice p (ws XD).length s, .int .i64 eD, .int .i64 mode] u fun r w' => r = .returned (.int .u64 kk) ∧ Below u.heap.size u w')) :
    Calls Try.prog 66 #[.agg #[.bool n, .slice a l c, .int .i64 e], .int .i64 mode] w fun r w' => r = .returned (.tuple #[.float .f64 R, .int .i64 0]) ∧ Below w.heap.size w w' := by
  obtain ⟨W1, hW1⟩ : ∃ W, W = w.alloc (.cells #[.bool n, .slice a l c, .int .i64 e] 43) := ⟨_, rfl⟩
  have D0 : Dk W1 w.heap.size n (.slice a l c) e := by rw [hW1]; exact Dk.new _ _ _ _
  have hB : Below w.heap.size w W1 := by rw [hW1]; exact below_alloc w _
  obtain ⟨p0, p1, p2, pf0, pf1, pf2⟩ := D0.facts
  have H1 := hid (HM.out W1 hB)
  have S0 := Aside.intro hB
  have hm1 : decide (mode < 0) = false := decide_eq_false (by omega)
  have hm2 : decide (4 < mode) = false := decide_eq_false (by omega)
  clear D0 hB
  go_enter Try.func66, Try.ntmps66
  go_upto_region 1 with fail
  rw [← hW1]
  clear hW1
  go_wp2_with fail
  clear p0 p1 p2 pf0 pf1 pf2
  refine (Calls.mono H1.out) ?_
  rintro r u1 ⟨⟨v, rfl, hN⟩, hb⟩
  obtain ⟨a1, c1, rfl, _⟩ := hN.arg (by omega)
  obtain ⟨U1, hU1⟩ : ∃ U, U = u1.alloc (.cells #[.bool true, .slice a1 (ws XD).length c1, .int .i64 eD] 43) := ⟨_, rfl⟩
  have hA : Below u1.heap.size u1 U1 := by rw [hU1]; exact below_alloc _ _
  have DX : Dk U1 u1.heap.size true (.slice a1 (ws XD).length c1) eD := by rw [hU1]; exact Dk.new _ _ _ _
  have B1 := S0.out.trans (hb.mono S0.out.size)
  have BU := B1.trans (hA.mono B1.size)
  have NX := hN.below hA
  have S1 := (Aside.intro (And.intro BU (And.intro DX NX)))
  clear hb hN hA DX B1 BU NX S0 H1
  go_upto_region 4 with fail
  rw [← hU1]
  clear hU1
  obtain ⟨p0, p1, p2, pf0, pf1, pf2⟩ := S1.out.2.1.facts
  go_upto_region 6 with fail
  go_cut [8] from 22 to 30 (fun kv wx => kv = .int .u64 kk ∧ Aside (Below w.heap.size w wx ∧ Dk wx u1.heap.size true (.slice a1 (ws XD).length c1) eD))
  case first =>
    have O1 := hid (HO.out U1)
    have O2 := hid (HO.out U1.drew)
    go_region_held3 (fun w' => w'.cell? ⟨u1.heap.size, 0, none⟩ = some (.bool true) ∧ w'.cell? ⟨u1.heap.size, 1, none⟩ = some (.slice a1 (ws XD).length c1) ∧ w'.cell? ⟨u1.heap.size, 2, none⟩ = some (.int .i64 eD)) (go_keep) (first
      | (go_at_call 67
         first | with_reducible refine O1.out.mono ?_ | with_reducible refine O2.out.mono ?_
         rintro r u3 ⟨rfl, hb⟩
         have hb3 : Below U1.heap.size U1 u3 := by first | exact hb | exact ((Below.refl _ U1).drew).trans (hb.mono (Nat.le_refl _))
         have KD := S1.out.2.1.below hb3
         have KN := S1.out.2.2.below hb3
         have KB := S1.out.1.trans (hb3.mono S1.out.1.size)
         have HB3 := hid (HB.out u3 a1 c1 (KN.arg' (by omega)).2)
         obtain ⟨q0, q1, q2, qf0, qf1, qf2⟩ := KD.facts
         have S9 := (Aside.intro (And.intro KB KD))
         clear hb hb3 KD KN KB)
      | (go_at_call 77
         with_reducible refine HB3.out.mono ?_
         rintro r u4 ⟨rfl, hb⟩
         have LD := S9.out.2.below hb
         obtain ⟨t0, t1, t2, tf0, tf1, tf2⟩ := LD.facts
         have LB := S9.out.1.trans (hb.mono S9.out.1.size)
         have S10 := (Aside.intro (And.intro LB LD))
         clear hb LD LB))
    all_goals (
      go_wp2
      go_meet
      case rel => exact ⟨rfl, S10⟩)
  case rest =>
    obtain ⟨rfl, S2⟩ := hcut
    clear p0 p1 p2 pf0 pf1 pf2
    obtain ⟨p0, p1, p2, pf0, pf1, pf2⟩ := S2.out.2.facts
    go_wp2
    go_ret2
    exact ⟨rfl, S2.out.1⟩

end Go.Proofs.Ythilnddhehbjiab

