/- The law's halved. -/
import Derived.Test.YthilnddhehbjiabJ24x
import Derived.BigQuiet
import Derived.Deep.CutRange
import Derived.Deep.RegionHeld3
import Derived.Test.YthilnddhehbjiabJ26
import Derived.Test.YthilnddhehbjiabJ37x
namespace Go.Proofs.Ythilnddhehbjiab
open Go.RowKit J
set_option linter.unusedVariables false
set_option maxRecDepth 20000
set_option linter.unusedSimpArgs false
attribute [local go_sem] st_float

set_option maxHeartbeats 4000000 in
theorem halved_off (fa : Nat) (nX : Bool) (aX : Option Addr) (XX cX : Nat) (eX : Int) (w : World) (AX : Arg w aX (ws XX).length cX (ws XX)) (lX : (ws XX).length ≤ 8192)
    (H1 : Hid (∀ u a c, Arg u a (ws XX).length c (ws XX) → Calls Try.prog 47 #[.agg #[.bool nX, .slice a (ws XX).length c, .int .i64 eX], .int .i64 995] u fun r w' => r = .returned (.bool false) ∧ Below u.heap.size u w')) :
    Calls Try.prog 31 #[.float .f64 fa, .agg #[.bool nX, .slice aX (ws XX).length cX, .int .i64 eX]] w fun r w' => r = .returned (.bool true) ∧ Below w.heap.size w w' := by
  go_enter Try.func31, Try.ntmps31
  go_wp2_with fail
  refine (Calls.mono (H1.out _ _ _ (AX.below (by repeat (first | exact Below.refl _ _ | assumption | exact Nat.le_refl _ | (simp only [World.size_alloc, World.size_setCell]; omega) | omega | refine Below.alloc ?_ ?_ _ | refine Below.setCell ?_ ?_ _ | refine Below.drew ?_))))) ?_
  rintro r w1 ⟨rfl, hb1⟩
  clear H1
  have hy1 : w.heap.size ≤ w1.heap.size := by
    have := hb1.size
    try simp only [World.size_alloc, World.size_setCell] at this
    omega
  have hz1_0 : w.heap.size < w1.heap.size := by
    have := hb1.size
    try simp only [World.size_alloc, World.size_setCell] at this
    omega
  have B1 := Aside.intro (Below.trans (B := w.heap.size) (a := w) (by repeat (first | exact Below.refl _ _ | assumption | exact Nat.le_refl _ | (simp only [World.size_alloc, World.size_setCell]; omega) | omega | refine Below.alloc ?_ ?_ _ | refine Below.setCell ?_ ?_ _ | refine Below.drew ?_)) (hb1.mono (by first | omega | (simp only [World.size_alloc, World.size_setCell]; omega))))
  have S1 := B1
  replace AX := AX.below B1.out
  obtain ⟨hc1, hf1⟩ := bcell hb1
  clear hb1 B1
  have c1_0_0 : w1.cell? ⟨w.heap.size, 0, none⟩ = some (.bool nX) := by
    rw [hc1 _ _ (by first | omega | (simp only [World.size_alloc, World.size_setCell]; omega))]
    first | assumption | (simp [go_sem]; done)
  have f1_0_0 : w1.frozen? ⟨w.heap.size, 0, none⟩ = false := by
    rw [hf1 _ _ (by first | omega | (simp only [World.size_alloc, World.size_setCell]; omega))]
    first | assumption | (simp [go_sem]; done)
  have c1_0_1 : w1.cell? ⟨w.heap.size, 1, none⟩ = some (.slice aX (ws XX).length cX) := by
    rw [hc1 _ _ (by first | omega | (simp only [World.size_alloc, World.size_setCell]; omega))]
    first | assumption | (simp [go_sem]; done)
  have f1_0_1 : w1.frozen? ⟨w.heap.size, 1, none⟩ = false := by
    rw [hf1 _ _ (by first | omega | (simp only [World.size_alloc, World.size_setCell]; omega))]
    first | assumption | (simp [go_sem]; done)
  have c1_0_2 : w1.cell? ⟨w.heap.size, 2, none⟩ = some (.int .i64 eX) := by
    rw [hc1 _ _ (by first | omega | (simp only [World.size_alloc, World.size_setCell]; omega))]
    first | assumption | (simp [go_sem]; done)
  have f1_0_2 : w1.frozen? ⟨w.heap.size, 2, none⟩ = false := by
    rw [hf1 _ _ (by first | omega | (simp only [World.size_alloc, World.size_setCell]; omega))]
    first | assumption | (simp [go_sem]; done)
  clear hc1 hf1 
  go_wp2
  have SS := S1.out
  exact bodyPost_ret (v := .bool true) (by simp [results, Try.results31, go_sem, c1_0_0, f1_0_0, c1_0_1, f1_0_1, c1_0_2, f1_0_2, hz1_0]) rfl ⟨rfl, (by repeat (first | exact Below.refl _ _ | assumption | exact Nat.le_refl _ | (simp only [World.size_alloc, World.size_setCell]; omega) | omega | refine Below.alloc ?_ ?_ _ | refine Below.setCell ?_ ?_ _ | refine Below.drew ?_))⟩
set_option maxHeartbeats 8000000 in
theorem halved_on (fa : Nat) (nX : Bool) (aX : Option Addr) (XX cX : Nat) (eX : Int) (w : World) (AX : Arg w aX (ws XX).length cX (ws XX)) (lX : (ws XX).length ≤ 8192) (nP nQ : Bool) (XP XQ : Nat) (eP eQ bP bQ : Int) (s1 s2 : Nat) (lP : (ws XP).length ≤ 8192) (lQ : (ws XQ).length ≤ 8192) (hP : decide (bP ≤ 26) = true) (hQ : decide (bQ ≤ 26) = true)
    (H1 : Hid (∀ u a c, Arg u a (ws XX).length c (ws XX) → Calls Try.prog 47 #[.agg #[.bool nX, .slice a (ws XX).length c, .int .i64 eX], .int .i64 995] u fun r w' => r = .returned (.bool true) ∧ Below u.heap.size u w'))
    (HH : Hid (∀ u, Calls Try.prog 13 #[.float .f64 fa] u fun r w' => r = .returned (.agg #[.float .f64 s1, .float .f64 s2]) ∧ Below u.heap.size u w'))
    (HJ : Hid (∀ u a c, Arg u a (ws XX).length c (ws XX) → Calls Try.prog 48 #[.agg #[.float .f64 s1, .float .f64 s2], .agg #[.bool nX, .slice a (ws XX).length c, .int .i64 eX]] u fun r w' => r = .returned (.bool true) ∧ Below u.heap.size u w'))
    (HP : Hid (∀ u, Calls Try.prog 29 #[.float .f64 s1] u fun r w' => (∃ v, r = .returned (.tuple #[.agg #[.bool nP, v, .int .i64 eP], .bool true]) ∧ Nt u.heap.size w' v XP) ∧ Below u.heap.size u w'))
    (HQ : Hid (∀ u, Calls Try.prog 29 #[.float .f64 s2] u fun r w' => (∃ v, r = .returned (.tuple #[.agg #[.bool nQ, v, .int .i64 eQ], .bool true]) ∧ Nt u.heap.size w' v XQ) ∧ Below u.heap.size u w'))
    (HL : Hid (∀ u a c, Arg u a (ws XP).length c (ws XP) → Calls Try.prog 51 #[.slice a (ws XP).length c] u fun r w' => r = .returned (.int .i64 bP) ∧ w' = u))
    (HN : Hid (∀ u a c, Arg u a (ws XQ).length c (ws XQ) → Calls Try.prog 51 #[.slice a (ws XQ).length c] u fun r w' => r = .returned (.int .i64 bQ) ∧ w' = u)) :
    Calls Try.prog 31 #[.float .f64 fa, .agg #[.bool nX, .slice aX (ws XX).length cX, .int .i64 eX]] w fun r w' => r = .returned (.bool true) ∧ Below w.heap.size w w' := by
  go_enter Try.func31, Try.ntmps31
  go_wp2_with fail
  refine (Calls.mono (H1.out _ _ _ (AX.below (by repeat (first | exact Below.refl _ _ | assumption | exact Nat.le_refl _ | (simp only [World.size_alloc, World.size_setCell]; omega) | omega | refine Below.alloc ?_ ?_ _ | refine Below.setCell ?_ ?_ _ | refine Below.drew ?_))))) ?_
  rintro r w1 ⟨rfl, hb1⟩
  clear H1
  have hy1 : w.heap.size ≤ w1.heap.size := by
    have := hb1.size
    try simp only [World.size_alloc, World.size_setCell] at this
    omega
  have hz1_0 : w.heap.size < w1.heap.size := by
    have := hb1.size
    try simp only [World.size_alloc, World.size_setCell] at this
    omega
  have B1 := Aside.intro (Below.trans (B := w.heap.size) (a := w) (by repeat (first | exact Below.refl _ _ | assumption | exact Nat.le_refl _ | (simp only [World.size_alloc, World.size_setCell]; omega) | omega | refine Below.alloc ?_ ?_ _ | refine Below.setCell ?_ ?_ _ | refine Below.drew ?_)) (hb1.mono (by first | omega | (simp only [World.size_alloc, World.size_setCell]; omega))))
  have S1 := B1
  replace AX := AX.below B1.out
  obtain ⟨hc1, hf1⟩ := bcell hb1
  clear hb1 B1
  have c1_0_0 : w1.cell? ⟨w.heap.size, 0, none⟩ = some (.bool nX) := by
    rw [hc1 _ _ (by first | omega | (simp only [World.size_alloc, World.size_setCell]; omega))]
    first | assumption | (simp [go_sem]; done)
  have f1_0_0 : w1.frozen? ⟨w.heap.size, 0, none⟩ = false := by
    rw [hf1 _ _ (by first | omega | (simp only [World.size_alloc, World.size_setCell]; omega))]
    first | assumption | (simp [go_sem]; done)
  have c1_0_1 : w1.cell? ⟨w.heap.size, 1, none⟩ = some (.slice aX (ws XX).length cX) := by
    rw [hc1 _ _ (by first | omega | (simp only [World.size_alloc, World.size_setCell]; omega))]
    first | assumption | (simp [go_sem]; done)
  have f1_0_1 : w1.frozen? ⟨w.heap.size, 1, none⟩ = false := by
    rw [hf1 _ _ (by first | omega | (simp only [World.size_alloc, World.size_setCell]; omega))]
    first | assumption | (simp [go_sem]; done)
  have c1_0_2 : w1.cell? ⟨w.heap.size, 2, none⟩ = some (.int .i64 eX) := by
    rw [hc1 _ _ (by first | omega | (simp only [World.size_alloc, World.size_setCell]; omega))]
    first | assumption | (simp [go_sem]; done)
  have f1_0_2 : w1.frozen? ⟨w.heap.size, 2, none⟩ = false := by
    rw [hf1 _ _ (by first | omega | (simp only [World.size_alloc, World.size_setCell]; omega))]
    first | assumption | (simp [go_sem]; done)
  clear hc1 hf1 
  go_wp2_with fail
  refine (Calls.mono (HH.out _)) ?_
  rintro r w2 ⟨rfl, hb2⟩
  clear HH
  have hy2 : w1.heap.size ≤ w2.heap.size := by
    have := hb2.size
    try simp only [World.size_alloc, World.size_setCell] at this
    omega
  have hz2_0 : w.heap.size < w2.heap.size := by
    have := hb2.size
    try simp only [World.size_alloc, World.size_setCell] at this
    omega
  have B2 := Aside.intro (Below.trans (B := w1.heap.size) (a := w1) (by repeat (first | exact Below.refl _ _ | assumption | exact Nat.le_refl _ | (simp only [World.size_alloc, World.size_setCell]; omega) | omega | refine Below.alloc ?_ ?_ _ | refine Below.setCell ?_ ?_ _ | refine Below.drew ?_)) (hb2.mono (by first | omega | (simp only [World.size_alloc, World.size_setCell]; omega))))
  have S2 := Aside.intro (S1.out.trans (B2.out.mono S1.out.size))
  clear S1
  replace AX := AX.below B2.out
  obtain ⟨hc2, hf2⟩ := bcell hb2
  clear hb2 B2
  have c2_0_0 : w2.cell? ⟨w.heap.size, 0, none⟩ = some (.bool nX) := by
    rw [hc2 _ _ (by first | omega | (simp only [World.size_alloc, World.size_setCell]; omega))]
    first | assumption | (simp [go_sem, c1_0_0, f1_0_0, c1_0_1, f1_0_1, c1_0_2, f1_0_2, hz1_0]; done)
  have f2_0_0 : w2.frozen? ⟨w.heap.size, 0, none⟩ = false := by
    rw [hf2 _ _ (by first | omega | (simp only [World.size_alloc, World.size_setCell]; omega))]
    first | assumption | (simp [go_sem, c1_0_0, f1_0_0, c1_0_1, f1_0_1, c1_0_2, f1_0_2, hz1_0]; done)
  have c2_0_1 : w2.cell? ⟨w.heap.size, 1, none⟩ = some (.slice aX (ws XX).length cX) := by
    rw [hc2 _ _ (by first | omega | (simp only [World.size_alloc, World.size_setCell]; omega))]
    first | assumption | (simp [go_sem, c1_0_0, f1_0_0, c1_0_1, f1_0_1, c1_0_2, f1_0_2, hz1_0]; done)
  have f2_0_1 : w2.frozen? ⟨w.heap.size, 1, none⟩ = false := by
    rw [hf2 _ _ (by first | omega | (simp only [World.size_alloc, World.size_setCell]; omega))]
    first | assumption | (simp [go_sem, c1_0_0, f1_0_0, c1_0_1, f1_0_1, c1_0_2, f1_0_2, hz1_0]; done)
  have c2_0_2 : w2.cell? ⟨w.heap.size, 2, none⟩ = some (.int .i64 eX) := by
    rw [hc2 _ _ (by first | omega | (simp only [World.size_alloc, World.size_setCell]; omega))]
    first | assumption | (simp [go_sem, c1_0_0, f1_0_0, c1_0_1, f1_0_1, c1_0_2, f1_0_2, hz1_0]; done)
  have f2_0_2 : w2.frozen? ⟨w.heap.size, 2, none⟩ = false := by
    rw [hf2 _ _ (by first | omega | (simp only [World.size_alloc, World.size_setCell]; omega))]
    first | assumption | (simp [go_sem, c1_0_0, f1_0_0, c1_0_1, f1_0_1, c1_0_2, f1_0_2, hz1_0]; done)
  clear hc2 hf2 c1_0_0 f1_0_0 c1_0_1 f1_0_1 c1_0_2 f1_0_2
  have ne0 : w.heap.size ≠ w2.heap.size := by omega
  go_wp2_with fail
  refine (Calls.mono (HJ.out _ _ _ (AX.below (by repeat (first | exact Below.refl _ _ | assumption | exact Nat.le_refl _ | (simp only [World.size_alloc, World.size_setCell]; omega) | omega | refine Below.alloc ?_ ?_ _ | refine Below.setCell ?_ ?_ _ | refine Below.drew ?_))))) ?_
  rintro r w3 ⟨rfl, hb3⟩
  clear HJ
  have hy3 : w2.heap.size ≤ w3.heap.size := by
    have := hb3.size
    try simp only [World.size_alloc, World.size_setCell] at this
    omega
  have hz3_0 : w.heap.size < w3.heap.size := by
    have := hb3.size
    try simp only [World.size_alloc, World.size_setCell] at this
    omega
  have hz3_1 : w2.heap.size < w3.heap.size := by
    have := hb3.size
    try simp only [World.size_alloc, World.size_setCell] at this
    omega
  have B3 := Aside.intro (Below.trans (B := w2.heap.size) (a := w2) (by repeat (first | exact Below.refl _ _ | assumption | exact Nat.le_refl _ | (simp only [World.size_alloc, World.size_setCell]; omega) | omega | refine Below.alloc ?_ ?_ _ | refine Below.setCell ?_ ?_ _ | refine Below.drew ?_)) (hb3.mono (by first | omega | (simp only [World.size_alloc, World.size_setCell]; omega))))
  have S3 := Aside.intro (S2.out.trans (B3.out.mono S2.out.size))
  clear S2
  replace AX := AX.below B3.out
  obtain ⟨hc3, hf3⟩ := bcell hb3
  clear hb3 B3
  have c3_0_0 : w3.cell? ⟨w.heap.size, 0, none⟩ = some (.bool nX) := by
    rw [hc3 _ _ (by first | omega | (simp only [World.size_alloc, World.size_setCell]; omega))]
    first | assumption | (simp [go_sem, c2_0_0, f2_0_0, c2_0_1, f2_0_1, c2_0_2, f2_0_2, hz2_0, ne0]; done)
  have f3_0_0 : w3.frozen? ⟨w.heap.size, 0, none⟩ = false := by
    rw [hf3 _ _ (by first | omega | (simp only [World.size_alloc, World.size_setCell]; omega))]
    first | assumption | (simp [go_sem, c2_0_0, f2_0_0, c2_0_1, f2_0_1, c2_0_2, f2_0_2, hz2_0, ne0]; done)
  have c3_0_1 : w3.cell? ⟨w.heap.size, 1, none⟩ = some (.slice aX (ws XX).length cX) := by
    rw [hc3 _ _ (by first | omega | (simp only [World.size_alloc, World.size_setCell]; omega))]
    first | assumption | (simp [go_sem, c2_0_0, f2_0_0, c2_0_1, f2_0_1, c2_0_2, f2_0_2, hz2_0, ne0]; done)
  have f3_0_1 : w3.frozen? ⟨w.heap.size, 1, none⟩ = false := by
    rw [hf3 _ _ (by first | omega | (simp only [World.size_alloc, World.size_setCell]; omega))]
    first | assumption | (simp [go_sem, c2_0_0, f2_0_0, c2_0_1, f2_0_1, c2_0_2, f2_0_2, hz2_0, ne0]; done)
  have c3_0_2 : w3.cell? ⟨w.heap.size, 2, none⟩ = some (.int .i64 eX) := by
    rw [hc3 _ _ (by first | omega | (simp only [World.size_alloc, World.size_setCell]; omega))]
    first | assumption | (simp [go_sem, c2_0_0, f2_0_0, c2_0_1, f2_0_1, c2_0_2, f2_0_2, hz2_0, ne0]; done)
  have f3_0_2 : w3.frozen? ⟨w.heap.size, 2, none⟩ = false := by
    rw [hf3 _ _ (by first | omega | (simp only [World.size_alloc, World.size_setCell]; omega))]
    first | assumption | (simp [go_sem, c2_0_0, f2_0_0, c2_0_1, f2_0_1, c2_0_2, f2_0_2, hz2_0, ne0]; done)
  have c3_1_0 : w3.cell? ⟨w2.heap.size, 0, none⟩ = some (.float .f64 s1) := by
    rw [hc3 _ _ (by first | omega | (simp only [World.size_alloc, World.size_setCell]; omega))]
    first | assumption | (simp [go_sem, c2_0_0, f2_0_0, c2_0_1, f2_0_1, c2_0_2, f2_0_2, hz2_0, ne0]; done)
  have f3_1_0 : w3.frozen? ⟨w2.heap.size, 0, none⟩ = false := by
    rw [hf3 _ _ (by first | omega | (simp only [World.size_alloc, World.size_setCell]; omega))]
    first | assumption | (simp [go_sem, c2_0_0, f2_0_0, c2_0_1, f2_0_1, c2_0_2, f2_0_2, hz2_0, ne0]; done)
  have c3_1_1 : w3.cell? ⟨w2.heap.size, 1, none⟩ = some (.float .f64 s2) := by
    rw [hc3 _ _ (by first | omega | (simp only [World.size_alloc, World.size_setCell]; omega))]
    first | assumption | (simp [go_sem, c2_0_0, f2_0_0, c2_0_1, f2_0_1, c2_0_2, f2_0_2, hz2_0, ne0]; done)
  have f3_1_1 : w3.frozen? ⟨w2.heap.size, 1, none⟩ = false := by
    rw [hf3 _ _ (by first | omega | (simp only [World.size_alloc, World.size_setCell]; omega))]
    first | assumption | (simp [go_sem, c2_0_0, f2_0_0, c2_0_1, f2_0_1, c2_0_2, f2_0_2, hz2_0, ne0]; done)
  clear hc3 hf3 c2_0_0 f2_0_0 c2_0_1 f2_0_1 c2_0_2 f2_0_2
  go_wp2_with fail
  refine (Calls.mono (HP.out _)) ?_
  rintro r w4 ⟨⟨v4, rfl, N4⟩, hb4⟩
  obtain ⟨aP, cP, rfl, AP⟩ := N4.arg (by omega)
  clear N4
  clear HP
  have hy4 : w3.heap.size ≤ w4.heap.size := by
    have := hb4.size
    try simp only [World.size_alloc, World.size_setCell] at this
    omega
  have hz4_0 : w.heap.size < w4.heap.size := by
    have := hb4.size
    try simp only [World.size_alloc, World.size_setCell] at this
    omega
  have hz4_1 : w2.heap.size < w4.heap.size := by
    have := hb4.size
    try simp only [World.size_alloc, World.size_setCell] at this
    omega
  have B4 := Aside.intro (Below.trans (B := w3.heap.size) (a := w3) (by repeat (first | exact Below.refl _ _ | assumption | exact Nat.le_refl _ | (simp only [World.size_alloc, World.size_setCell]; omega) | omega | refine Below.alloc ?_ ?_ _ | refine Below.setCell ?_ ?_ _ | refine Below.drew ?_)) (hb4.mono (by first | omega | (simp only [World.size_alloc, World.size_setCell]; omega))))
  have S4 := Aside.intro (S3.out.trans (B4.out.mono S3.out.size))
  clear S3
  replace AX := AX.below B4.out
  obtain ⟨hc4, hf4⟩ := bcell hb4
  clear hb4 B4
  have c4_0_0 : w4.cell? ⟨w.heap.size, 0, none⟩ = some (.bool nX) := by
    rw [hc4 _ _ (by first | omega | (simp only [World.size_alloc, World.size_setCell]; omega))]
    first | assumption | (simp [go_sem, c3_0_0, f3_0_0, c3_0_1, f3_0_1, c3_0_2, f3_0_2, c3_1_0, f3_1_0, c3_1_1, f3_1_1, hz3_0, hz3_1, ne0]; done)
  have f4_0_0 : w4.frozen? ⟨w.heap.size, 0, none⟩ = false := by
    rw [hf4 _ _ (by first | omega | (simp only [World.size_alloc, World.size_setCell]; omega))]
    first | assumption | (simp [go_sem, c3_0_0, f3_0_0, c3_0_1, f3_0_1, c3_0_2, f3_0_2, c3_1_0, f3_1_0, c3_1_1, f3_1_1, hz3_0, hz3_1, ne0]; done)
  have c4_0_1 : w4.cell? ⟨w.heap.size, 1, none⟩ = some (.slice aX (ws XX).length cX) := by
    rw [hc4 _ _ (by first | omega | (simp only [World.size_alloc, World.size_setCell]; omega))]
    first | assumption | (simp [go_sem, c3_0_0, f3_0_0, c3_0_1, f3_0_1, c3_0_2, f3_0_2, c3_1_0, f3_1_0, c3_1_1, f3_1_1, hz3_0, hz3_1, ne0]; done)
  have f4_0_1 : w4.frozen? ⟨w.heap.size, 1, none⟩ = false := by
    rw [hf4 _ _ (by first | omega | (simp only [World.size_alloc, World.size_setCell]; omega))]
    first | assumption | (simp [go_sem, c3_0_0, f3_0_0, c3_0_1, f3_0_1, c3_0_2, f3_0_2, c3_1_0, f3_1_0, c3_1_1, f3_1_1, hz3_0, hz3_1, ne0]; done)
  have c4_0_2 : w4.cell? ⟨w.heap.size, 2, none⟩ = some (.int .i64 eX) := by
    rw [hc4 _ _ (by first | omega | (simp only [World.size_alloc, World.size_setCell]; omega))]
    first | assumption | (simp [go_sem, c3_0_0, f3_0_0, c3_0_1, f3_0_1, c3_0_2, f3_0_2, c3_1_0, f3_1_0, c3_1_1, f3_1_1, hz3_0, hz3_1, ne0]; done)
  have f4_0_2 : w4.frozen? ⟨w.heap.size, 2, none⟩ = false := by
    rw [hf4 _ _ (by first | omega | (simp only [World.size_alloc, World.size_setCell]; omega))]
    first | assumption | (simp [go_sem, c3_0_0, f3_0_0, c3_0_1, f3_0_1, c3_0_2, f3_0_2, c3_1_0, f3_1_0, c3_1_1, f3_1_1, hz3_0, hz3_1, ne0]; done)
  have c4_1_0 : w4.cell? ⟨w2.heap.size, 0, none⟩ = some (.float .f64 s1) := by
    rw [hc4 _ _ (by first | omega | (simp only [World.size_alloc, World.size_setCell]; omega))]
    first | assumption | (simp [go_sem, c3_0_0, f3_0_0, c3_0_1, f3_0_1, c3_0_2, f3_0_2, c3_1_0, f3_1_0, c3_1_1, f3_1_1, hz3_0, hz3_1, ne0]; done)
  have f4_1_0 : w4.frozen? ⟨w2.heap.size, 0, none⟩ = false := by
    rw [hf4 _ _ (by first | omega | (simp only [World.size_alloc, World.size_setCell]; omega))]
    first | assumption | (simp [go_sem, c3_0_0, f3_0_0, c3_0_1, f3_0_1, c3_0_2, f3_0_2, c3_1_0, f3_1_0, c3_1_1, f3_1_1, hz3_0, hz3_1, ne0]; done)
  have c4_1_1 : w4.cell? ⟨w2.heap.size, 1, none⟩ = some (.float .f64 s2) := by
    rw [hc4 _ _ (by first | omega | (simp only [World.size_alloc, World.size_setCell]; omega))]
    first | assumption | (simp [go_sem, c3_0_0, f3_0_0, c3_0_1, f3_0_1, c3_0_2, f3_0_2, c3_1_0, f3_1_0, c3_1_1, f3_1_1, hz3_0, hz3_1, ne0]; done)
  have f4_1_1 : w4.frozen? ⟨w2.heap.size, 1, none⟩ = false := by
    rw [hf4 _ _ (by first | omega | (simp only [World.size_alloc, World.size_setCell]; omega))]
    first | assumption | (simp [go_sem, c3_0_0, f3_0_0, c3_0_1, f3_0_1, c3_0_2, f3_0_2, c3_1_0, f3_1_0, c3_1_1, f3_1_1, hz3_0, hz3_1, ne0]; done)
  clear hc4 hf4 c3_0_0 f3_0_0 c3_0_1 f3_0_1 c3_0_2 f3_0_2 c3_1_0 f3_1_0 c3_1_1 f3_1_1
  have ne1 : w.heap.size ≠ w4.heap.size := by omega
  have ne2 : w2.heap.size ≠ w4.heap.size := by omega
  go_wp2_with fail
  refine (Calls.mono (HQ.out _)) ?_
  rintro r w5 ⟨⟨v5, rfl, N5⟩, hb5⟩
  obtain ⟨aQ, cQ, rfl, AQ⟩ := N5.arg (by omega)
  clear N5
  clear HQ
  have hy5 : w4.heap.size ≤ w5.heap.size := by
    have := hb5.size
    try simp only [World.size_alloc, World.size_setCell] at this
    omega
  have hz5_0 : w.heap.size < w5.heap.size := by
    have := hb5.size
    try simp only [World.size_alloc, World.size_setCell] at this
    omega
  have hz5_1 : w2.heap.size < w5.heap.size := by
    have := hb5.size
    try simp only [World.size_alloc, World.size_setCell] at this
    omega
  have hz5_2 : w4.heap.size < w5.heap.size := by
    have := hb5.size
    try simp only [World.size_alloc, World.size_setCell] at this
    omega
  have B5 := Aside.intro (Below.trans (B := w4.heap.size) (a := w4) (by repeat (first | exact Below.refl _ _ | assumption | exact Nat.le_refl _ | (simp only [World.size_alloc, World.size_setCell]; omega) | omega | refine Below.alloc ?_ ?_ _ | refine Below.setCell ?_ ?_ _ | refine Below.drew ?_)) (hb5.mono (by first | omega | (simp only [World.size_alloc, World.size_setCell]; omega))))
  have S5 := Aside.intro (S4.out.trans (B5.out.mono S4.out.size))
  clear S4
  replace AX := AX.below B5.out
  replace AP := AP.below B5.out
  obtain ⟨hc5, hf5⟩ := bcell hb5
  clear hb5 B5
  have c5_0_0 : w5.cell? ⟨w.heap.size, 0, none⟩ = some (.bool nX) := by
    rw [hc5 _ _ (by first | omega | (simp only [World.size_alloc, World.size_setCell]; omega))]
    first | assumption | (simp [go_sem, c4_0_0, f4_0_0, c4_0_1, f4_0_1, c4_0_2, f4_0_2, c4_1_0, f4_1_0, c4_1_1, f4_1_1, hz4_0, hz4_1, ne0, ne1, ne2]; done)
  have f5_0_0 : w5.frozen? ⟨w.heap.size, 0, none⟩ = false := by
    rw [hf5 _ _ (by first | omega | (simp only [World.size_alloc, World.size_setCell]; omega))]
    first | assumption | (simp [go_sem, c4_0_0, f4_0_0, c4_0_1, f4_0_1, c4_0_2, f4_0_2, c4_1_0, f4_1_0, c4_1_1, f4_1_1, hz4_0, hz4_1, ne0, ne1, ne2]; done)
  have c5_0_1 : w5.cell? ⟨w.heap.size, 1, none⟩ = some (.slice aX (ws XX).length cX) := by
    rw [hc5 _ _ (by first | omega | (simp only [World.size_alloc, World.size_setCell]; omega))]
    first | assumption | (simp [go_sem, c4_0_0, f4_0_0, c4_0_1, f4_0_1, c4_0_2, f4_0_2, c4_1_0, f4_1_0, c4_1_1, f4_1_1, hz4_0, hz4_1, ne0, ne1, ne2]; done)
  have f5_0_1 : w5.frozen? ⟨w.heap.size, 1, none⟩ = false := by
    rw [hf5 _ _ (by first | omega | (simp only [World.size_alloc, World.size_setCell]; omega))]
    first | assumption | (simp [go_sem, c4_0_0, f4_0_0, c4_0_1, f4_0_1, c4_0_2, f4_0_2, c4_1_0, f4_1_0, c4_1_1, f4_1_1, hz4_0, hz4_1, ne0, ne1, ne2]; done)
  have c5_0_2 : w5.cell? ⟨w.heap.size, 2, none⟩ = some (.int .i64 eX) := by
    rw [hc5 _ _ (by first | omega | (simp only [World.size_alloc, World.size_setCell]; omega))]
    first | assumption | (simp [go_sem, c4_0_0, f4_0_0, c4_0_1, f4_0_1, c4_0_2, f4_0_2, c4_1_0, f4_1_0, c4_1_1, f4_1_1, hz4_0, hz4_1, ne0, ne1, ne2]; done)
  have f5_0_2 : w5.frozen? ⟨w.heap.size, 2, none⟩ = false := by
    rw [hf5 _ _ (by first | omega | (simp only [World.size_alloc, World.size_setCell]; omega))]
    first | assumption | (simp [go_sem, c4_0_0, f4_0_0, c4_0_1, f4_0_1, c4_0_2, f4_0_2, c4_1_0, f4_1_0, c4_1_1, f4_1_1, hz4_0, hz4_1, ne0, ne1, ne2]; done)
  have c5_1_0 : w5.cell? ⟨w2.heap.size, 0, none⟩ = some (.float .f64 s1) := by
    rw [hc5 _ _ (by first | omega | (simp only [World.size_alloc, World.size_setCell]; omega))]
    first | assumption | (simp [go_sem, c4_0_0, f4_0_0, c4_0_1, f4_0_1, c4_0_2, f4_0_2, c4_1_0, f4_1_0, c4_1_1, f4_1_1, hz4_0, hz4_1, ne0, ne1, ne2]; done)
  have f5_1_0 : w5.frozen? ⟨w2.heap.size, 0, none⟩ = false := by
    rw [hf5 _ _ (by first | omega | (simp only [World.size_alloc, World.size_setCell]; omega))]
    first | assumption | (simp [go_sem, c4_0_0, f4_0_0, c4_0_1, f4_0_1, c4_0_2, f4_0_2, c4_1_0, f4_1_0, c4_1_1, f4_1_1, hz4_0, hz4_1, ne0, ne1, ne2]; done)
  have c5_1_1 : w5.cell? ⟨w2.heap.size, 1, none⟩ = some (.float .f64 s2) := by
    rw [hc5 _ _ (by first | omega | (simp only [World.size_alloc, World.size_setCell]; omega))]
    first | assumption | (simp [go_sem, c4_0_0, f4_0_0, c4_0_1, f4_0_1, c4_0_2, f4_0_2, c4_1_0, f4_1_0, c4_1_1, f4_1_1, hz4_0, hz4_1, ne0, ne1, ne2]; done)
  have f5_1_1 : w5.frozen? ⟨w2.heap.size, 1, none⟩ = false := by
    rw [hf5 _ _ (by first | omega | (simp only [World.size_alloc, World.size_setCell]; omega))]
    first | assumption | (simp [go_sem, c4_0_0, f4_0_0, c4_0_1, f4_0_1, c4_0_2, f4_0_2, c4_1_0, f4_1_0, c4_1_1, f4_1_1, hz4_0, hz4_1, ne0, ne1, ne2]; done)
  have c5_2_0 : w5.cell? ⟨w4.heap.size, 0, none⟩ = some (.bool nP) := by
    rw [hc5 _ _ (by first | omega | (simp only [World.size_alloc, World.size_setCell]; omega))]
    first | assumption | (simp [go_sem, c4_0_0, f4_0_0, c4_0_1, f4_0_1, c4_0_2, f4_0_2, c4_1_0, f4_1_0, c4_1_1, f4_1_1, hz4_0, hz4_1, ne0, ne1, ne2]; done)
  have f5_2_0 : w5.frozen? ⟨w4.heap.size, 0, none⟩ = false := by
    rw [hf5 _ _ (by first | omega | (simp only [World.size_alloc, World.size_setCell]; omega))]
    first | assumption | (simp [go_sem, c4_0_0, f4_0_0, c4_0_1, f4_0_1, c4_0_2, f4_0_2, c4_1_0, f4_1_0, c4_1_1, f4_1_1, hz4_0, hz4_1, ne0, ne1, ne2]; done)
  have c5_2_1 : w5.cell? ⟨w4.heap.size, 1, none⟩ = some (.slice aP (ws XP).length cP) := by
    rw [hc5 _ _ (by first | omega | (simp only [World.size_alloc, World.size_setCell]; omega))]
    first | assumption | (simp [go_sem, c4_0_0, f4_0_0, c4_0_1, f4_0_1, c4_0_2, f4_0_2, c4_1_0, f4_1_0, c4_1_1, f4_1_1, hz4_0, hz4_1, ne0, ne1, ne2]; done)
  have f5_2_1 : w5.frozen? ⟨w4.heap.size, 1, none⟩ = false := by
    rw [hf5 _ _ (by first | omega | (simp only [World.size_alloc, World.size_setCell]; omega))]
    first | assumption | (simp [go_sem, c4_0_0, f4_0_0, c4_0_1, f4_0_1, c4_0_2, f4_0_2, c4_1_0, f4_1_0, c4_1_1, f4_1_1, hz4_0, hz4_1, ne0, ne1, ne2]; done)
  have c5_2_2 : w5.cell? ⟨w4.heap.size, 2, none⟩ = some (.int .i64 eP) := by
    rw [hc5 _ _ (by first | omega | (simp only [World.size_alloc, World.size_setCell]; omega))]
    first | assumption | (simp [go_sem, c4_0_0, f4_0_0, c4_0_1, f4_0_1, c4_0_2, f4_0_2, c4_1_0, f4_1_0, c4_1_1, f4_1_1, hz4_0, hz4_1, ne0, ne1, ne2]; done)
  have f5_2_2 : w5.frozen? ⟨w4.heap.size, 2, none⟩ = false := by
    rw [hf5 _ _ (by first | omega | (simp only [World.size_alloc, World.size_setCell]; omega))]
    first | assumption | (simp [go_sem, c4_0_0, f4_0_0, c4_0_1, f4_0_1, c4_0_2, f4_0_2, c4_1_0, f4_1_0, c4_1_1, f4_1_1, hz4_0, hz4_1, ne0, ne1, ne2]; done)
  clear hc5 hf5 c4_0_0 f4_0_0 c4_0_1 f4_0_1 c4_0_2 f4_0_2 c4_1_0 f4_1_0 c4_1_1 f4_1_1
  have ne3 : w.heap.size ≠ w5.heap.size := by omega
  have ne4 : w2.heap.size ≠ w5.heap.size := by omega
  have ne5 : w4.heap.size ≠ w5.heap.size := by omega
  go_wp2_with fail
  refine (Calls.mono (HL.out _ _ _ (AP.below (by repeat (first | exact Below.refl _ _ | assumption | exact Nat.le_refl _ | (simp only [World.size_alloc, World.size_setCell]; omega) | omega | refine Below.alloc ?_ ?_ _ | refine Below.setCell ?_ ?_ _ | refine Below.drew ?_))))) ?_
  rintro r wx ⟨rfl, hw⟩
  rw [hw]
  clear hw wx HL
  go_wp2_with fail
  refine (Calls.mono (HN.out _ _ _ (AQ.below (by repeat (first | exact Below.refl _ _ | assumption | exact Nat.le_refl _ | (simp only [World.size_alloc, World.size_setCell]; omega) | omega | refine Below.alloc ?_ ?_ _ | refine Below.setCell ?_ ?_ _ | refine Below.drew ?_))))) ?_
  rintro r wx ⟨rfl, hw⟩
  rw [hw]
  clear hw wx HN
  go_wp2
  have SS := S5.out
  exact bodyPost_ret (v := .bool true) (by simp [results, Try.results31, go_sem, c5_0_0, f5_0_0, c5_0_1, f5_0_1, c5_0_2, f5_0_2, c5_1_0, f5_1_0, c5_1_1, f5_1_1, c5_2_0, f5_2_0, c5_2_1, f5_2_1, c5_2_2, f5_2_2, hz5_0, hz5_1, hz5_2, ne0, ne1, ne2, ne3, ne4, ne5]) rfl ⟨rfl, (by repeat (first | exact Below.refl _ _ | assumption | exact Nat.le_refl _ | (simp only [World.size_alloc, World.size_setCell]; omega) | omega | refine Below.alloc ?_ ?_ _ | refine Below.setCell ?_ ?_ _ | refine Below.drew ?_))⟩
end Go.Proofs.Ythilnddhehbjiab

/- The law's sums, halved, products of finite numbers: true. -/
namespace Go.Proofs.Ythilnddhehbjiab
open Go.RowKit J
set_option linter.unusedVariables false
set_option maxRecDepth 20000
set_option linter.unusedSimpArgs false

theorem QU (k : Nat) (h : k = 3170) : 2 ^ k = QQ * UU := by
  have e : EQ + EU = k := by rw [h]; unfold EQ EU; rfl
  rw [Q_eq, U_eq, ← Nat.pow_add, e]
theorem absU (x : Int) : (x * (UU : Int)).natAbs = x.natAbs * UU := by rw [Int.natAbs_mul, Int.natAbs_natCast]

theorem sums_all {a b : Nat} (ha : Wd a) (hb : Wd b) (fa : finW a) (fb : finW b) {n1 n2 : Bool} {X1 X2 : Nat} {e1 e2 : Int} (F1 : Fo (some (n1, X1, e1)) (fvW a * (UU : Int)) (-1074) 1024) (F2 : Fo (some (n2, X2, e2)) (fvW b * (UU : Int)) (-1074) 1024)
    (u : World) (a1 a2 : Option Addr) (c1 c2 : Nat) (A1 : Arg u a1 (ws X1).length c1 (ws X1)) (A2 : Arg u a2 (ws X2).length c2 (ws X2)) :
    Calls Try.prog 30 #[.float .f64 a, .float .f64 b, .agg #[.bool n1, .slice a1 (ws X1).length c1, .int .i64 e1], .agg #[.bool n2, .slice a2 (ws X2).length c2, .int .i64 e2]] u fun r w' => r = .returned (.bool true) ∧ Below u.heap.size u w' := by
  have l1 := frmLen F1.frm.1
  have l2 := frmLen F2.frm.1
  have hU := U_pos
  obtain ⟨k, hk⟩ : ∃ k : Nat, k = 3170 := ⟨_, rfl⟩
  obtain ⟨bx, hbx⟩ : ∃ bx, decide ((fvW a * (UU : Int)).natAbs ≤ 2 ^ k) = bx := ⟨_, rfl⟩
  obtain ⟨by', hby⟩ : ∃ by', decide ((fvW b * (UU : Int)).natAbs ≤ 2 ^ k) = by' := ⟨_, rfl⟩
  have W1 := hid fun u a c A => within_fo F1 1022 k (by omega) (by omega) (by omega) hbx u a c A
  have W2 := hid fun u a c A => within_fo F2 1022 k (by omega) (by omega) (by omega) hby u a c A
  cases bx
  · cases by'
    · exact sums_off_ff a b n1 n2 a1 a2 X1 X2 c1 c2 e1 e2 u A1 A2 l1 l2 W1 W2
    · exact sums_off_ft a b n1 n2 a1 a2 X1 X2 c1 c2 e1 e2 u A1 A2 l1 l2 W1 W2
  · cases by'
    · exact sums_off_tf a b n1 n2 a1 a2 X1 X2 c1 c2 e1 e2 u A1 A2 l1 l2 W1 W2
    · have la : (fvW a).natAbs ≤ QQ := by
        have := of_decide_eq_true hbx
        rw [absU, QU k hk] at this
        exact Nat.le_of_mul_le_mul_right this hU
      have lb : (fvW b).natAbs ≤ QQ := by
        have := of_decide_eq_true hby
        rw [absU, QU k hk] at this
        exact Nat.le_of_mul_le_mul_right this hU
      have FA := F1.add F2 (by omega) (by omega) (by omega)
      rw [← Int.add_mul] at FA
      obtain ⟨nS, S, eS, hS, _⟩ := FA.ex
      have HA := hid fun u a b c d A C => add_fm F1.frm.1 F2.frm.1 hS rfl u a b c d A C
      rw [hS] at FA
      have l3 := frmLen FA.frm.1
      have d1 := F1.frm.1.down
      have d2 := F1.frm.1.up
      have d3 := F2.frm.1.down
      have d4 := F2.frm.1.up
      have HC := hid fun u a b c d (A : Arg u a (ws X1).length c (ws X1)) (C : Arg u b (ws X2).length d (ws X2)) => rCmp_any3 A C (by omega) (by omega) false false e1 e2 (by omega) (by omega) (by omega) (by omega)
      simp only [val_ws] at HC
      have HJ := hid fun u a c A => just_two (sum_two ha hb fa fb la lb) FA u a c A
      have HS := hid fun u => Sum_all a b u
      by_cases hq : 0 ≤ cmpV false X1 e1 false X2 e2
      · have hab : (fvW b).natAbs ≤ (fvW a).natAbs := by
          rw [cmp_size F1 F2, cmpZ_ge, absU, absU] at hq
          exact Nat.le_of_mul_le_mul_right (by omega) hU
        exact sums_on_t a b n1 n2 a1 a2 X1 X2 c1 c2 e1 e2 u A1 A2 l1 l2 nS S eS _ _ _ _ _ l3 (decide_eq_true hq) W1 W2 HA HS HJ HC (hid fun u => Quick_all a b u) (hid fun u a c A => just_two (quick_two ha hb fa fb la lb hab) FA u a c A)
      · exact sums_on_f a b n1 n2 a1 a2 X1 X2 c1 c2 e1 e2 u A1 A2 l1 l2 nS S eS _ _ _ 0 0 l3 (decide_eq_false hq) W1 W2 HA HS HJ HC

/-- An odd part is not greater than what it is a part of. -/
theorem odd_le {X J s t : Nat} (hX : X % 2 = 1) (h : X * 2 ^ s = J * 2 ^ t) : X ≤ J := by
  rcases Nat.le_total t s with c | c
  · obtain ⟨d, rfl⟩ : ∃ d, s = d + t := ⟨s - t, by omega⟩
    rw [Nat.pow_add, ← Nat.mul_assoc] at h
    have := Nat.eq_of_mul_eq_mul_right (Nat.two_pow_pos t) h
    rw [← this]
    exact Nat.le_mul_of_pos_right _ (Nat.two_pow_pos d)
  · obtain ⟨d, rfl⟩ : ∃ d, t = d + s := ⟨t - s, by omega⟩
    rw [Nat.pow_add, ← Nat.mul_assoc] at h
    have h2 := Nat.eq_of_mul_eq_mul_right (Nat.two_pow_pos s) h
    cases d with
    | zero => rw [h2]; simp
    | succ d => rw [Nat.pow_succ, ← Nat.mul_assoc] at h2; omega
theorem few_bits {n : Bool} {X : Nat} {e L H v : Int} (h : Fo (some (n, X, e)) (v * (UU : Int)) L H) {m : Nat} (hd : (2 : Int) ^ m ∣ v) (hb : v.natAbs ≤ 67108864 * 2 ^ m) : bl X ≤ 26 := by
  by_cases hX : X = 0
  · rw [hX, bl_zero]; omega
  · have ho := frm_odd h.frm.1 hX
    have ha := fo_abs h
    obtain ⟨cc, hcc⟩ : ∃ c : Nat, c = 2096078 := ⟨_, rfl⟩
    rw [absU, Nat.mul_assoc, ← US cc hcc] at ha
    obtain ⟨j, hj⟩ := hd
    have hv : v.natAbs = j.natAbs * 2 ^ m := by rw [hj, Int.natAbs_mul, natAbs_p2, Nat.mul_comm]
    rw [hv, Nat.mul_assoc, ← Nat.pow_add] at ha
    have h1 := odd_le ho ha
    rw [hv] at hb
    have h2 := Nat.le_of_mul_le_mul_right hb (Nat.two_pow_pos m)
    exact blLe (show X < 2 ^ 26 by omega)
theorem halved_all {a : Nat} (ha : Wd a) (fa : finW a) {n1 : Bool} {X1 : Nat} {e1 : Int} (F1 : Fo (some (n1, X1, e1)) (fvW a * (UU : Int)) (-1074) 1024)
    (u : World) (a1 : Option Addr) (c1 : Nat) (A1 : Arg u a1 (ws X1).length c1 (ws X1)) :
    Calls Try.prog 31 #[.float .f64 a, .agg #[.bool n1, .slice a1 (ws X1).length c1, .int .i64 e1]] u fun r w' => r = .returned (.bool true) ∧ Below u.heap.size u w' := by
  have l1 := frmLen F1.frm.1
  have hU := U_pos
  obtain ⟨k, hk⟩ : ∃ k : Nat, k = 3143 := ⟨_, rfl⟩
  obtain ⟨bx, hbx⟩ : ∃ bx, decide ((fvW a * (UU : Int)).natAbs ≤ 2 ^ k) = bx := ⟨_, rfl⟩
  have W1 := hid fun u a c A => within_fo F1 995 k (by omega) (by omega) (by omega) hbx u a c A
  cases bx
  · exact halved_off a n1 a1 X1 c1 e1 u A1 l1 W1
  · have la : 134217728 * (fvW a).natAbs ≤ QQ := by
      have := of_decide_eq_true hbx
      rw [absU] at this
      have h2 := Nat.mul_le_mul_left (2 ^ 27) this
      rw [← Nat.pow_add, QU (27 + k) (by omega), ← Nat.mul_assoc] at h2
      exact Nat.le_of_mul_le_mul_right h2 hU
    obtain ⟨T, g, m, Hh⟩ := half_two ha fa la
    obtain ⟨nP, XP, eP, oP, FP, _⟩ := of_fo (negW (halfP a).1) (magW (halfP a).1) T.f1
    obtain ⟨nQ, XQ, eQ, oQ, FQ, _⟩ := of_fo (negW (halfP a).2) (magW (halfP a).2) T.f2
    have bP := few_bits (v := fvW (halfP a).1) FP Hh.hd (by have := Hh.hb; rwa [Nat.pow_add] at this)
    have bQ := few_bits (v := fvW (halfP a).2) FQ Hh.ld (by
      have h1 := Hh.lb
      have h2 : 2 ^ (g + m) ≤ 2 ^ (27 + m) := Nat.pow_le_pow_right (by decide) (by have := Hh.g27; omega)
      rw [Nat.pow_add 2 27] at h2
      omega)
    have lP := frmLen FP.frm.1
    have lQ := frmLen FQ.frm.1
    have HL := hid fun u a c (A : Arg u a (ws XP).length c (ws XP)) => rLen_any (ws XP) a (ws XP).length c u.heap.size u rfl (by have := A.big; omega) A.wf A.rd
    have HN := hid fun u a c (A : Arg u a (ws XQ).length c (ws XQ)) => rLen_any (ws XQ) a (ws XQ).length c u.heap.size u rfl (by have := A.big; omega) A.wf A.rd
    simp only [val_ws] at HL HN
    exact halved_on a n1 a1 X1 c1 e1 u A1 l1 nP nQ XP XQ eP eQ _ _ _ _ lP lQ (decide_eq_true (by omega)) (decide_eq_true (by omega)) W1 (hid fun u => Halves_all a u) (hid fun u a c A => just_two T F1 u a c A) (hid fun u => finite_fin T.w1 T.f1 oP lP u) (hid fun u => finite_fin T.w2 T.f2 oQ lQ u) HL HN
theorem products_all {a b : Nat} (ha : Wd a) (hb : Wd b) (fa : finW a) (fb : finW b) {n1 n2 : Bool} {X1 X2 : Nat} {e1 e2 : Int} (F1 : Fo (some (n1, X1, e1)) (fvW a * (UU : Int)) (-1074) 1024) (F2 : Fo (some (n2, X2, e2)) (fvW b * (UU : Int)) (-1074) 1024)
    (u : World) (a1 a2 : Option Addr) (c1 c2 : Nat) (A1 : Arg u a1 (ws X1).length c1 (ws X1)) (A2 : Arg u a2 (ws X2).length c2 (ws X2)) :
    Calls Try.prog 32 #[.float .f64 a, .float .f64 b, .agg #[.bool n1, .slice a1 (ws X1).length c1, .int .i64 e1], .agg #[.bool n2, .slice a2 (ws X2).length c2, .int .i64 e2]] u fun r w' => r = .returned (.bool true) ∧ Below u.heap.size u w' := by
  have l1 := frmLen F1.frm.1
  have l2 := frmLen F2.frm.1
  have hU := U_pos
  have FA := F1.mul F2 (by omega) (by omega) (by omega)
  obtain ⟨nS, S, eS, hS, _⟩ := FA.ex
  have HM := hid fun u a b c d A C => mul_fm F1.frm.1 F2.frm.1 hS rfl u a b c d A C
  rw [hS] at FA
  have l3 := frmLen FA.frm.1
  have d1 := FA.frm.1.down
  have d2 := FA.frm.1.up
  obtain ⟨k, hk⟩ : ∃ k : Nat, k = 3143 := ⟨_, rfl⟩
  obtain ⟨m, hm⟩ : ∃ m : Nat, m = 3169 := ⟨_, rfl⟩
  obtain ⟨q, hq⟩ : ∃ q : Nat, q = 1179 := ⟨_, rfl⟩
  obtain ⟨bx, hbx⟩ : ∃ bx, decide ((fvW a * (UU : Int)).natAbs ≤ 2 ^ k) = bx := ⟨_, rfl⟩
  obtain ⟨by', hby⟩ : ∃ by', decide ((fvW b * (UU : Int)).natAbs ≤ 2 ^ k) = by' := ⟨_, rfl⟩
  obtain ⟨bz, hbz⟩ : ∃ bz, decide ((fvW a * fvW b).natAbs ≤ 2 ^ m) = bz := ⟨_, rfl⟩
  obtain ⟨bq, hbq⟩ : ∃ bq, decide (0 ≤ cmpV false S eS false 1 (-969)) = bq := ⟨_, rfl⟩
  obtain ⟨bl', hbl⟩ : ∃ bl', decide ((0 : Int) < (((ws S).length : Nat) : Int)) = bl' := ⟨_, rfl⟩
  have W1 := hid fun u a c A => within_fo F1 995 k (by omega) (by omega) (by omega) hbx u a c A
  have W2 := hid fun u a c A => within_fo F2 995 k (by omega) (by omega) (by omega) hby u a c A
  have W3 := hid fun u a c A => within_fo FA 1021 m (by omega) (by omega) (by omega) hbz u a c A
  have HC := hid fun u a b c d (A : Arg u a (ws S).length c (ws S)) (C : Arg u b 1 d [1]) => rCmp_any3 A C (by omega) (by omega) false false eS (-969) (by omega) (by omega) (by omega) (by omega)
  have hv : val [1] = 1 := rfl
  simp only [val_ws, hv] at HC
  have HS := hid fun u => Product_all a b u
  have go : bx = true → by' = true → bz = true → (bq = true ∨ bl' = false) → ∃ P : Int, fvW a * fvW b = P * (UU : Int) ∧ Two (prodP a b) P := by
    intro h1 h2 h3 h4
    subst h1; subst h2; subst h3
    have la : 134217728 * (fvW a).natAbs ≤ QQ := by
      have := of_decide_eq_true hbx
      rw [absU] at this
      have h2 := Nat.mul_le_mul_left (2 ^ 27) this
      rw [← Nat.pow_add, QU (27 + k) (by omega), ← Nat.mul_assoc] at h2
      exact Nat.le_of_mul_le_mul_right h2 hU
    have lb : 134217728 * (fvW b).natAbs ≤ QQ := by
      have := of_decide_eq_true hby
      rw [absU] at this
      have h2 := Nat.mul_le_mul_left (2 ^ 27) this
      rw [← Nat.pow_add, QU (27 + k) (by omega), ← Nat.mul_assoc] at h2
      exact Nat.le_of_mul_le_mul_right h2 hU
    have lt : 2 * (fvW a * fvW b).natAbs ≤ QQ * UU := by
      have := of_decide_eq_true hbz
      have h2 := Nat.mul_le_mul_left (2 ^ 1) this
      rw [← Nat.pow_add, QU (1 + m) (by omega)] at h2
      exact h2
    refine prod_two ha hb fa fb la lb hq ?_ lt
    rcases h4 with h4 | h4
    · right
      rw [h4] at hbq
      have := of_decide_eq_true hbq
      rw [cmp_pow FA (-969) q (by omega) (by omega), cmpZ_ge] at this
      omega
    · left
      rw [h4] at hbl
      have h0 : (ws S).length = 0 := by have := of_decide_eq_false hbl; omega
      exact (fo_zero FA).1 ((ws_len_zero S).1 h0)
  exact products_walk a b n1 n2 a1 a2 X1 X2 c1 c2 e1 e2 u A1 A2 l1 l2 nS S eS _ _ _ bx by' bz bq bl' l3 hbq hbl HM W1 W2 W3 HC HS (fun h1 h2 h3 h4 => by
    obtain ⟨P, hP, T⟩ := go h1 h2 h3 h4
    rw [hP] at FA
    exact hid fun u a c A => just_two T FA u a c A)
end Go.Proofs.Ythilnddhehbjiab

/- PairExact: the walk. -/
namespace Go.Proofs.Ythilnddhehbjiab
open Go.RowKit J
set_option linter.unusedVariables false
set_option maxRecDepth 20000
set_option linter.unusedSimpArgs false
attribute [local go_sem] st_float

set_option maxHeartbeats 8000000 in
theorem exact_ff (fa fb : Nat) (nX nY : Bool) (XX XY : Nat) (eX eY : Int) (w : World) (lX : (ws XX).length ≤ 8192) (lY : (ws XY).length ≤ 8192)
    (HX : Hid (∀ u, Calls Try.prog 29 #[.float .f64 fa] u fun r w' => (∃ v, r = .returned (.tuple #[.agg #[.bool nX, v, .int .i64 eX], .bool false]) ∧ Nt u.heap.size w' v XX) ∧ Below u.heap.size u w'))
    (HY : Hid (∀ u, Calls Try.prog 29 #[.float .f64 fb] u fun r w' => (∃ v, r = .returned (.tuple #[.agg #[.bool nY, v, .int .i64 eY], .bool false]) ∧ Nt u.heap.size w' v XY) ∧ Below u.heap.size u w')) :
    Calls Try.prog 5 #[.float .f64 fa, .float .f64 fb] w fun r w' => r = .returned (.bool true) ∧ Below w.heap.size w w' := by
  go_enter Try.func5, Try.ntmps5
  go_wp2_with fail
  refine (Calls.mono (awake_all _)) ?_
  rintro r w1 ⟨rfl, hb1⟩
  have hy1 : w.heap.size ≤ w1.heap.size := by
    have := hb1.size
    try simp only [World.size_alloc, World.size_setCell] at this
    omega
  have B1 := Aside.intro (Below.trans (B := w.heap.size) (a := w) (by repeat (first | exact Below.refl _ _ | assumption | exact Nat.le_refl _ | (simp only [World.size_alloc, World.size_setCell]; omega) | omega | refine Below.alloc ?_ ?_ _ | refine Below.setCell ?_ ?_ _ | refine Below.drew ?_)) (hb1.mono (by first | omega | (simp only [World.size_alloc, World.size_setCell]; omega))))
  have S1 := B1
  obtain ⟨hc1, hf1⟩ := bcell hb1
  clear hb1 B1
  clear hc1 hf1 
  go_wp2_with fail
  refine (Calls.mono (HX.out _)) ?_
  rintro r w2 ⟨⟨v2, rfl, N2⟩, hb2⟩
  obtain ⟨aX, cX, rfl, AX⟩ := N2.arg (by omega)
  clear N2
  clear HX
  have hy2 : w1.heap.size ≤ w2.heap.size := by
    have := hb2.size
    try simp only [World.size_alloc, World.size_setCell] at this
    omega
  have B2 := Aside.intro (Below.trans (B := w1.heap.size) (a := w1) (by repeat (first | exact Below.refl _ _ | assumption | exact Nat.le_refl _ | (simp only [World.size_alloc, World.size_setCell]; omega) | omega | refine Below.alloc ?_ ?_ _ | refine Below.setCell ?_ ?_ _ | refine Below.drew ?_)) (hb2.mono (by first | omega | (simp only [World.size_alloc, World.size_setCell]; omega))))
  have S2 := Aside.intro (S1.out.trans (B2.out.mono S1.out.size))
  clear S1
  obtain ⟨hc2, hf2⟩ := bcell hb2
  clear hb2 B2
  clear hc2 hf2 
  go_wp2_with fail
  refine (Calls.mono (HY.out _)) ?_
  rintro r w3 ⟨⟨v3, rfl, N3⟩, hb3⟩
  obtain ⟨aY, cY, rfl, AY⟩ := N3.arg (by omega)
  clear N3
  clear HY
  have hy3 : w2.heap.size ≤ w3.heap.size := by
    have := hb3.size
    try simp only [World.size_alloc, World.size_setCell] at this
    omega
  have hz3_0 : w2.heap.size < w3.heap.size := by
    have := hb3.size
    try simp only [World.size_alloc, World.size_setCell] at this
    omega
  have B3 := Aside.intro (Below.trans (B := w2.heap.size) (a := w2) (by repeat (first | exact Below.refl _ _ | assumption | exact Nat.le_refl _ | (simp only [World.size_alloc, World.size_setCell]; omega) | omega | refine Below.alloc ?_ ?_ _ | refine Below.setCell ?_ ?_ _ | refine Below.drew ?_)) (hb3.mono (by first | omega | (simp only [World.size_alloc, World.size_setCell]; omega))))
  have S3 := Aside.intro (S2.out.trans (B3.out.mono S2.out.size))
  clear S2
  replace AX := AX.below B3.out
  obtain ⟨hc3, hf3⟩ := bcell hb3
  clear hb3 B3
  have c3_0_0 : w3.cell? ⟨w2.heap.size, 0, none⟩ = some (.bool nX) := by
    rw [hc3 _ _ (by first | omega | (simp only [World.size_alloc, World.size_setCell]; omega))]
    first | assumption | (simp [go_sem]; done)
  have f3_0_0 : w3.frozen? ⟨w2.heap.size, 0, none⟩ = false := by
    rw [hf3 _ _ (by first | omega | (simp only [World.size_alloc, World.size_setCell]; omega))]
    first | assumption | (simp [go_sem]; done)
  have c3_0_1 : w3.cell? ⟨w2.heap.size, 1, none⟩ = some (.slice aX (ws XX).length cX) := by
    rw [hc3 _ _ (by first | omega | (simp only [World.size_alloc, World.size_setCell]; omega))]
    first | assumption | (simp [go_sem]; done)
  have f3_0_1 : w3.frozen? ⟨w2.heap.size, 1, none⟩ = false := by
    rw [hf3 _ _ (by first | omega | (simp only [World.size_alloc, World.size_setCell]; omega))]
    first | assumption | (simp [go_sem]; done)
  have c3_0_2 : w3.cell? ⟨w2.heap.size, 2, none⟩ = some (.int .i64 eX) := by
    rw [hc3 _ _ (by first | omega | (simp only [World.size_alloc, World.size_setCell]; omega))]
    first | assumption | (simp [go_sem]; done)
  have f3_0_2 : w3.frozen? ⟨w2.heap.size, 2, none⟩ = false := by
    rw [hf3 _ _ (by first | omega | (simp only [World.size_alloc, World.size_setCell]; omega))]
    first | assumption | (simp [go_sem]; done)
  clear hc3 hf3 
  have ne0 : w2.heap.size ≠ w3.heap.size := by omega
  go_wp2
  have SS := S3.out
  exact bodyPost_ret (v := .bool true) (by simp [results, Try.results5, go_sem, c3_0_0, f3_0_0, c3_0_1, f3_0_1, c3_0_2, f3_0_2, hz3_0, ne0]) rfl ⟨rfl, (by repeat (first | exact Below.refl _ _ | assumption | exact Nat.le_refl _ | (simp only [World.size_alloc, World.size_setCell]; omega) | omega | refine Below.alloc ?_ ?_ _ | refine Below.setCell ?_ ?_ _ | refine Below.drew ?_))⟩
set_option maxHeartbeats 8000000 in
theorem exact_ft (fa fb : Nat) (nX nY : Bool) (XX XY : Nat) (eX eY : Int) (w : World) (lX : (ws XX).length ≤ 8192) (lY : (ws XY).length ≤ 8192)
    (HX : Hid (∀ u, Calls Try.prog 29 #[.float .f64 fa] u fun r w' => (∃ v, r = .returned (.tuple #[.agg #[.bool nX, v, .int .i64 eX], .bool false]) ∧ Nt u.heap.size w' v XX) ∧ Below u.heap.size u w'))
    (HY : Hid (∀ u, Calls Try.prog 29 #[.float .f64 fb] u fun r w' => (∃ v, r = .returned (.tuple #[.agg #[.bool nY, v, .int .i64 eY], .bool true]) ∧ Nt u.heap.size w' v XY) ∧ Below u.heap.size u w')) :
    Calls Try.prog 5 #[.float .f64 fa, .float .f64 fb] w fun r w' => r = .returned (.bool true) ∧ Below w.heap.size w w' := by
  go_enter Try.func5, Try.ntmps5
  go_wp2_with fail
  refine (Calls.mono (awake_all _)) ?_
  rintro r w1 ⟨rfl, hb1⟩
  have hy1 : w.heap.size ≤ w1.heap.size := by
    have := hb1.size
    try simp only [World.size_alloc, World.size_setCell] at this
    omega
  have B1 := Aside.intro (Below.trans (B := w.heap.size) (a := w) (by repeat (first | exact Below.refl _ _ | assumption | exact Nat.le_refl _ | (simp only [World.size_alloc, World.size_setCell]; omega) | omega | refine Below.alloc ?_ ?_ _ | refine Below.setCell ?_ ?_ _ | refine Below.drew ?_)) (hb1.mono (by first | omega | (simp only [World.size_alloc, World.size_setCell]; omega))))
  have S1 := B1
  obtain ⟨hc1, hf1⟩ := bcell hb1
  clear hb1 B1
  clear hc1 hf1 
  go_wp2_with fail
  refine (Calls.mono (HX.out _)) ?_
  rintro r w2 ⟨⟨v2, rfl, N2⟩, hb2⟩
  obtain ⟨aX, cX, rfl, AX⟩ := N2.arg (by omega)
  clear N2
  clear HX
  have hy2 : w1.heap.size ≤ w2.heap.size := by
    have := hb2.size
    try simp only [World.size_alloc, World.size_setCell] at this
    omega
  have B2 := Aside.intro (Below.trans (B := w1.heap.size) (a := w1) (by repeat (first | exact Below.refl _ _ | assumption | exact Nat.le_refl _ | (simp only [World.size_alloc, World.size_setCell]; omega) | omega | refine Below.alloc ?_ ?_ _ | refine Below.setCell ?_ ?_ _ | refine Below.drew ?_)) (hb2.mono (by first | omega | (simp only [World.size_alloc, World.size_setCell]; omega))))
  have S2 := Aside.intro (S1.out.trans (B2.out.mono S1.out.size))
  clear S1
  obtain ⟨hc2, hf2⟩ := bcell hb2
  clear hb2 B2
  clear hc2 hf2 
  go_wp2_with fail
  refine (Calls.mono (HY.out _)) ?_
  rintro r w3 ⟨⟨v3, rfl, N3⟩, hb3⟩
  obtain ⟨aY, cY, rfl, AY⟩ := N3.arg (by omega)
  clear N3
  clear HY
  have hy3 : w2.heap.size ≤ w3.heap.size := by
    have := hb3.size
    try simp only [World.size_alloc, World.size_setCell] at this
    omega
  have hz3_0 : w2.heap.size < w3.heap.size := by
    have := hb3.size
    try simp only [World.size_alloc, World.size_setCell] at this
    omega
  have B3 := Aside.intro (Below.trans (B := w2.heap.size) (a := w2) (by repeat (first | exact Below.refl _ _ | assumption | exact Nat.le_refl _ | (simp only [World.size_alloc, World.size_setCell]; omega) | omega | refine Below.alloc ?_ ?_ _ | refine Below.setCell ?_ ?_ _ | refine Below.drew ?_)) (hb3.mono (by first | omega | (simp only [World.size_alloc, World.size_setCell]; omega))))
  have S3 := Aside.intro (S2.out.trans (B3.out.mono S2.out.size))
  clear S2
  replace AX := AX.below B3.out
  obtain ⟨hc3, hf3⟩ := bcell hb3
  clear hb3 B3
  have c3_0_0 : w3.cell? ⟨w2.heap.size, 0, none⟩ = some (.bool nX) := by
    rw [hc3 _ _ (by first | omega | (simp only [World.size_alloc, World.size_setCell]; omega))]
    first | assumption | (simp [go_sem]; done)
  have f3_0_0 : w3.frozen? ⟨w2.heap.size, 0, none⟩ = false := by
    rw [hf3 _ _ (by first | omega | (simp only [World.size_alloc, World.size_setCell]; omega))]
    first | assumption | (simp [go_sem]; done)
  have c3_0_1 : w3.cell? ⟨w2.heap.size, 1, none⟩ = some (.slice aX (ws XX).length cX) := by
    rw [hc3 _ _ (by first | omega | (simp only [World.size_alloc, World.size_setCell]; omega))]
    first | assumption | (simp [go_sem]; done)
  have f3_0_1 : w3.frozen? ⟨w2.heap.size, 1, none⟩ = false := by
    rw [hf3 _ _ (by first | omega | (simp only [World.size_alloc, World.size_setCell]; omega))]
    first | assumption | (simp [go_sem]; done)
  have c3_0_2 : w3.cell? ⟨w2.heap.size, 2, none⟩ = some (.int .i64 eX) := by
    rw [hc3 _ _ (by first | omega | (simp only [World.size_alloc, World.size_setCell]; omega))]
    first | assumption | (simp [go_sem]; done)
  have f3_0_2 : w3.frozen? ⟨w2.heap.size, 2, none⟩ = false := by
    rw [hf3 _ _ (by first | omega | (simp only [World.size_alloc, World.size_setCell]; omega))]
    first | assumption | (simp [go_sem]; done)
  clear hc3 hf3 
  have ne0 : w2.heap.size ≠ w3.heap.size := by omega
  go_wp2
  have SS := S3.out
  exact bodyPost_ret (v := .bool true) (by simp [results, Try.results5, go_sem, c3_0_0, f3_0_0, c3_0_1, f3_0_1, c3_0_2, f3_0_2, hz3_0, ne0]) rfl ⟨rfl, (by repeat (first | exact Below.refl _ _ | assumption | exact Nat.le_refl _ | (simp only [World.size_alloc, World.size_setCell]; omega) | omega | refine Below.alloc ?_ ?_ _ | refine Below.setCell ?_ ?_ _ | refine Below.drew ?_))⟩
set_option maxHeartbeats 8000000 in
theorem exact_tf (fa fb : Nat) (nX nY : Bool) (XX XY : Nat) (eX eY : Int) (w : World) (lX : (ws XX).length ≤ 8192) (lY : (ws XY).length ≤ 8192)
    (HX : Hid (∀ u, Calls Try.prog 29 #[.float .f64 fa] u fun r w' => (∃ v, r = .returned (.tuple #[.agg #[.bool nX, v, .int .i64 eX], .bool true]) ∧ Nt u.heap.size w' v XX) ∧ Below u.heap.size u w'))
    (HY : Hid (∀ u, Calls Try.prog 29 #[.float .f64 fb] u fun r w' => (∃ v, r = .returned (.tuple #[.agg #[.bool nY, v, .int .i64 eY], .bool false]) ∧ Nt u.heap.size w' v XY) ∧ Below u.heap.size u w')) :
    Calls Try.prog 5 #[.float .f64 fa, .float .f64 fb] w fun r w' => r = .returned (.bool true) ∧ Below w.heap.size w w' := by
  go_enter Try.func5, Try.ntmps5
  go_wp2_with fail
  refine (Calls.mono (awake_all _)) ?_
  rintro r w1 ⟨rfl, hb1⟩
  have hy1 : w.heap.size ≤ w1.heap.size := by
    have := hb1.size
    try simp only [World.size_alloc, World.size_setCell] at this
    omega
  have B1 := Aside.intro (Below.trans (B := w.heap.size) (a := w) (by repeat (first | exact Below.refl _ _ | assumption | exact Nat.le_refl _ | (simp only [World.size_alloc, World.size_setCell]; omega) | omega | refine Below.alloc ?_ ?_ _ | refine Below.setCell ?_ ?_ _ | refine Below.drew ?_)) (hb1.mono (by first | omega | (simp only [World.size_alloc, World.size_setCell]; omega))))
  have S1 := B1
  obtain ⟨hc1, hf1⟩ := bcell hb1
  clear hb1 B1
  clear hc1 hf1 
  go_wp2_with fail
  refine (Calls.mono (HX.out _)) ?_
  rintro r w2 ⟨⟨v2, rfl, N2⟩, hb2⟩
  obtain ⟨aX, cX, rfl, AX⟩ := N2.arg (by omega)
  clear N2
  clear HX
  have hy2 : w1.heap.size ≤ w2.heap.size := by
    have := hb2.size
    try simp only [World.size_alloc, World.size_setCell] at this
    omega
  have B2 := Aside.intro (Below.trans (B := w1.heap.size) (a := w1) (by repeat (first | exact Below.refl _ _ | assumption | exact Nat.le_refl _ | (simp only [World.size_alloc, World.size_setCell]; omega) | omega | refine Below.alloc ?_ ?_ _ | refine Below.setCell ?_ ?_ _ | refine Below.drew ?_)) (hb2.mono (by first | omega | (simp only [World.size_alloc, World.size_setCell]; omega))))
  have S2 := Aside.intro (S1.out.trans (B2.out.mono S1.out.size))
  clear S1
  obtain ⟨hc2, hf2⟩ := bcell hb2
  clear hb2 B2
  clear hc2 hf2 
  go_wp2_with fail
  refine (Calls.mono (HY.out _)) ?_
  rintro r w3 ⟨⟨v3, rfl, N3⟩, hb3⟩
  obtain ⟨aY, cY, rfl, AY⟩ := N3.arg (by omega)
  clear N3
  clear HY
  have hy3 : w2.heap.size ≤ w3.heap.size := by
    have := hb3.size
    try simp only [World.size_alloc, World.size_setCell] at this
    omega
  have hz3_0 : w2.heap.size < w3.heap.size := by
    have := hb3.size
    try simp only [World.size_alloc, World.size_setCell] at this
    omega
  have B3 := Aside.intro (Below.trans (B := w2.heap.size) (a := w2) (by repeat (first | exact Below.refl _ _ | assumption | exact Nat.le_refl _ | (simp only [World.size_alloc, World.size_setCell]; omega) | omega | refine Below.alloc ?_ ?_ _ | refine Below.setCell ?_ ?_ _ | refine Below.drew ?_)) (hb3.mono (by first | omega | (simp only [World.size_alloc, World.size_setCell]; omega))))
  have S3 := Aside.intro (S2.out.trans (B3.out.mono S2.out.size))
  clear S2
  replace AX := AX.below B3.out
  obtain ⟨hc3, hf3⟩ := bcell hb3
  clear hb3 B3
  have c3_0_0 : w3.cell? ⟨w2.heap.size, 0, none⟩ = some (.bool nX) := by
    rw [hc3 _ _ (by first | omega | (simp only [World.size_alloc, World.size_setCell]; omega))]
    first | assumption | (simp [go_sem]; done)
  have f3_0_0 : w3.frozen? ⟨w2.heap.size, 0, none⟩ = false := by
    rw [hf3 _ _ (by first | omega | (simp only [World.size_alloc, World.size_setCell]; omega))]
    first | assumption | (simp [go_sem]; done)
  have c3_0_1 : w3.cell? ⟨w2.heap.size, 1, none⟩ = some (.slice aX (ws XX).length cX) := by
    rw [hc3 _ _ (by first | omega | (simp only [World.size_alloc, World.size_setCell]; omega))]
    first | assumption | (simp [go_sem]; done)
  have f3_0_1 : w3.frozen? ⟨w2.heap.size, 1, none⟩ = false := by
    rw [hf3 _ _ (by first | omega | (simp only [World.size_alloc, World.size_setCell]; omega))]
    first | assumption | (simp [go_sem]; done)
  have c3_0_2 : w3.cell? ⟨w2.heap.size, 2, none⟩ = some (.int .i64 eX) := by
    rw [hc3 _ _ (by first | omega | (simp only [World.size_alloc, World.size_setCell]; omega))]
    first | assumption | (simp [go_sem]; done)
  have f3_0_2 : w3.frozen? ⟨w2.heap.size, 2, none⟩ = false := by
    rw [hf3 _ _ (by first | omega | (simp only [World.size_alloc, World.size_setCell]; omega))]
    first | assumption | (simp [go_sem]; done)
  clear hc3 hf3 
  have ne0 : w2.heap.size ≠ w3.heap.size := by omega
  go_wp2
  have SS := S3.out
  exact bodyPost_ret (v := .bool true) (by simp [results, Try.results5, go_sem, c3_0_0, f3_0_0, c3_0_1, f3_0_1, c3_0_2, f3_0_2, hz3_0, ne0]) rfl ⟨rfl, (by repeat (first | exact Below.refl _ _ | assumption | exact Nat.le_refl _ | (simp only [World.size_alloc, World.size_setCell]; omega) | omega | refine Below.alloc ?_ ?_ _ | refine Below.setCell ?_ ?_ _ | refine Below.drew ?_))⟩
set_option maxHeartbeats 8000000 in
theorem exact_tt (fa fb : Nat) (nX nY : Bool) (XX XY : Nat) (eX eY : Int) (w : World) (lX : (ws XX).length ≤ 8192) (lY : (ws XY).length ≤ 8192)
    (HX : Hid (∀ u, Calls Try.prog 29 #[.float .f64 fa] u fun r w' => (∃ v, r = .returned (.tuple #[.agg #[.bool nX, v, .int .i64 eX], .bool true]) ∧ Nt u.heap.size w' v XX) ∧ Below u.heap.size u w'))
    (HY : Hid (∀ u, Calls Try.prog 29 #[.float .f64 fb] u fun r w' => (∃ v, r = .returned (.tuple #[.agg #[.bool nY, v, .int .i64 eY], .bool true]) ∧ Nt u.heap.size w' v XY) ∧ Below u.heap.size u w'))
    (HS : Hid (∀ u a b c d, Arg u a (ws XX).length c (ws XX) → Arg u b (ws XY).length d (ws XY) → Calls Try.prog 30 #[.float .f64 fa, .float .f64 fb, .agg #[.bool nX, .slice a (ws XX).length c, .int .i64 eX], .agg #[.bool nY, .slice b (ws XY).length d, .int .i64 eY]] u fun r w' => r = .returned (.bool true) ∧ Below u.heap.size u w'))
    (HH : Hid (∀ u a c, Arg u a (ws XX).length c (ws XX) → Calls Try.prog 31 #[.float .f64 fa, .agg #[.bool nX, .slice a (ws XX).length c, .int .i64 eX]] u fun r w' => r = .returned (.bool true) ∧ Below u.heap.size u w'))
    (HP : Hid (∀ u a b c d, Arg u a (ws XX).length c (ws XX) → Arg u b (ws XY).length d (ws XY) → Calls Try.prog 32 #[.float .f64 fa, .float .f64 fb, .agg #[.bool nX, .slice a (ws XX).length c, .int .i64 eX], .agg #[.bool nY, .slice b (ws XY).length d, .int .i64 eY]] u fun r w' => r = .returned (.bool true) ∧ Below u.heap.size u w')) :
    Calls Try.prog 5 #[.float .f64 fa, .float .f64 fb] w fun r w' => r = .returned (.bool true) ∧ Below w.heap.size w w' := by
  go_enter Try.func5, Try.ntmps5
  go_wp2_with fail
  refine (Calls.mono (awake_all _)) ?_
  rintro r w1 ⟨rfl, hb1⟩
  have hy1 : w.heap.size ≤ w1.heap.size := by
    have := hb1.size
    try simp only [World.size_alloc, World.size_setCell] at this
    omega
  have B1 := Aside.intro (Below.trans (B := w.heap.size) (a := w) (by repeat (first | exact Below.refl _ _ | assumption | exact Nat.le_refl _ | (simp only [World.size_alloc, World.size_setCell]; omega) | omega | refine Below.alloc ?_ ?_ _ | refine Below.setCell ?_ ?_ _ | refine Below.drew ?_)) (hb1.mono (by first | omega | (simp only [World.size_alloc, World.size_setCell]; omega))))
  have S1 := B1
  obtain ⟨hc1, hf1⟩ := bcell hb1
  clear hb1 B1
  clear hc1 hf1 
  go_wp2_with fail
  refine (Calls.mono (HX.out _)) ?_
  rintro r w2 ⟨⟨v2, rfl, N2⟩, hb2⟩
  obtain ⟨aX, cX, rfl, AX⟩ := N2.arg (by omega)
  clear N2
  clear HX
  have hy2 : w1.heap.size ≤ w2.heap.size := by
    have := hb2.size
    try simp only [World.size_alloc, World.size_setCell] at this
    omega
  have B2 := Aside.intro (Below.trans (B := w1.heap.size) (a := w1) (by repeat (first | exact Below.refl _ _ | assumption | exact Nat.le_refl _ | (simp only [World.size_alloc, World.size_setCell]; omega) | omega | refine Below.alloc ?_ ?_ _ | refine Below.setCell ?_ ?_ _ | refine Below.drew ?_)) (hb2.mono (by first | omega | (simp only [World.size_alloc, World.size_setCell]; omega))))
  have S2 := Aside.intro (S1.out.trans (B2.out.mono S1.out.size))
  clear S1
  obtain ⟨hc2, hf2⟩ := bcell hb2
  clear hb2 B2
  clear hc2 hf2 
  go_wp2_with fail
  refine (Calls.mono (HY.out _)) ?_
  rintro r w3 ⟨⟨v3, rfl, N3⟩, hb3⟩
  obtain ⟨aY, cY, rfl, AY⟩ := N3.arg (by omega)
  clear N3
  clear HY
  have hy3 : w2.heap.size ≤ w3.heap.size := by
    have := hb3.size
    try simp only [World.size_alloc, World.size_setCell] at this
    omega
  have hz3_0 : w2.heap.size < w3.heap.size := by
    have := hb3.size
    try simp only [World.size_alloc, World.size_setCell] at this
    omega
  have B3 := Aside.intro (Below.trans (B := w2.heap.size) (a := w2) (by repeat (first | exact Below.refl _ _ | assumption | exact Nat.le_refl _ | (simp only [World.size_alloc, World.size_setCell]; omega) | omega | refine Below.alloc ?_ ?_ _ | refine Below.setCell ?_ ?_ _ | refine Below.drew ?_)) (hb3.mono (by first | omega | (simp only [World.size_alloc, World.size_setCell]; omega))))
  have S3 := Aside.intro (S2.out.trans (B3.out.mono S2.out.size))
  clear S2
  replace AX := AX.below B3.out
  obtain ⟨hc3, hf3⟩ := bcell hb3
  clear hb3 B3
  have c3_0_0 : w3.cell? ⟨w2.heap.size, 0, none⟩ = some (.bool nX) := by
    rw [hc3 _ _ (by first | omega | (simp only [World.size_alloc, World.size_setCell]; omega))]
    first | assumption | (simp [go_sem]; done)
  have f3_0_0 : w3.frozen? ⟨w2.heap.size, 0, none⟩ = false := by
    rw [hf3 _ _ (by first | omega | (simp only [World.size_alloc, World.size_setCell]; omega))]
    first | assumption | (simp [go_sem]; done)
  have c3_0_1 : w3.cell? ⟨w2.heap.size, 1, none⟩ = some (.slice aX (ws XX).length cX) := by
    rw [hc3 _ _ (by first | omega | (simp only [World.size_alloc, World.size_setCell]; omega))]
    first | assumption | (simp [go_sem]; done)
  have f3_0_1 : w3.frozen? ⟨w2.heap.size, 1, none⟩ = false := by
    rw [hf3 _ _ (by first | omega | (simp only [World.size_alloc, World.size_setCell]; omega))]
    first | assumption | (simp [go_sem]; done)
  have c3_0_2 : w3.cell? ⟨w2.heap.size, 2, none⟩ = some (.int .i64 eX) := by
    rw [hc3 _ _ (by first | omega | (simp only [World.size_alloc, World.size_setCell]; omega))]
    first | assumption | (simp [go_sem]; done)
  have f3_0_2 : w3.frozen? ⟨w2.heap.size, 2, none⟩ = false := by
    rw [hf3 _ _ (by first | omega | (simp only [World.size_alloc, World.size_setCell]; omega))]
    first | assumption | (simp [go_sem]; done)
  clear hc3 hf3 
  have ne0 : w2.heap.size ≠ w3.heap.size := by omega
  go_wp2_with fail
  refine (Calls.mono (HS.out _ _ _ _ _ (AX.below (by repeat (first | exact Below.refl _ _ | assumption | exact Nat.le_refl _ | (simp only [World.size_alloc, World.size_setCell]; omega) | omega | refine Below.alloc ?_ ?_ _ | refine Below.setCell ?_ ?_ _ | refine Below.drew ?_))) (AY.below (by repeat (first | exact Below.refl _ _ | assumption | exact Nat.le_refl _ | (simp only [World.size_alloc, World.size_setCell]; omega) | omega | refine Below.alloc ?_ ?_ _ | refine Below.setCell ?_ ?_ _ | refine Below.drew ?_))))) ?_
  rintro r w4 ⟨rfl, hb4⟩
  clear HS
  have hy4 : w3.heap.size ≤ w4.heap.size := by
    have := hb4.size
    try simp only [World.size_alloc, World.size_setCell] at this
    omega
  have hz4_0 : w2.heap.size < w4.heap.size := by
    have := hb4.size
    try simp only [World.size_alloc, World.size_setCell] at this
    omega
  have hz4_1 : w3.heap.size < w4.heap.size := by
    have := hb4.size
    try simp only [World.size_alloc, World.size_setCell] at this
    omega
  have B4 := Aside.intro (Below.trans (B := w3.heap.size) (a := w3) (by repeat (first | exact Below.refl _ _ | assumption | exact Nat.le_refl _ | (simp only [World.size_alloc, World.size_setCell]; omega) | omega | refine Below.alloc ?_ ?_ _ | refine Below.setCell ?_ ?_ _ | refine Below.drew ?_)) (hb4.mono (by first | omega | (simp only [World.size_alloc, World.size_setCell]; omega))))
  have S4 := Aside.intro (S3.out.trans (B4.out.mono S3.out.size))
  clear S3
  replace AX := AX.below B4.out
  replace AY := AY.below B4.out
  obtain ⟨hc4, hf4⟩ := bcell hb4
  clear hb4 B4
  have c4_0_0 : w4.cell? ⟨w2.heap.size, 0, none⟩ = some (.bool nX) := by
    rw [hc4 _ _ (by first | omega | (simp only [World.size_alloc, World.size_setCell]; omega))]
    first | assumption | (simp [go_sem, c3_0_0, f3_0_0, c3_0_1, f3_0_1, c3_0_2, f3_0_2, hz3_0, ne0]; done)
  have f4_0_0 : w4.frozen? ⟨w2.heap.size, 0, none⟩ = false := by
    rw [hf4 _ _ (by first | omega | (simp only [World.size_alloc, World.size_setCell]; omega))]
    first | assumption | (simp [go_sem, c3_0_0, f3_0_0, c3_0_1, f3_0_1, c3_0_2, f3_0_2, hz3_0, ne0]; done)
  have c4_0_1 : w4.cell? ⟨w2.heap.size, 1, none⟩ = some (.slice aX (ws XX).length cX) := by
    rw [hc4 _ _ (by first | omega | (simp only [World.size_alloc, World.size_setCell]; omega))]
    first | assumption | (simp [go_sem, c3_0_0, f3_0_0, c3_0_1, f3_0_1, c3_0_2, f3_0_2, hz3_0, ne0]; done)
  have f4_0_1 : w4.frozen? ⟨w2.heap.size, 1, none⟩ = false := by
    rw [hf4 _ _ (by first | omega | (simp only [World.size_alloc, World.size_setCell]; omega))]
    first | assumption | (simp [go_sem, c3_0_0, f3_0_0, c3_0_1, f3_0_1, c3_0_2, f3_0_2, hz3_0, ne0]; done)
  have c4_0_2 : w4.cell? ⟨w2.heap.size, 2, none⟩ = some (.int .i64 eX) := by
    rw [hc4 _ _ (by first | omega | (simp only [World.size_alloc, World.size_setCell]; omega))]
    first | assumption | (simp [go_sem, c3_0_0, f3_0_0, c3_0_1, f3_0_1, c3_0_2, f3_0_2, hz3_0, ne0]; done)
  have f4_0_2 : w4.frozen? ⟨w2.heap.size, 2, none⟩ = false := by
    rw [hf4 _ _ (by first | omega | (simp only [World.size_alloc, World.size_setCell]; omega))]
    first | assumption | (simp [go_sem, c3_0_0, f3_0_0, c3_0_1, f3_0_1, c3_0_2, f3_0_2, hz3_0, ne0]; done)
  have c4_1_0 : w4.cell? ⟨w3.heap.size, 0, none⟩ = some (.bool nY) := by
    rw [hc4 _ _ (by first | omega | (simp only [World.size_alloc, World.size_setCell]; omega))]
    first | assumption | (simp [go_sem, c3_0_0, f3_0_0, c3_0_1, f3_0_1, c3_0_2, f3_0_2, hz3_0, ne0]; done)
  have f4_1_0 : w4.frozen? ⟨w3.heap.size, 0, none⟩ = false := by
    rw [hf4 _ _ (by first | omega | (simp only [World.size_alloc, World.size_setCell]; omega))]
    first | assumption | (simp [go_sem, c3_0_0, f3_0_0, c3_0_1, f3_0_1, c3_0_2, f3_0_2, hz3_0, ne0]; done)
  have c4_1_1 : w4.cell? ⟨w3.heap.size, 1, none⟩ = some (.slice aY (ws XY).length cY) := by
    rw [hc4 _ _ (by first | omega | (simp only [World.size_alloc, World.size_setCell]; omega))]
    first | assumption | (simp [go_sem, c3_0_0, f3_0_0, c3_0_1, f3_0_1, c3_0_2, f3_0_2, hz3_0, ne0]; done)
  have f4_1_1 : w4.frozen? ⟨w3.heap.size, 1, none⟩ = false := by
    rw [hf4 _ _ (by first | omega | (simp only [World.size_alloc, World.size_setCell]; omega))]
    first | assumption | (simp [go_sem, c3_0_0, f3_0_0, c3_0_1, f3_0_1, c3_0_2, f3_0_2, hz3_0, ne0]; done)
  have c4_1_2 : w4.cell? ⟨w3.heap.size, 2, none⟩ = some (.int .i64 eY) := by
    rw [hc4 _ _ (by first | omega | (simp only [World.size_alloc, World.size_setCell]; omega))]
    first | assumption | (simp [go_sem, c3_0_0, f3_0_0, c3_0_1, f3_0_1, c3_0_2, f3_0_2, hz3_0, ne0]; done)
  have f4_1_2 : w4.frozen? ⟨w3.heap.size, 2, none⟩ = false := by
    rw [hf4 _ _ (by first | omega | (simp only [World.size_alloc, World.size_setCell]; omega))]
    first | assumption | (simp [go_sem, c3_0_0, f3_0_0, c3_0_1, f3_0_1, c3_0_2, f3_0_2, hz3_0, ne0]; done)
  clear hc4 hf4 c3_0_0 f3_0_0 c3_0_1 f3_0_1 c3_0_2 f3_0_2
  go_wp2_with fail
  refine (Calls.mono (HH.out _ _ _ (AX.below (by repeat (first | exact Below.refl _ _ | assumption | exact Nat.le_refl _ | (simp only [World.size_alloc, World.size_setCell]; omega) | omega | refine Below.alloc ?_ ?_ _ | refine Below.setCell ?_ ?_ _ | refine Below.drew ?_))))) ?_
  rintro r w5 ⟨rfl, hb5⟩
  clear HH
  have hy5 : w4.heap.size ≤ w5.heap.size := by
    have := hb5.size
    try simp only [World.size_alloc, World.size_setCell] at this
    omega
  have hz5_0 : w2.heap.size < w5.heap.size := by
    have := hb5.size
    try simp only [World.size_alloc, World.size_setCell] at this
    omega
  have hz5_1 : w3.heap.size < w5.heap.size := by
    have := hb5.size
    try simp only [World.size_alloc, World.size_setCell] at this
    omega
  have B5 := Aside.intro (Below.trans (B := w4.heap.size) (a := w4) (by repeat (first | exact Below.refl _ _ | assumption | exact Nat.le_refl _ | (simp only [World.size_alloc, World.size_setCell]; omega) | omega | refine Below.alloc ?_ ?_ _ | refine Below.setCell ?_ ?_ _ | refine Below.drew ?_)) (hb5.mono (by first | omega | (simp only [World.size_alloc, World.size_setCell]; omega))))
  have S5 := Aside.intro (S4.out.trans (B5.out.mono S4.out.size))
  clear S4
  replace AX := AX.below B5.out
  replace AY := AY.below B5.out
  obtain ⟨hc5, hf5⟩ := bcell hb5
  clear hb5 B5
  have c5_0_0 : w5.cell? ⟨w2.heap.size, 0, none⟩ = some (.bool nX) := by
    rw [hc5 _ _ (by first | omega | (simp only [World.size_alloc, World.size_setCell]; omega))]
    first | assumption | (simp [go_sem, c4_0_0, f4_0_0, c4_0_1, f4_0_1, c4_0_2, f4_0_2, c4_1_0, f4_1_0, c4_1_1, f4_1_1, c4_1_2, f4_1_2, hz4_0, hz4_1, ne0]; done)
  have f5_0_0 : w5.frozen? ⟨w2.heap.size, 0, none⟩ = false := by
    rw [hf5 _ _ (by first | omega | (simp only [World.size_alloc, World.size_setCell]; omega))]
    first | assumption | (simp [go_sem, c4_0_0, f4_0_0, c4_0_1, f4_0_1, c4_0_2, f4_0_2, c4_1_0, f4_1_0, c4_1_1, f4_1_1, c4_1_2, f4_1_2, hz4_0, hz4_1, ne0]; done)
  have c5_0_1 : w5.cell? ⟨w2.heap.size, 1, none⟩ = some (.slice aX (ws XX).length cX) := by
    rw [hc5 _ _ (by first | omega | (simp only [World.size_alloc, World.size_setCell]; omega))]
    first | assumption | (simp [go_sem, c4_0_0, f4_0_0, c4_0_1, f4_0_1, c4_0_2, f4_0_2, c4_1_0, f4_1_0, c4_1_1, f4_1_1, c4_1_2, f4_1_2, hz4_0, hz4_1, ne0]; done)
  have f5_0_1 : w5.frozen? ⟨w2.heap.size, 1, none⟩ = false := by
    rw [hf5 _ _ (by first | omega | (simp only [World.size_alloc, World.size_setCell]; omega))]
    first | assumption | (simp [go_sem, c4_0_0, f4_0_0, c4_0_1, f4_0_1, c4_0_2, f4_0_2, c4_1_0, f4_1_0, c4_1_1, f4_1_1, c4_1_2, f4_1_2, hz4_0, hz4_1, ne0]; done)
  have c5_0_2 : w5.cell? ⟨w2.heap.size, 2, none⟩ = some (.int .i64 eX) := by
    rw [hc5 _ _ (by first | omega | (simp only [World.size_alloc, World.size_setCell]; omega))]
    first | assumption | (simp [go_sem, c4_0_0, f4_0_0, c4_0_1, f4_0_1, c4_0_2, f4_0_2, c4_1_0, f4_1_0, c4_1_1, f4_1_1, c4_1_2, f4_1_2, hz4_0, hz4_1, ne0]; done)
  have f5_0_2 : w5.frozen? ⟨w2.heap.size, 2, none⟩ = false := by
    rw [hf5 _ _ (by first | omega | (simp only [World.size_alloc, World.size_setCell]; omega))]
    first | assumption | (simp [go_sem, c4_0_0, f4_0_0, c4_0_1, f4_0_1, c4_0_2, f4_0_2, c4_1_0, f4_1_0, c4_1_1, f4_1_1, c4_1_2, f4_1_2, hz4_0, hz4_1, ne0]; done)
  have c5_1_0 : w5.cell? ⟨w3.heap.size, 0, none⟩ = some (.bool nY) := by
    rw [hc5 _ _ (by first | omega | (simp only [World.size_alloc, World.size_setCell]; omega))]
    first | assumption | (simp [go_sem, c4_0_0, f4_0_0, c4_0_1, f4_0_1, c4_0_2, f4_0_2, c4_1_0, f4_1_0, c4_1_1, f4_1_1, c4_1_2, f4_1_2, hz4_0, hz4_1, ne0]; done)
  have f5_1_0 : w5.frozen? ⟨w3.heap.size, 0, none⟩ = false := by
    rw [hf5 _ _ (by first | omega | (simp only [World.size_alloc, World.size_setCell]; omega))]
    first | assumption | (simp [go_sem, c4_0_0, f4_0_0, c4_0_1, f4_0_1, c4_0_2, f4_0_2, c4_1_0, f4_1_0, c4_1_1, f4_1_1, c4_1_2, f4_1_2, hz4_0, hz4_1, ne0]; done)
  have c5_1_1 : w5.cell? ⟨w3.heap.size, 1, none⟩ = some (.slice aY (ws XY).length cY) := by
    rw [hc5 _ _ (by first | omega | (simp only [World.size_alloc, World.size_setCell]; omega))]
    first | assumption | (simp [go_sem, c4_0_0, f4_0_0, c4_0_1, f4_0_1, c4_0_2, f4_0_2, c4_1_0, f4_1_0, c4_1_1, f4_1_1, c4_1_2, f4_1_2, hz4_0, hz4_1, ne0]; done)
  have f5_1_1 : w5.frozen? ⟨w3.heap.size, 1, none⟩ = false := by
    rw [hf5 _ _ (by first | omega | (simp only [World.size_alloc, World.size_setCell]; omega))]
    first | assumption | (simp [go_sem, c4_0_0, f4_0_0, c4_0_1, f4_0_1, c4_0_2, f4_0_2, c4_1_0, f4_1_0, c4_1_1, f4_1_1, c4_1_2, f4_1_2, hz4_0, hz4_1, ne0]; done)
  have c5_1_2 : w5.cell? ⟨w3.heap.size, 2, none⟩ = some (.int .i64 eY) := by
    rw [hc5 _ _ (by first | omega | (simp only [World.size_alloc, World.size_setCell]; omega))]
    first | assumption | (simp [go_sem, c4_0_0, f4_0_0, c4_0_1, f4_0_1, c4_0_2, f4_0_2, c4_1_0, f4_1_0, c4_1_1, f4_1_1, c4_1_2, f4_1_2, hz4_0, hz4_1, ne0]; done)
  have f5_1_2 : w5.frozen? ⟨w3.heap.size, 2, none⟩ = false := by
    rw [hf5 _ _ (by first | omega | (simp only [World.size_alloc, World.size_setCell]; omega))]
    first | assumption | (simp [go_sem, c4_0_0, f4_0_0, c4_0_1, f4_0_1, c4_0_2, f4_0_2, c4_1_0, f4_1_0, c4_1_1, f4_1_1, c4_1_2, f4_1_2, hz4_0, hz4_1, ne0]; done)
  clear hc5 hf5 c4_0_0 f4_0_0 c4_0_1 f4_0_1 c4_0_2 f4_0_2 c4_1_0 f4_1_0 c4_1_1 f4_1_1 c4_1_2 f4_1_2
  go_wp2_with fail
  refine (Calls.mono (HP.out _ _ _ _ _ (AX.below (by repeat (first | exact Below.refl _ _ | assumption | exact Nat.le_refl _ | (simp only [World.size_alloc, World.size_setCell]; omega) | omega | refine Below.alloc ?_ ?_ _ | refine Below.setCell ?_ ?_ _ | refine Below.drew ?_))) (AY.below (by repeat (first | exact Below.refl _ _ | assumption | exact Nat.le_refl _ | (simp only [World.size_alloc, World.size_setCell]; omega) | omega | refine Below.alloc ?_ ?_ _ | refine Below.setCell ?_ ?_ _ | refine Below.drew ?_))))) ?_
  rintro r w6 ⟨rfl, hb6⟩
  clear HP
  have hy6 : w5.heap.size ≤ w6.heap.size := by
    have := hb6.size
    try simp only [World.size_alloc, World.size_setCell] at this
    omega
  have hz6_0 : w2.heap.size < w6.heap.size := by
    have := hb6.size
    try simp only [World.size_alloc, World.size_setCell] at this
    omega
  have hz6_1 : w3.heap.size < w6.heap.size := by
    have := hb6.size
    try simp only [World.size_alloc, World.size_setCell] at this
    omega
  have B6 := Aside.intro (Below.trans (B := w5.heap.size) (a := w5) (by repeat (first | exact Below.refl _ _ | assumption | exact Nat.le_refl _ | (simp only [World.size_alloc, World.size_setCell]; omega) | omega | refine Below.alloc ?_ ?_ _ | refine Below.setCell ?_ ?_ _ | refine Below.drew ?_)) (hb6.mono (by first | omega | (simp only [World.size_alloc, World.size_setCell]; omega))))
  have S6 := Aside.intro (S5.out.trans (B6.out.mono S5.out.size))
  clear S5
  replace AX := AX.below B6.out
  replace AY := AY.below B6.out
  obtain ⟨hc6, hf6⟩ := bcell hb6
  clear hb6 B6
  have c6_0_0 : w6.cell? ⟨w2.heap.size, 0, none⟩ = some (.bool nX) := by
    rw [hc6 _ _ (by first | omega | (simp only [World.size_alloc, World.size_setCell]; omega))]
    first | assumption | (simp [go_sem, c5_0_0, f5_0_0, c5_0_1, f5_0_1, c5_0_2, f5_0_2, c5_1_0, f5_1_0, c5_1_1, f5_1_1, c5_1_2, f5_1_2, hz5_0, hz5_1, ne0]; done)
  have f6_0_0 : w6.frozen? ⟨w2.heap.size, 0, none⟩ = false := by
    rw [hf6 _ _ (by first | omega | (simp only [World.size_alloc, World.size_setCell]; omega))]
    first | assumption | (simp [go_sem, c5_0_0, f5_0_0, c5_0_1, f5_0_1, c5_0_2, f5_0_2, c5_1_0, f5_1_0, c5_1_1, f5_1_1, c5_1_2, f5_1_2, hz5_0, hz5_1, ne0]; done)
  have c6_0_1 : w6.cell? ⟨w2.heap.size, 1, none⟩ = some (.slice aX (ws XX).length cX) := by
    rw [hc6 _ _ (by first | omega | (simp only [World.size_alloc, World.size_setCell]; omega))]
    first | assumption | (simp [go_sem, c5_0_0, f5_0_0, c5_0_1, f5_0_1, c5_0_2, f5_0_2, c5_1_0, f5_1_0, c5_1_1, f5_1_1, c5_1_2, f5_1_2, hz5_0, hz5_1, ne0]; done)
  have f6_0_1 : w6.frozen? ⟨w2.heap.size, 1, none⟩ = false := by
    rw [hf6 _ _ (by first | omega | (simp only [World.size_alloc, World.size_setCell]; omega))]
    first | assumption | (simp [go_sem, c5_0_0, f5_0_0, c5_0_1, f5_0_1, c5_0_2, f5_0_2, c5_1_0, f5_1_0, c5_1_1, f5_1_1, c5_1_2, f5_1_2, hz5_0, hz5_1, ne0]; done)
  have c6_0_2 : w6.cell? ⟨w2.heap.size, 2, none⟩ = some (.int .i64 eX) := by
    rw [hc6 _ _ (by first | omega | (simp only [World.size_alloc, World.size_setCell]; omega))]
    first | assumption | (simp [go_sem, c5_0_0, f5_0_0, c5_0_1, f5_0_1, c5_0_2, f5_0_2, c5_1_0, f5_1_0, c5_1_1, f5_1_1, c5_1_2, f5_1_2, hz5_0, hz5_1, ne0]; done)
  have f6_0_2 : w6.frozen? ⟨w2.heap.size, 2, none⟩ = false := by
    rw [hf6 _ _ (by first | omega | (simp only [World.size_alloc, World.size_setCell]; omega))]
    first | assumption | (simp [go_sem, c5_0_0, f5_0_0, c5_0_1, f5_0_1, c5_0_2, f5_0_2, c5_1_0, f5_1_0, c5_1_1, f5_1_1, c5_1_2, f5_1_2, hz5_0, hz5_1, ne0]; done)
  have c6_1_0 : w6.cell? ⟨w3.heap.size, 0, none⟩ = some (.bool nY) := by
    rw [hc6 _ _ (by first | omega | (simp only [World.size_alloc, World.size_setCell]; omega))]
    first | assumption | (simp [go_sem, c5_0_0, f5_0_0, c5_0_1, f5_0_1, c5_0_2, f5_0_2, c5_1_0, f5_1_0, c5_1_1, f5_1_1, c5_1_2, f5_1_2, hz5_0, hz5_1, ne0]; done)
  have f6_1_0 : w6.frozen? ⟨w3.heap.size, 0, none⟩ = false := by
    rw [hf6 _ _ (by first | omega | (simp only [World.size_alloc, World.size_setCell]; omega))]
    first | assumption | (simp [go_sem, c5_0_0, f5_0_0, c5_0_1, f5_0_1, c5_0_2, f5_0_2, c5_1_0, f5_1_0, c5_1_1, f5_1_1, c5_1_2, f5_1_2, hz5_0, hz5_1, ne0]; done)
  have c6_1_1 : w6.cell? ⟨w3.heap.size, 1, none⟩ = some (.slice aY (ws XY).length cY) := by
    rw [hc6 _ _ (by first | omega | (simp only [World.size_alloc, World.size_setCell]; omega))]
    first | assumption | (simp [go_sem, c5_0_0, f5_0_0, c5_0_1, f5_0_1, c5_0_2, f5_0_2, c5_1_0, f5_1_0, c5_1_1, f5_1_1, c5_1_2, f5_1_2, hz5_0, hz5_1, ne0]; done)
  have f6_1_1 : w6.frozen? ⟨w3.heap.size, 1, none⟩ = false := by
    rw [hf6 _ _ (by first | omega | (simp only [World.size_alloc, World.size_setCell]; omega))]
    first | assumption | (simp [go_sem, c5_0_0, f5_0_0, c5_0_1, f5_0_1, c5_0_2, f5_0_2, c5_1_0, f5_1_0, c5_1_1, f5_1_1, c5_1_2, f5_1_2, hz5_0, hz5_1, ne0]; done)
  have c6_1_2 : w6.cell? ⟨w3.heap.size, 2, none⟩ = some (.int .i64 eY) := by
    rw [hc6 _ _ (by first | omega | (simp only [World.size_alloc, World.size_setCell]; omega))]
    first | assumption | (simp [go_sem, c5_0_0, f5_0_0, c5_0_1, f5_0_1, c5_0_2, f5_0_2, c5_1_0, f5_1_0, c5_1_1, f5_1_1, c5_1_2, f5_1_2, hz5_0, hz5_1, ne0]; done)
  have f6_1_2 : w6.frozen? ⟨w3.heap.size, 2, none⟩ = false := by
    rw [hf6 _ _ (by first | omega | (simp only [World.size_alloc, World.size_setCell]; omega))]
    first | assumption | (simp [go_sem, c5_0_0, f5_0_0, c5_0_1, f5_0_1, c5_0_2, f5_0_2, c5_1_0, f5_1_0, c5_1_1, f5_1_1, c5_1_2, f5_1_2, hz5_0, hz5_1, ne0]; done)
  clear hc6 hf6 c5_0_0 f5_0_0 c5_0_1 f5_0_1 c5_0_2 f5_0_2 c5_1_0 f5_1_0 c5_1_1 f5_1_1 c5_1_2 f5_1_2
  go_wp2
  have SS := S6.out
  exact bodyPost_ret (v := .bool true) (by simp [results, Try.results5, go_sem, c6_0_0, f6_0_0, c6_0_1, f6_0_1, c6_0_2, f6_0_2, c6_1_0, f6_1_0, c6_1_1, f6_1_1, c6_1_2, f6_1_2, hz6_0, hz6_1, ne0]) rfl ⟨rfl, (by repeat (first | exact Below.refl _ _ | assumption | exact Nat.le_refl _ | (simp only [World.size_alloc, World.size_setCell]; omega) | omega | refine Below.alloc ?_ ?_ _ | refine Below.setCell ?_ ?_ _ | refine Below.drew ?_))⟩

/-- finite, at a number that is not. -/
theorem finite_not {x : Nat} (hx : Wd x) (h : ¬ finW x) (u : World) : Calls Try.prog 29 #[.float .f64 x] u fun r w' => (∃ v, r = .returned (.tuple #[.agg #[.bool false, v, .int .i64 0], .bool false]) ∧ Nt u.heap.size w' v 0) ∧ Below u.heap.size u w' := by
  obtain ⟨s, e, f, he, hf, h1⟩ := B.bw_of x hx
  have he7 : e = 2047 := by
    apply Classical.byContradiction; intro hne
    apply h
    unfold finW magW
    rw [h1]
    unfold B.bw
    cases s <;> simp <;> omega
  refine finite_core x false 0 0 30 u (by rw [ws_zero]; simp) (hid fun u => ?_)
  rw [h1]
  refine (rOf3_any s e f he hf u).mono ?_
  rintro r w' ⟨⟨v, hr, hN⟩, hb⟩
  have e1 : ofR s e f = none := by unfold ofR; rw [if_pos he7]
  have e2 : ofE e = 30 := by unfold ofE; rw [if_pos he7]
  rw [e1] at hN
  rw [e1, e2] at hr
  exact ⟨⟨v, hr, hN⟩, hb⟩
theorem walk_PairExact (a b : Nat) (w0 : (Lit.float .f64 a).wf = true) (w1 : (Lit.float .f64 b).wf = true) (w : World) :
    Calls Try.prog 5 #[.float .f64 a, .float .f64 b] w fun r w' => r = .returned (.bool true) ∧ Below w.heap.size w w' := by
  have ha : Wd a := by have h := w0; simp [Lit.wf] at h; exact h
  have hb : Wd b := by have h := w1; simp [Lit.wf] at h; exact h
  have z0 : (ws 0).length ≤ 8192 := by rw [ws_zero]; simp
  by_cases fa : finW a
  · obtain ⟨n1, X1, e1, o1, F1, _⟩ := of_fo (negW a) (magW a) fa
    have l1 := frmLen F1.frm.1
    by_cases fb : finW b
    · obtain ⟨n2, X2, e2, o2, F2, _⟩ := of_fo (negW b) (magW b) fb
      have l2 := frmLen F2.frm.1
      exact exact_tt a b n1 n2 X1 X2 e1 e2 w l1 l2 (hid fun u => finite_fin ha fa o1 l1 u) (hid fun u => finite_fin hb fb o2 l2 u) (hid fun u p q c d A C => sums_all ha hb fa fb F1 F2 u p q c d A C) (hid fun u p c A => halved_all ha fa F1 u p c A) (hid fun u p q c d A C => products_all ha hb fa fb F1 F2 u p q c d A C)
    · exact exact_tf a b n1 false X1 0 e1 0 w l1 z0 (hid fun u => finite_fin ha fa o1 l1 u) (hid fun u => finite_not hb fb u)
  · by_cases fb : finW b
    · obtain ⟨n2, X2, e2, o2, F2, _⟩ := of_fo (negW b) (magW b) fb
      have l2 := frmLen F2.frm.1
      exact exact_ft a b false n2 0 X2 0 e2 w z0 l2 (hid fun u => finite_not ha fa u) (hid fun u => finite_fin hb fb o2 l2 u)
    · exact exact_ff a b false false 0 0 0 0 w z0 z0 (hid fun u => finite_not ha fa u) (hid fun u => finite_not hb fb u)
end Go.Proofs.Ythilnddhehbjiab

