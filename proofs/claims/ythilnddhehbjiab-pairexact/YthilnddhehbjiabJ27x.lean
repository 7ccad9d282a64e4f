/- The law's halved. -/
import Derived.Test.YthilnddhehbjiabJ24x
import Derived.BigQuiet
import Derived.Deep.CutRange
import Derived.Deep.RegionHeld3
import Derived.Test.YthilnddhehbjiabJ16x
import Derived.KernelRfl
import Derived.Test.YthilnddhehbjiabJ26
namespace Go.Proofs.Ythilnddhehbjiab
open Go.RowKit J
set_option linter.unusedVariables false
set_option maxRecDepth 20000
set_option linter.unusedSimpArgs false
attribute [local go_sem] st_float

set_option maxHeartbeats 4000000 in
theorem halved_off (fa : Nat) (nX : Bool) (aX : Option Addr) (XX cX : Nat) (eX : Int) (w : World) (AX : Arg w aX (ws XX).length cX (ws XX)) (lX : (ws XX).length ≤ 8192)
    (H1 : Hid (∀ u a c, Arg u a (ws XX).length c (ws XX) → Calls Try.prog 47 #[.agg #[.bool nX, .slice a (ws XX).length c, .int .i64 eX], .int .i64 995] u fun r w' => r = .returned (.bool false) ∧ Below u.heap.size u w')) :
    Calls Try.prog 31 #[.float .f64 fa, .agg #[.bool nX, .slice aX (ws XX).length cX, .int .i64 eX]] w fun r w' => r = .returned (.bool true) ∧ Below w.heap.size w w' := by
  go_enter Try.func31, Try.ntmps31
  go_wp2_with fail
  refine (Calls.mono (H1.out _ _ _ (AX.below (by repeat (first | exact Below.refl _ _ | assumption | exact Nat.le_refl _ | (simp only [World.size_alloc, World.size_setCell]; omega) | omega | refine Below.alloc ?_ ?_ _ | refine Below.setCell ?_ ?_ _ | refine Below.drew ?_))))) ?_
  rintro r w1 ⟨rfl, hb1⟩
  clear H1
  have hy1 : w.heap.size ≤ w1.heap.size := by
    have := hb1.size
    try simp only [World.size_alloc, World.size_setCell] at this
    omega
  have hz1_0 : w.heap.size < w1.heap.size := by
    have := hb1.size
    try simp only [World.size_alloc, World.size_setCell] at this
    omega
  have B1 := Aside.intro (Below.trans (B := w.heap.size) (a := w) (by repeat (first | exact Below.refl _ _ | assumption | exact Nat.le_refl _ | (simp only [World.size_alloc, World.size_setCell]; omega) | omega | refine Below.alloc ?_ ?_ _ | refine Below.setCell ?_ ?_ _ | refine Below.drew ?_)) (hb1.mono (by first | omega | (simp only [World.size_alloc, World.size_setCell]; omega))))
  have S1 := B1
  replace AX := AX.below B1.out
  obtain ⟨hc1, hf1⟩ := bcell hb1
  clear hb1 B1
  have c1_0_0 : w1.cell? ⟨w.heap.size, 0, none⟩ = some (.bool nX) := by
    rw [hc1 _ _ (by first | omega | (simp only [World.size_alloc, World.size_setCell]; omega))]
    first | assumption | (simp [go_sem]; done)
  have f1_0_0 : w1.frozen? ⟨w.heap.size, 0, none⟩ = false := by
    rw [hf1 _ _ (by first | omega | (simp only [World.size_alloc, World.size_setCell]; omega))]
    first | assumption | (simp [go_sem]; done)
  have c1_0_1 : w1.cell? ⟨w.heap.size, 1, none⟩ = some (.slice aX (ws XX).length cX) := by
    rw [hc1 _ _ (by first | omega | (simp only [World.size_alloc, World.size_setCell]; omega))]
    first | assumption | (simp [go_sem]; done)
  have f1_0_1 : w1.frozen? ⟨w.heap.size, 1, none⟩ = false := by
    rw [hf1 _ _ (by first | omega | (simp only [World.size_alloc, World.size_setCell]; omega))]
    first | assumption | (simp [go_sem]; done)
  have c1_0_2 : w1.cell? ⟨w.heap.size, 2, none⟩ = some (.int .i64 eX) := by
    rw [hc1 _ _ (by first | omega | (simp only [World.size_alloc, World.size_setCell]; omega))]
    first | assumption | (simp [go_sem]; done)
  have f1_0_2 : w1.frozen? ⟨w.heap.size, 2, none⟩ = false := by
    rw [hf1 _ _ (by first | omega | (simp only [World.size_alloc, World.size_setCell]; omega))]
    first | assumption | (simp [go_sem]; done)
  clear hc1 hf1 
  go_wp2
  have SS := S1.out
  exact bodyPost_ret (v := .bool true) (by simp [results, Try.results31, go_sem, c1_0_0, f1_0_0, c1_0_1, f1_0_1, c1_0_2, f1_0_2, hz1_0]) rfl ⟨rfl, (by repeat (first | exact Below.refl _ _ | assumption | exact Nat.le_refl _ | (simp only [World.size_alloc, World.size_setCell]; omega) | omega | refine Below.alloc ?_ ?_ _ | refine Below.setCell ?_ ?_ _ | refine Below.drew ?_))⟩
set_option maxHeartbeats 8000000 in
theorem halved_on (fa : Nat) (nX : Bool) (aX : Option Addr) (XX cX : Nat) (eX : Int) (w : World) (AX : Arg w aX (ws XX).length cX (ws XX)) (lX : (ws XX).length ≤ 8192) (nP nQ : Bool) (XP XQ : Nat) (eP eQ bP bQ : Int) (s1 s2 : Nat) (lP : (ws XP).length ≤ 8192) (lQ : (ws XQ).length ≤ 8192) (hP : decide (bP ≤ 26) = true) (hQ : decide (bQ ≤ 26) = true)
    (H1 : Hid (∀ u a c, Arg u a (ws XX).length c (ws XX) → Calls Try.prog 47 #[.agg #[.bool nX, .slice a (ws XX).length c, .int .i64 eX], .int .i64 995] u fun r w' => r = .returned (.bool true) ∧ Below u.heap.size u w'))
    (HH : Hid (∀ u, Calls Try.prog 13 #[.float .f64 fa] u fun r w' => r = .returned (.agg #[.float .f64 s1, .float .f64 s2]) ∧ Below u.heap.size u w'))
    (HJ : Hid (∀ u a c, Arg u a (ws XX).length c (ws XX) → Calls Try.prog 48 #[.agg #[.float .f64 s1, .float .f64 s2], .agg #[.bool nX, .slice a (ws XX).length c, .int .i64 eX]] u fun r w' => r = .returned (.bool true) ∧ Below u.heap.size u w'))
    (HP : Hid (∀ u, Calls Try.prog 29 #[.float .f64 s1] u fun r w' => (∃ v, r = .returned (.tuple #[.agg #[.bool nP, v, .int .i64 eP], .bool true]) ∧ Nt u.heap.size w' v XP) ∧ Below u.heap.size u w'))
    (HQ : Hid (∀ u, Calls Try.prog 29 #[.float .f64 s2] u fun r w' => (∃ v, r = .returned (.tuple #[.agg #[.bool nQ, v, .int .i64 eQ], .bool true]) ∧ Nt u.heap.size w' v XQ) ∧ Below u.heap.size u w'))
    (HL : Hid (∀ u a c, Arg u a (ws XP).length c (ws XP) → Calls Try.prog 51 #[.slice a (ws XP).length c] u fun r w' => r = .returned (.int .i64 bP) ∧ w' = u))
    (HN : Hid (∀ u a c, Arg u a (ws XQ).length c (ws XQ) → Calls Try.prog 51 #[.slice a (ws XQ).length c] u fun r w' => r = .returned (.int .i64 bQ) ∧ w' = u)) :
    Calls Try.prog 31 #[.float .f64 fa, .agg #[.bool nX, .slice aX (ws XX).length cX, .int .i64 eX]] w fun r w' => r = .returned (.bool true) ∧ Below w.heap.size w w' := by
  go_enter Try.func31, Try.ntmps31
  go_wp2_with fail
  refine (Calls.mono (H1.out _ _ _ (AX.below (by repeat (first | exact Below.refl _ _ | assumption | exact Nat.le_refl _ | (simp only [World.size_alloc, World.size_setCell]; omega) | omega | refine Below.alloc ?_ ?_ _ | refine Below.setCell ?_ ?_ _ | refine Below.drew ?_))))) ?_
  rintro r w1 ⟨rfl, hb1⟩
  clear H1
  have hy1 : w.heap.size ≤ w1.heap.size := by
    have := hb1.size
    try simp only [World.size_alloc, World.size_setCell] at this
    omega
  have hz1_0 : w.heap.size < w1.heap.size := by
    have := hb1.size
    try simp only [World.size_alloc, World.size_setCell] at this
    omega
  have B1 := Aside.intro (Below.trans (B := w.heap.size) (a := w) (by repeat (first | exact Below.refl _ _ | assumption | exact Nat.le_refl _ | (simp only [World.size_alloc, World.size_setCell]; omega) | omega | refine Below.alloc ?_ ?_ _ | refine Below.setCell ?_ ?_ _ | refine Below.drew ?_)) (hb1.mono (by first | omega | (simp only [World.size_alloc, World.size_setCell]; omega))))
  have S1 := B1
  replace AX := AX.below B1.out
  obtain ⟨hc1, hf1⟩ := bcell hb1
  clear hb1 B1
  have c1_0_0 : w1.cell? ⟨w.heap.size, 0, none⟩ = some (.bool nX) := by
    rw [hc1 _ _ (by first | omega | (simp only [World.size_alloc, World.size_setCell]; omega))]
    first | assumption | (simp [go_sem]; done)
  have f1_0_0 : w1.frozen? ⟨w.heap.size, 0, none⟩ = false := by
    rw [hf1 _ _ (by first | omega | (simp only [World.size_alloc, World.size_setCell]; omega))]
    first | assumption | (simp [go_sem]; done)
  have c1_0_1 : w1.cell? ⟨w.heap.size, 1, none⟩ = some (.slice aX (ws XX).length cX) := by
    rw [hc1 _ _ (by first | omega | (simp only [World.size_alloc, World.size_setCell]; omega))]
    first | assumption | (simp [go_sem]; done)
  have f1_0_1 : w1.frozen? ⟨w.heap.size, 1, none⟩ = false := by
    rw [hf1 _ _ (by first | omega | (simp only [World.size_alloc, World.size_setCell]; omega))]
    first | assumption | (simp [go_sem]; done)
  have c1_0_2 : w1.cell? ⟨w.heap.size, 2, none⟩ = some (.int .i64 eX) := by
    rw [hc1 _ _ (by first | omega | (simp only [World.size_alloc, World.size_setCell]; omega))]
    first | assumption | (simp [go_sem]; done)
  have f1_0_2 : w1.frozen? ⟨w.heap.size, 2, none⟩ = false := by
    rw [hf1 _ _ (by first | omega | (simp only [World.size_alloc, World.size_setCell]; omega))]
    first | assumption | (simp [go_sem]; done)
  clear hc1 hf1 
  go_wp2_with fail
  refine (Calls.mono (HH.out _)) ?_
  rintro r w2 ⟨rfl, hb2⟩
  clear HH
  have hy2 : w1.heap.size ≤ w2.heap.size := by
    have := hb2.size
    try simp only [World.size_alloc, World.size_setCell] at this
    omega
  have hz2_0 : w.heap.size < w2.heap.size := by
    have := hb2.size
    try simp only [World.size_alloc, World.size_setCell] at this
    omega
  have B2 := Aside.intro (Below.trans (B := w1.heap.size) (a := w1) (by repeat (first | exact Below.refl _ _ | assumption | exact Nat.le_refl _ | (simp only [World.size_alloc, World.size_setCell]; omega) | omega | refine Below.alloc ?_ ?_ _ | refine Below.setCell ?_ ?_ _ | refine Below.drew ?_)) (hb2.mono (by first | omega | (simp only [World.size_alloc, World.size_setCell]; omega))))
  have S2 := Aside.intro (S1.out.trans (B2.out.mono S1.out.size))
  clear S1
  replace AX := AX.below B2.out
  obtain ⟨hc2, hf2⟩ := bcell hb2
  clear hb2 B2
  have c2_0_0 : w2.cell? ⟨w.heap.size, 0, none⟩ = some (.bool nX) := by
    rw [hc2 _ _ (by first | omega | (simp only [World.size_alloc, World.size_setCell]; omega))]
    first | assumption | (simp [go_sem, c1_0_0, f1_0_0, c1_0_1, f1_0_1, c1_0_2, f1_0_2, hz1_0]; done)
  have f2_0_0 : w2.frozen? ⟨w.heap.size, 0, none⟩ = false := by
    rw [hf2 _ _ (by first | omega | (simp only [World.size_alloc, World.size_setCell]; omega))]
    first | assumption | (simp [go_sem, c1_0_0, f1_0_0, c1_0_1, f1_0_1, c1_0_2, f1_0_2, hz1_0]; done)
  have c2_0_1 : w2.cell? ⟨w.heap.size, 1, none⟩ = some (.slice aX (ws XX).length cX) := by
    rw [hc2 _ _ (by first | omega | (simp only [World.size_alloc, World.size_setCell]; omega))]
    first | assumption | (simp [go_sem, c1_0_0, f1_0_0, c1_0_1, f1_0_1, c1_0_2, f1_0_2, hz1_0]; done)
  have f2_0_1 : w2.frozen? ⟨w.heap.size, 1, none⟩ = false := by
    rw [hf2 _ _ (by first | omega | (simp only [World.size_alloc, World.size_setCell]; omega))]
    first | assumption | (simp [go_sem, c1_0_0, f1_0_0, c1_0_1, f1_0_1, c1_0_2, f1_0_2, hz1_0]; done)
  have c2_0_2 : w2.cell? ⟨w.heap.size, 2, none⟩ = some (.int .i64 eX) := by
    rw [hc2 _ _ (by first | omega | (simp only [World.size_alloc, World.size_setCell]; omega))]
    first | assumption | (simp [go_sem, c1_0_0, f1_0_0, c1_0_1, f1_0_1, c1_0_2, f1_0_2, hz1_0]; done)
  have f2_0_2 : w2.frozen? ⟨w.heap.size, 2, none⟩ = false := by
    rw [hf2 _ _ (by first | omega | (simp only [World.size_alloc, World.size_setCell]; omega))]
    first | assumption | (simp [go_sem, c1_0_0, f1_0_0, c1_0_1, f1_0_1, c1_0_2, f1_0_2, hz1_0]; done)
  clear hc2 hf2 c1_0_0 f1_0_0 c1_0_1 f1_0_1 c1_0_2 f1_0_2
  have ne0 : w.heap.size ≠ w2.heap.size := by omega
  go_wp2_with fail
  refine (Calls.mono (HJ.out _ _ _ (AX.below (by repeat (first | exact Below.refl _ _ | assumption | exact Nat.le_refl _ | (simp only [World.size_alloc, World.size_setCell]; omega) | omega | refine Below.alloc ?_ ?_ _ | refine Below.setCell ?_ ?_ _ | refine Below.drew ?_))))) ?_
  rintro r w3 ⟨rfl, hb3⟩
  clear HJ
  have hy3 : w2.heap.size ≤ w3.heap.size := by
    have := hb3.size
    try simp only [World.size_alloc, World.size_setCell] at this
    omega
  have hz3_0 : w.heap.size < w3.heap.size := by
    have := hb3.size
    try simp only [World.size_alloc, World.size_setCell] at this
    omega
  have hz3_1 : w2.heap.size < w3.heap.size := by
    have := hb3.size
    try simp only [World.size_alloc, World.size_setCell] at this
    omega
  have B3 := Aside.intro (Below.trans (B := w2.heap.size) (a := w2) (by repeat (first | exact Below.refl _ _ | assumption | exact Nat.le_refl _ | (simp only [World.size_alloc, World.size_setCell]; omega) | omega | refine Below.alloc ?_ ?_ _ | refine Below.setCell ?_ ?_ _ | refine Below.drew ?_)) (hb3.mono (by first | omega | (simp only [World.size_alloc, World.size_setCell]; omega))))
  have S3 := Aside.intro (S2.out.trans (B3.out.mono S2.out.size))
  clear S2
  replace AX := AX.below B3.out
  obtain ⟨hc3, hf3⟩ := bcell hb3
  clear hb3 B3
  have c3_0_0 : w3.cell? ⟨w.heap.size, 0, none⟩ = some (.bool nX) := by
    rw [hc3 _ _ (by first | omega | (simp only [World.size_alloc, World.size_setCell]; omega))]
    first | assumption | (simp [go_sem, c2_0_0, f2_0_0, c2_0_1, f2_0_1, c2_0_2, f2_0_2, hz2_0, ne0]; done)
  have f3_0_0 : w3.frozen? ⟨w.heap.size, 0, none⟩ = false := by
    rw [hf3 _ _ (by first | omega | (simp only [World.size_alloc, World.size_setCell]; omega))]
    first | assumption | (simp [go_sem, c2_0_0, f2_0_0, c2_0_1, f2_0_1, c2_0_2, f2_0_2, hz2_0, ne0]; done)
  have c3_0_1 : w3.cell? ⟨w.heap.size, 1, none⟩ = some (.slice aX (ws XX).length cX) := by
    rw [hc3 _ _ (by first | omega | (simp only [World.size_alloc, World.size_setCell]; omega))]
    first | assumption | (simp [go_sem, c2_0_0, f2_0_0, c2_0_1, f2_0_1, c2_0_2, f2_0_2, hz2_0, ne0]; done)
  have f3_0_1 : w3.frozen? ⟨w.heap.size, 1, none⟩ = false := by
    rw [hf3 _ _ (by first | omega | (simp only [World.size_alloc, World.size_setCell]; omega))]
    first | assumption | (simp [go_sem, c2_0_0, f2_0_0, c2_0_1, f2_0_1, c2_0_2, f2_0_2, hz2_0, ne0]; done)
  have c3_0_2 : w3.cell? ⟨w.heap.size, 2, none⟩ = some (.int .i64 eX) := by
    rw [hc3 _ _ (by first | omega | (simp only [World.size_alloc, World.size_setCell]; omega))]
    first | assumption | (simp [go_sem, c2_0_0, f2_0_0, c2_0_1, f2_0_1, c2_0_2, f2_0_2, hz2_0, ne0]; done)
  have f3_0_2 : w3.frozen? ⟨w.heap.size, 2, none⟩ = false := by
    rw [hf3 _ _ (by first | omega | (simp only [World.size_alloc, World.size_setCell]; omega))]
    first | assumption | (simp [go_sem, c2_0_0, f2_0_0, c2_0_1, f2_0_1, c2_0_2, f2_0_2, hz2_0, ne0]; done)
  have c3_1_0 : w3.cell? ⟨w2.heap.size, 0, none⟩ = some (.float .f64 s1) := by
    rw [hc3 _ _ (by first | omega | (simp only [World.size_alloc, World.size_setCell]; omega))]
    first | assumption | (simp [go_sem, c2_0_0, f2_0_0, c2_0_1, f2_0_1, c2_0_2, f2_0_2, hz2_0, ne0]; done)
  have f3_1_0 : w3.frozen? ⟨w2.heap.size, 0, none⟩ = false := by
    rw [hf3 _ _ (by first | omega | (simp only [World.size_alloc, World.size_setCell]; omega))]
    first | assumption | (simp [go_sem, c2_0_0, f2_0_0, c2_0_1, f2_0_1, c2_0_2, f2_0_2, hz2_0, ne0]; done)
  have c3_1_1 : w3.cell? ⟨w2.heap.size, 1, none⟩ = some (.float .f64 s2) := by
    rw [hc3 _ _ (by first | omega | (simp only [World.size_alloc, World.size_setCell]; omega))]
    first | assumption | (simp [go_sem, c2_0_0, f2_0_0, c2_0_1, f2_0_1, c2_0_2, f2_0_2, hz2_0, ne0]; done)
  have f3_1_1 : w3.frozen? ⟨w2.heap.size, 1, none⟩ = false := by
    rw [hf3 _ _ (by first | omega | (simp only [World.size_alloc, World.size_setCell]; omega))]
    first | assumption | (simp [go_sem, c2_0_0, f2_0_0, c2_0_1, f2_0_1, c2_0_2, f2_0_2, hz2_0, ne0]; done)
  clear hc3 hf3 c2_0_0 f2_0_0 c2_0_1 f2_0_1 c2_0_2 f2_0_2
  go_wp2_with fail
  refine (Calls.mono (HP.out _)) ?_
  rintro r w4 ⟨⟨v4, rfl, N4⟩, hb4⟩
  obtain ⟨aP, cP, rfl, AP⟩ := N4.arg (by omega)
  clear N4
  clear HP
  have hy4 : w3.heap.size ≤ w4.heap.size := by
    have := hb4.size
    try simp only [World.size_alloc, World.size_setCell] at this
    omega
  have hz4_0 : w.heap.size < w4.heap.size := by
    have := hb4.size
    try simp only [World.size_alloc, World.size_setCell] at this
    omega
  have hz4_1 : w2.heap.size < w4.heap.size := by
    have := hb4.size
    try simp only [World.size_alloc, World.size_setCell] at this
    omega
  have B4 := Aside.intro (Below.trans (B := w3.heap.size) (a := w3) (by repeat (first | exact Below.refl _ _ | assumption | exact Nat.le_refl _ | (simp only [World.size_alloc, World.size_setCell]; omega) | omega | refine Below.alloc ?_ ?_ _ | refine Below.setCell ?_ ?_ _ | refine Below.drew ?_)) (hb4.mono (by first | omega | (simp only [World.size_alloc, World.size_setCell]; omega))))
  have S4 := Aside.intro (S3.out.trans (B4.out.mono S3.out.size))
  clear S3
  replace AX := AX.below B4.out
  obtain ⟨hc4, hf4⟩ := bcell hb4
  clear hb4 B4
  have c4_0_0 : w4.cell? ⟨w.heap.size, 0, none⟩ = some (.bool nX) := by
    rw [hc4 _ _ (by first | omega | (simp only [World.size_alloc, World.size_setCell]; omega))]
    first | assumption | (simp [go_sem, c3_0_0, f3_0_0, c3_0_1, f3_0_1, c3_0_2, f3_0_2, c3_1_0, f3_1_0, c3_1_1, f3_1_1, hz3_0, hz3_1, ne0]; done)
  have f4_0_0 : w4.frozen? ⟨w.heap.size, 0, none⟩ = false := by
    rw [hf4 _ _ (by first | omega | (simp only [World.size_alloc, World.size_setCell]; omega))]
    first | assumption | (simp [go_sem, c3_0_0, f3_0_0, c3_0_1, f3_0_1, c3_0_2, f3_0_2, c3_1_0, f3_1_0, c3_1_1, f3_1_1, hz3_0, hz3_1, ne0]; done)
  have c4_0_1 : w4.cell? ⟨w.heap.size, 1, none⟩ = some (.slice aX (ws XX).length cX) := by
    rw [hc4 _ _ (by first | omega | (simp only [World.size_alloc, World.size_setCell]; omega))]
    first | assumption | (simp [go_sem, c3_0_0, f3_0_0, c3_0_1, f3_0_1, c3_0_2, f3_0_2, c3_1_0, f3_1_0, c3_1_1, f3_1_1, hz3_0, hz3_1, ne0]; done)
  have f4_0_1 : w4.frozen? ⟨w.heap.size, 1, none⟩ = false := by
    rw [hf4 _ _ (by first | omega | (simp only [World.size_alloc, World.size_setCell]; omega))]
    first | assumption | (simp [go_sem, c3_0_0, f3_0_0, c3_0_1, f3_0_1, c3_0_2, f3_0_2, c3_1_0, f3_1_0, c3_1_1, f3_1_1, hz3_0, hz3_1, ne0]; done)
  have c4_0_2 : w4.cell? ⟨w.heap.size, 2, none⟩ = some (.int .i64 eX) := by
    rw [hc4 _ _ (by first | omega | (simp only [World.size_alloc, World.size_setCell]; omega))]
    first | assumption | (simp [go_sem, c3_0_0, f3_0_0, c3_0_1, f3_0_1, c3_0_2, f3_0_2, c3_1_0, f3_1_0, c3_1_1, f3_1_1, hz3_0, hz3_1, ne0]; done)
  have f4_0_2 : w4.frozen? ⟨w.heap.size, 2, none⟩ = false := by
    rw [hf4 _ _ (by first | omega | (simp only [World.size_alloc, World.size_setCell]; omega))]
    first | assumption | (simp [go_sem, c3_0_0, f3_0_0, c3_0_1, f3_0_1, c3_0_2, f3_0_2, c3_1_0, f3_1_0, c3_1_1, f3_1_1, hz3_0, hz3_1, ne0]; done)
  have c4_1_0 : w4.cell? ⟨w2.heap.size, 0, none⟩ = some (.float .f64 s1) := by
    rw [hc4 _ _ (by first | omega | (simp only [World.size_alloc, World.size_setCell]; omega))]
    first | assumption | (simp [go_sem, c3_0_0, f3_0_0, c3_0_1, f3_0_1, c3_0_2, f3_0_2, c3_1_0, f3_1_0, c3_1_1, f3_1_1, hz3_0, hz3_1, ne0]; done)
  have f4_1_0 : w4.frozen? ⟨w2.heap.size, 0, none⟩ = false := by
    rw [hf4 _ _ (by first | omega | (simp only [World.size_alloc, World.size_setCell]; omega))]
    first | assumption | (simp [go_sem, c3_0_0, f3_0_0, c3_0_1, f3_0_1, c3_0_2, f3_0_2, c3_1_0, f3_1_0, c3_1_1, f3_1_1, hz3_0, hz3_1, ne0]; done)
  have c4_1_1 : w4.cell? ⟨w2.heap.size, 1, none⟩ = some (.float .f64 s2) := by
    rw [hc4 _ _ (by first | omega | (simp only [World.size_alloc, World.size_setCell]; omega))]
    first | assumption | (simp [go_sem, c3_0_0, f3_0_0, c3_0_1, f3_0_1, c3_0_2, f3_0_2, c3_1_0, f3_1_0, c3_1_1, f3_1_1, hz3_0, hz3_1, ne0]; done)
  have f4_1_1 : w4.frozen? ⟨w2.heap.size, 1, none⟩ = false := by
    rw [hf4 _ _ (by first | omega | (simp only [World.size_alloc, World.size_setCell]; omega))]
    first | assumption | (simp [go_sem, c3_0_0, f3_0_0, c3_0_1, f3_0_1, c3_0_2, f3_0_2, c3_1_0, f3_1_0, c3_1_1, f3_1_1, hz3_0, hz3_1, ne0]; done)
  clear hc4 hf4 c3_0_0 f3_0_0 c3_0_1 f3_0_1 c3_0_2 f3_0_2 c3_1_0 f3_1_0 c3_1_1 f3_1_1
  have ne1 : w.heap.size ≠ w4.heap.size := by omega
  have ne2 : w2.heap.size ≠ w4.heap.size := by omega
  go_wp2_with fail
  refine (Calls.mono (HQ.out _)) ?_
  rintro r w5 ⟨⟨v5, rfl, N5⟩, hb5⟩
  obtain ⟨aQ, cQ, rfl, AQ⟩ := N5.arg (by omega)
  clear N5
  clear HQ
  have hy5 : w4.heap.size ≤ w5.heap.size := by
    have := hb5.size
    try simp only [World.size_alloc, World.size_setCell] at this
    omega
  have hz5_0 : w.heap.size < w5.heap.size := by
    have := hb5.size
    try simp only [World.size_alloc, World.size_setCell] at this
    omega
  have hz5_1 : w2.heap.size < w5.heap.size := by
    have := hb5.size
    try simp only [World.size_alloc, World.size_setCell] at this
    omega
  have hz5_2 : w4.heap.size < w5.heap.size := by
    have := hb5.size
    try simp only [World.size_alloc, World.size_setCell] at this
    omega
  have B5 := Aside.intro (Below.trans (B := w4.heap.size) (a := w4) (by repeat (first | exact Below.refl _ _ | assumption | exact Nat.le_refl _ | (simp only [World.size_alloc, World.size_setCell]; omega) | omega | refine Below.alloc ?_ ?_ _ | refine Below.setCell ?_ ?_ _ | refine Below.drew ?_)) (hb5.mono (by first | omega | (simp only [World.size_alloc, World.size_setCell]; omega))))
  have S5 := Aside.intro (S4.out.trans (B5.out.mono S4.out.size))
  clear S4
  replace AX := AX.below B5.out
  replace AP := AP.below B5.out
  obtain ⟨hc5, hf5⟩ := bcell hb5
  clear hb5 B5
  have c5_0_0 : w5.cell? ⟨w.heap.size, 0, none⟩ = some (.bool nX) := by
    rw [hc5 _ _ (by first | omega | (simp only [World.size_alloc, World.size_setCell]; omega))]
    first | assumption | (simp [go_sem, c4_0_0, f4_0_0, c4_0_1, f4_0_1, c4_0_2, f4_0_2, c4_1_0, f4_1_0, c4_1_1, f4_1_1, hz4_0, hz4_1, ne0, ne1, ne2]; done)
  have f5_0_0 : w5.frozen? ⟨w.heap.size, 0, none⟩ = false := by
    rw [hf5 _ _ (by first | omega | (simp only [World.size_alloc, World.size_setCell]; omega))]
    first | assumption | (simp [go_sem, c4_0_0, f4_0_0, c4_0_1, f4_0_1, c4_0_2, f4_0_2, c4_1_0, f4_1_0, c4_1_1, f4_1_1, hz4_0, hz4_1, ne0, ne1, ne2]; done)
  have c5_0_1 : w5.cell? ⟨w.heap.size, 1, none⟩ = some (.slice aX (ws XX).length cX) := by
    rw [hc5 _ _ (by first | omega | (simp only [World.size_alloc, World.size_setCell]; omega))]
    first | assumption | (simp [go_sem, c4_0_0, f4_0_0, c4_0_1, f4_0_1, c4_0_2, f4_0_2, c4_1_0, f4_1_0, c4_1_1, f4_1_1, hz4_0, hz4_1, ne0, ne1, ne2]; done)
  have f5_0_1 : w5.frozen? ⟨w.heap.size, 1, none⟩ = false := by
    rw [hf5 _ _ (by first | omega | (simp only [World.size_alloc, World.size_setCell]; omega))]
    first | assumption | (simp [go_sem, c4_0_0, f4_0_0, c4_0_1, f4_0_1, c4_0_2, f4_0_2, c4_1_0, f4_1_0, c4_1_1, f4_1_1, hz4_0, hz4_1, ne0, ne1, ne2]; done)
  have c5_0_2 : w5.cell? ⟨w.heap.size, 2, none⟩ = some (.int .i64 eX) := by
    rw [hc5 _ _ (by first | omega | (simp only [World.size_alloc, World.size_setCell]; omega))]
    first | assumption | (simp [go_sem, c4_0_0, f4_0_0, c4_0_1, f4_0_1, c4_0_2, f4_0_2, c4_1_0, f4_1_0, c4_1_1, f4_1_1, hz4_0, hz4_1, ne0, ne1, ne2]; done)
  have f5_0_2 : w5.frozen? ⟨w.heap.size, 2, none⟩ = false := by
    rw [hf5 _ _ (by first | omega | (simp only [World.size_alloc, World.size_setCell]; omega))]
    first | assumption | (simp [go_sem, c4_0_0, f4_0_0, c4_0_1, f4_0_1, c4_0_2, f4_0_2, c4_1_0, f4_1_0, c4_1_1, f4_1_1, hz4_0, hz4_1, ne0, ne1, ne2]; done)
  have c5_1_0 : w5.cell? ⟨w2.heap.size, 0, none⟩ = some (.float .f64 s1) := by
    rw [hc5 _ _ (by first | omega | (simp only [World.size_alloc, World.size_setCell]; omega))]
    first | assumption | (simp [go_sem, c4_0_0, f4_0_0, c4_0_1, f4_0_1, c4_0_2, f4_0_2, c4_1_0, f4_1_0, c4_1_1, f4_1_1, hz4_0, hz4_1, ne0, ne1, ne2]; done)
  have f5_1_0 : w5.frozen? ⟨w2.heap.size, 0, none⟩ = false := by
    rw [hf5 _ _ (by first | omega | (simp only [World.size_alloc, World.size_setCell]; omega))]
    first | assumption | (simp [go_sem, c4_0_0, f4_0_0, c4_0_1, f4_0_1, c4_0_2, f4_0_2, c4_1_0, f4_1_0, c4_1_1, f4_1_1, hz4_0, hz4_1, ne0, ne1, ne2]; done)
  have c5_1_1 : w5.cell? ⟨w2.heap.size, 1, none⟩ = some (.float .f64 s2) := by
    rw [hc5 _ _ (by first | omega | (simp only [World.size_alloc, World.size_setCell]; omega))]
    first | assumption | (simp [go_sem, c4_0_0, f4_0_0, c4_0_1, f4_0_1, c4_0_2, f4_0_2, c4_1_0, f4_1_0, c4_1_1, f4_1_1, hz4_0, hz4_1, ne0, ne1, ne2]; done)
  have f5_1_1 : w5.frozen? ⟨w2.heap.size, 1, none⟩ = false := by
    rw [hf5 _ _ (by first | omega | (simp only [World.size_alloc, World.size_setCell]; omega))]
    first | assumption | (simp [go_sem, c4_0_0, f4_0_0, c4_0_1, f4_0_1, c4_0_2, f4_0_2, c4_1_0, f4_1_0, c4_1_1, f4_1_1, hz4_0, hz4_1, ne0, ne1, ne2]; done)
  have c5_2_0 : w5.cell? ⟨w4.heap.size, 0, none⟩ = some (.bool nP) := by
    rw [hc5 _ _ (by first | omega | (simp only [World.size_alloc, World.size_setCell]; omega))]
    first | assumption | (simp [go_sem, c4_0_0, f4_0_0, c4_0_1, f4_0_1, c4_0_2, f4_0_2, c4_1_0, f4_1_0, c4_1_1, f4_1_1, hz4_0, hz4_1, ne0, ne1, ne2]; done)
  have f5_2_0 : w5.frozen? ⟨w4.heap.size, 0, none⟩ = false := by
    rw [hf5 _ _ (by first | omega | (simp only [World.size_alloc, World.size_setCell]; omega))]
    first | assumption | (simp [go_sem, c4_0_0, f4_0_0, c4_0_1, f4_0_1, c4_0_2, f4_0_2, c4_1_0, f4_1_0, c4_1_1, f4_1_1, hz4_0, hz4_1, ne0, ne1, ne2]; done)
  have c5_2_1 : w5.cell? ⟨w4.heap.size, 1, none⟩ = some (.slice aP (ws XP).length cP) := by
    rw [hc5 _ _ (by first | omega | (simp only [World.size_alloc, World.size_setCell]; omega))]
    first | assumption | (simp [go_sem, c4_0_0, f4_0_0, c4_0_1, f4_0_1, c4_0_2, f4_0_2, c4_1_0, f4_1_0, c4_1_1, f4_1_1, hz4_0, hz4_1, ne0, ne1, ne2]; done)
  have f5_2_1 : w5.frozen? ⟨w4.heap.size, 1, none⟩ = false := by
    rw [hf5 _ _ (by first | omega | (simp only [World.size_alloc, World.size_setCell]; omega))]
    first | assumption | (simp [go_sem, c4_0_0, f4_0_0, c4_0_1, f4_0_1, c4_0_2, f4_0_2, c4_1_0, f4_1_0, c4_1_1, f4_1_1, hz4_0, hz4_1, ne0, ne1, ne2]; done)
  have c5_2_2 : w5.cell? ⟨w4.heap.size, 2, none⟩ = some (.int .i64 eP) := by
    rw [hc5 _ _ (by first | omega | (simp only [World.size_alloc, World.size_setCell]; omega))]
    first | assumption | (simp [go_sem, c4_0_0, f4_0_0, c4_0_1, f4_0_1, c4_0_2, f4_0_2, c4_1_0, f4_1_0, c4_1_1, f4_1_1, hz4_0, hz4_1, ne0, ne1, ne2]; done)
  have f5_2_2 : w5.frozen? ⟨w4.heap.size, 2, none⟩ = false := by
    rw [hf5 _ _ (by first | omega | (simp only [World.size_alloc, World.size_setCell]; omega))]
    first | assumption | (simp [go_sem, c4_0_0, f4_0_0, c4_0_1, f4_0_1, c4_0_2, f4_0_2, c4_1_0, f4_1_0, c4_1_1, f4_1_1, hz4_0, hz4_1, ne0, ne1, ne2]; done)
  clear hc5 hf5 c4_0_0 f4_0_0 c4_0_1 f4_0_1 c4_0_2 f4_0_2 c4_1_0 f4_1_0 c4_1_1 f4_1_1
  have ne3 : w.heap.size ≠ w5.heap.size := by omega
  have ne4 : w2.heap.size ≠ w5.heap.size := by omega
  have ne5 : w4.heap.size ≠ w5.heap.size := by omega
  go_wp2_with fail
  refine (Calls.mono (HL.out _ _ _ (AP.below (by repeat (first | exact Below.refl _ _ | assumption | exact Nat.le_refl _ | (simp only [World.size_alloc, World.size_setCell]; omega) | omega | refine Below.alloc ?_ ?_ _ | refine Below.setCell ?_ ?_ _ | refine Below.drew ?_))))) ?_
  rintro r wx ⟨rfl, hw⟩
  rw [hw]
  clear hw wx HL
  go_wp2_with fail
  refine (Calls.mono (HN.out _ _ _ (AQ.below (by repeat (first | exact Below.refl _ _ | assumption | exact Nat.le_refl _ | (simp only [World.size_alloc, World.size_setCell]; omega) | omega | refine Below.alloc ?_ ?_ _ | refine Below.setCell ?_ ?_ _ | refine Below.drew ?_))))) ?_
  rintro r wx ⟨rfl, hw⟩
  rw [hw]
  clear hw wx HN
  go_wp2
  have SS := S5.out
  exact bodyPost_ret (v := .bool true) (by simp [results, Try.results31, go_sem, c5_0_0, f5_0_0, c5_0_1, f5_0_1, c5_0_2, f5_0_2, c5_1_0, f5_1_0, c5_1_1, f5_1_1, c5_2_0, f5_2_0, c5_2_1, f5_2_1, c5_2_2, f5_2_2, hz5_0, hz5_1, hz5_2, ne0, ne1, ne2, ne3, ne4, ne5]) rfl ⟨rfl, (by repeat (first | exact Below.refl _ _ | assumption | exact Nat.le_refl _ | (simp only [World.size_alloc, World.size_setCell]; omega) | omega | refine Below.alloc ?_ ?_ _ | refine Below.setCell ?_ ?_ _ | refine Below.drew ?_))⟩
end Go.Proofs.Ythilnddhehbjiab

/- Steps of finite numbers by their values (whole numbers of units of 2^-1074): what is rounded is the nearest. -/
namespace Go.Proofs.Ythilnddhehbjiab
open Go.RowKit J
set_option linter.unusedVariables false
set_option maxRecDepth 20000

/-- A finite word; its value. -/
abbrev finW (x : Nat) : Prop := magW x < 9218868437227405312
def fvW (x : Nat) : Int := B.sg (negW x) (vK (magW x))
/-- Two to the power of 1022, in those units: 2^2096. -/
def EQ : Nat := 2096
theorem exQ : ∃ q : Nat, q = 2 ^ EQ := ⟨_, rfl⟩
noncomputable def QQ : Nat := Classical.choose exQ
theorem Q_eq : QQ = 2 ^ EQ := Classical.choose_spec exQ
theorem Q_pos : 0 < QQ := by rw [Q_eq]; exact Nat.two_pow_pos _

theorem sg_abs (s : Bool) (v : Nat) : (B.sg s v).natAbs = v := absSg s v
theorem vK_F (K : Nat) : ∃ m k : Nat, vK K = m * 2 ^ k ∧ m ≤ 9007199254740992 := by
  show ∃ m k, B.val Ieee.double K = m * 2 ^ k ∧ m ≤ 9007199254740992
  unfold B.val
  rw [B.dBin]
  split
  · exact ⟨K, 0, by simp, by omega⟩
  · exact ⟨_, _, rfl, by omega⟩
theorem fv_F (x : Nat) : IsF (fvW x) := by
  obtain ⟨m, k, h1, h2⟩ := vK_F (magW x)
  unfold fvW B.sg
  rw [h1]
  cases negW x
  · exact ⟨(m : Int), k, by simp, by omega, by omega⟩
  · exact ⟨-(m : Int), k, by simp [Int.neg_mul], by omega, by omega⟩
theorem F_vK {f : Int} (h : IsF f) : ∃ L, vK L = f.natAbs := by
  by_cases hs : f.natAbs ≤ 9007199254740992
  · refine ⟨f.natAbs, ?_⟩
    have := vK_word 0 f.natAbs (.inl rfl) hs
    simpa using this
  · obtain ⟨k, h1, h2, h3⟩ := h.placed
    have h2' : 2 ^ (52 + k) ≤ f.natAbs := by
      rcases h2 with rfl | h2
      · omega
      · exact h2
    obtain ⟨q, hq⟩ := h3
    have hf : f.natAbs = q.natAbs * 2 ^ k := by rw [hq, Int.natAbs_mul, natAbs_p2, Nat.mul_comm]
    rw [hf] at h1 h2' ⊢
    rw [Nat.pow_add] at h1 h2'
    have a1 := Nat.lt_of_mul_lt_mul_right h1
    have a2 := Nat.le_of_mul_le_mul_right h2' (Nat.two_pow_pos _)
    exact ⟨_, vK_word k q.natAbs (.inr (by omega)) (by omega)⟩

/-- The nearest rung is the nearest. -/
theorem ne_near {R V L : Nat} (h : NE R V 1) : ((vK R : Int) - V).natAbs ≤ ((vK L : Int) - V).natAbs := by
  have u : 2 * V ≤ vK R + vK (R + 1) := by have := h.up; rw [Nat.mul_one] at this; exact this
  rcases Nat.lt_trichotomy L R with c | c | c
  · have d : vK (R - 1) + vK R ≤ 2 * V := by have := h.dn (by omega); rw [Nat.mul_one] at this; exact this
    have m1 : vK L ≤ vK (R - 1) := vmono (by omega)
    have m2 : vK (R - 1) < vK R := vK_lt.2 (by omega)
    omega
  · rw [c]; omega
  · have m1 : vK (R + 1) ≤ vK L := vmono (by omega)
    have m2 : vK R < vK (R + 1) := vK_lt.2 (by omega)
    omega
theorem ne_rn {R : Nat} {T : Int} (h : NE R T.natAbs 1) {s : Bool} (hs : T ≠ 0 → s = decide (T < 0)) : IsRn T (B.sg s (vK R)) := by
  have hF : IsF (B.sg s (vK R)) := by
    obtain ⟨m, k, h1, h2⟩ := vK_F R
    unfold B.sg
    rw [h1]
    cases s
    · exact ⟨(m : Int), k, by simp, by omega, by omega⟩
    · exact ⟨-(m : Int), k, by simp [Int.neg_mul], by omega, by omega⟩
  refine ⟨hF, fun f hf => ?_⟩
  obtain ⟨L, hL⟩ := F_vK hf
  have n := ne_near (L := L) h
  by_cases hT : T = 0
  · subst hT
    have : NE 0 (0 : Int).natAbs 1 := NEf.own (by decide) (by rw [B.val_zero]; rfl)
    rw [h.one this (by decide), show vK 0 = 0 from B.val_zero _]
    unfold B.sg
    cases s <;> simp
  · have e := hs hT
    unfold B.sg
    by_cases hn : T < 0
    · rw [decide_eq_true hn] at e; subst e
      simp only [if_true]
      omega
    · rw [decide_eq_false hn] at e; subst e
      simp only [Bool.false_eq_true, if_false]
      omega
theorem top_half (K : Nat) (h : 9218868437227405311 ≤ K) : 2 * QQ < vK K := by
  obtain ⟨c, hc⟩ : ∃ c : Nat, c = 2045 := ⟨_, rfl⟩
  have h1 := vK_word c 4503599627370496 (.inr (by omega)) (by omega)
  have h2 : c * 4503599627370496 + 4503599627370496 < K := by rw [hc]; omega
  have h3 := vK_lt.2 h2
  rw [h1] at h3
  have h4 : 2 * QQ = 4503599627370496 * 2 ^ c := by
    have a1 : EQ + 1 = 52 + c := by rw [hc]; unfold EQ; rfl
    have a2 : 2 * 2 ^ EQ = 2 ^ (EQ + 1) := by rw [Nat.pow_succ, Nat.mul_comm]
    rw [Q_eq, a2, a1, Nat.pow_add]
  omega
theorem ne_fin {R V : Nat} (h : NE R V 1) (hV : V ≤ 3 * QQ) : R < 9218868437227405312 := by
  apply Nat.lt_of_not_le; intro hh
  have d : vK (R - 1) + vK R ≤ 2 * V := by have := h.dn (by omega); rw [Nat.mul_one] at this; exact this
  have a1 := top_half (R - 1) (by omega)
  obtain ⟨c, hc⟩ : ∃ c : Nat, c = 2045 := ⟨_, rfl⟩
  have h1 := vK_word c 9007199254740992 (.inr (by omega)) (by omega)
  have h2 : c * 4503599627370496 + 9007199254740992 ≤ R := by rw [hc]; omega
  have h3 : vK (c * 4503599627370496 + 9007199254740992) ≤ vK R := vmono h2
  rw [h1] at h3
  have h4 : 4 * QQ = 9007199254740992 * 2 ^ c := by
    have a1 : EQ + 2 = 53 + c := by rw [hc]; unfold EQ; rfl
    have a2 : 4 * 2 ^ EQ = 2 ^ (EQ + 2) := by rw [Nat.pow_add, Nat.mul_comm]
    rw [Q_eq, a2, a1, Nat.pow_add]
  omega

theorem fv_wd (s : Bool) (K : Nat) (h : K < 9218868437227405312) : finW (wd64 s K) ∧ fvW (wd64 s K) = B.sg s (vK K) := by
  obtain ⟨h1, h2, _⟩ := magW_wd s K (by omega)
  unfold fvW
  rw [h1, h2]
  exact ⟨by unfold finW; rw [h1]; exact h, rfl⟩
/-- A sum. -/
theorem pl_fin {x y : Nat} (hx : Wd x) (hy : Wd y) (fx : finW x) (fy : finW y) (hT : (fvW x + fvW y).natAbs ≤ 3 * QQ) : finW (plW x y) ∧ IsRn (fvW x + fvW y) (fvW (plW x y)) := by
  obtain ⟨R, hR, hA⟩ := add_wd (negW x) (negW y) (magW x) (magW y) fx fy
  rw [← wd_of x hx, ← wd_of y hy] at hA
  have e : plW x y = wd64 (if fvW x + fvW y = 0 then negW x && negW y else decide (fvW x + fvW y < 0)) (min R 9218868437227405312) := by
    show (Ieee.double.add x y).getD oddW = _
    rw [hA]; rfl
  have hf := ne_fin hR hT
  rw [Nat.min_eq_left (by omega)] at e
  obtain ⟨k1, k2⟩ := fv_wd (if fvW x + fvW y = 0 then negW x && negW y else decide (fvW x + fvW y < 0)) R hf
  rw [e]
  refine ⟨k1, ?_⟩
  rw [k2]
  exact ne_rn (T := fvW x + fvW y) hR (fun h => if_neg h)
theorem fv_turn {y : Nat} (hy : Wd y) (fy : finW y) : finW (turnW y) ∧ fvW (turnW y) = -fvW y := by
  have hm : magW y < 9223372036854775808 := Nat.mod_lt _ (by decide)
  have e : turnW y = wd64 (!negW y) (magW y) := by rw [← turn_wd _ _ hm, ← wd_of y hy]
  rw [e]
  obtain ⟨k1, k2⟩ := fv_wd (!negW y) (magW y) fy
  refine ⟨k1, ?_⟩
  rw [k2]
  unfold fvW B.sg
  cases negW y <;> simp
/-- A difference. -/
theorem mi_fin {x y : Nat} (hx : Wd x) (hy : Wd y) (fx : finW x) (fy : finW y) (hT : (fvW x - fvW y).natAbs ≤ 3 * QQ) : finW (miW x y) ∧ IsRn (fvW x - fvW y) (fvW (miW x y)) := by
  obtain ⟨k1, k2⟩ := fv_turn hy fy
  have e : miW x y = plW x (turnW y) := sub_turn x y hy
  have := pl_fin hx (turn_lt y hy) fx k1 (by rw [k2]; rwa [Int.sub_eq_add_neg] at hT)
  rw [e, Int.sub_eq_add_neg, ← k2]
  exact this
/-- A product that is whole in those units. -/
theorem ti_fin {x y : Nat} (hx : Wd x) (hy : Wd y) (fx : finW x) (fy : finW y) {P : Int} (hP : fvW x * fvW y = P * (UU : Int)) (hT : P.natAbs ≤ 3 * QQ) : finW (tiW x y) ∧ IsRn P (fvW (tiW x y)) := by
  obtain ⟨R, hR, hA⟩ := mul_wd EU rfl (negW x) (negW y) (magW x) (magW y) fx fy
  rw [← wd_of x hx, ← wd_of y hy] at hA
  rw [← U_eq] at hR
  have hU := U_pos
  have e : tiW x y = wd64 (negW x != negW y) (min R 9218868437227405312) := by
    show (Ieee.double.mul x y).getD oddW = _
    rw [hA]; rfl
  have ha : vK (magW x) * vK (magW y) = P.natAbs * UU := by
    have := congrArg Int.natAbs hP
    rw [Int.natAbs_mul, Int.natAbs_mul, Int.natAbs_natCast] at this
    unfold fvW at this
    rw [sg_abs, sg_abs] at this
    exact this
  have hR1 : NE R P.natAbs 1 := by
    rw [ha] at hR
    refine NEf.unscale hU ?_
    rw [Nat.one_mul]; exact hR
  have hf := ne_fin hR1 hT
  rw [Nat.min_eq_left (by omega)] at e
  obtain ⟨k1, k2⟩ := fv_wd (negW x != negW y) R hf
  rw [e]
  refine ⟨k1, ?_⟩
  rw [k2]
  refine ne_rn hR1 (fun h => ?_)
  -- the sign
  have hv : (0 : Int) < (vK (magW x) : Int) * (vK (magW y) : Int) := by
    rw [← Int.natCast_mul, ha]
    have := Nat.mul_pos (show 0 < P.natAbs by omega) hU
    omega
  have hlt : P < 0 ↔ fvW x * fvW y < 0 := by
    rw [hP]
    constructor
    · intro h1; exact Int.mul_neg_of_neg_of_pos h1 (by omega)
    · intro h1; apply Int.lt_of_not_ge; intro h2; have := Int.mul_nonneg h2 (show (0 : Int) ≤ UU by omega); omega
  have hd : decide (P < 0) = decide (fvW x * fvW y < 0) := decide_eq_decide.2 hlt
  rw [hd]
  unfold fvW B.sg
  cases negW x <;> cases negW y <;> simp [Int.neg_mul, Int.mul_neg] <;> omega
end Go.Proofs.Ythilnddhehbjiab

/- P5.6 by words: Sum, Quick, Halves, Product of finite numbers. -/
namespace Go.Proofs.Ythilnddhehbjiab
open Go.RowKit J
set_option linter.unusedVariables false
set_option maxRecDepth 20000

theorem two_Q : 2 * QQ = 2 ^ (EQ + 1) := by rw [Q_eq, Nat.pow_succ, Nat.mul_comm]
theorem rn_2Q {V s : Int} (h : IsRn V s) (hV : V.natAbs ≤ 2 * QQ) : s.natAbs ≤ 2 * QQ := by
  rw [two_Q] at hV ⊢; exact h.abs_le hV

/-- What came of a call: two finite numbers, and their sum. -/
structure Two (p : Nat × Nat) (V : Int) : Prop where
  w1 : Wd p.1
  w2 : Wd p.2
  f1 : finW p.1
  f2 : finW p.2
  val : fvW p.1 + fvW p.2 = V

theorem quick_two {a b : Nat} (ha : Wd a) (hb : Wd b) (fa : finW a) (fb : finW b) (la : (fvW a).natAbs ≤ QQ) (lb : (fvW b).natAbs ≤ QQ) (hab : (fvW b).natAbs ≤ (fvW a).natAbs) : Two (quickP a b) (fvW a + fvW b) := by
  have hQ := Q_pos
  obtain ⟨f1, r1⟩ := pl_fin ha hb fa fb (by omega)
  have n1 := r1.near _ (fv_F a)
  have s1 := rn_2Q r1 (by omega)
  obtain ⟨f2, r2⟩ := mi_fin (pl_wd a b) ha f1 fa (by omega)
  have s2 := rn_2Q r2 (by omega)
  obtain ⟨f3, r3⟩ := mi_fin hb (mi_wd _ _) fb f2 (by omega)
  exact ⟨pl_wd _ _, mi_wd _ _, f1, f3, quick_just (fv_F a) (fv_F b) hab r1 r2 r3⟩

theorem tiny {V s : Int} {Q : Nat} (h : 4503599627370496 * 2 * (s - V).natAbs ≤ V.natAbs) (hV : V.natAbs ≤ 4 * Q) : -(Q : Int) ≤ 64 * (s - V) ∧ 64 * (s - V) ≤ Q := by omega
theorem sum_bound {A C H T G V X : Int} {Q : Nat} (t1 : -(Q : Int) ≤ 64 * (H - (A + C)) ∧ 64 * (H - (A + C)) ≤ Q) (t2 : -(Q : Int) ≤ 64 * (T - (H - A)) ∧ 64 * (T - (H - A)) ≤ Q) (t3 : -(Q : Int) ≤ 64 * (G - (H - T)) ∧ 64 * (G - (H - T)) ≤ Q)
    (e4 : 4503599627370496 * 2 * (V - (A - G)).natAbs ≤ (A - G).natAbs) (e5 : 4503599627370496 * 2 * (X - (C - T)).natAbs ≤ (C - T).natAbs) : (V + X).natAbs ≤ 3 * Q := by
  have k3 : (A - G).natAbs ≤ 4 * Q := by omega
  have k4 : (C - T).natAbs ≤ 4 * Q := by omega
  have t4 := tiny e4 k3
  have t5 := tiny e5 k4
  clear e4 e5 k3 k4
  omega
theorem sum_two {a b : Nat} (ha : Wd a) (hb : Wd b) (fa : finW a) (fb : finW b) (la : (fvW a).natAbs ≤ QQ) (lb : (fvW b).natAbs ≤ QQ) : Two (sumP a b) (fvW a + fvW b) := by
  have hQ := Q_pos
  obtain ⟨f1, r1⟩ := pl_fin ha hb fa fb (by omega)
  have n1 := r1.near _ (fv_F a)
  have s1 := rn_2Q r1 (by omega)
  have t1 := Aside.intro (tiny (Q := QQ) r1.rel (by omega))
  obtain ⟨f2, r2⟩ := mi_fin (pl_wd a b) ha f1 fa (by omega)
  have s2 := rn_2Q r2 (by omega)
  have t2 := Aside.intro (tiny (Q := QQ) r2.rel (by omega))
  have n2 := r2.near _ (fv_F (plW a b))
  clear n1
  obtain ⟨f3, r3⟩ := mi_fin (pl_wd a b) (mi_wd (plW a b) a) f1 f2 (by omega)
  have s3 := rn_2Q r3 (by omega)
  have t3 := Aside.intro (tiny (Q := QQ) r3.rel (by omega))
  clear n2
  obtain ⟨f4, r4⟩ := mi_fin ha (mi_wd (plW a b) (miW (plW a b) a)) fa f3 (by omega)
  obtain ⟨f5, r5⟩ := mi_fin hb (mi_wd (plW a b) a) fb f2 (by omega)
  obtain ⟨f6, r6⟩ := pl_fin (mi_wd a (miW (plW a b) (miW (plW a b) a))) (mi_wd b (miW (plW a b) a)) f4 f5 (sum_bound t1.out t2.out t3.out r4.rel r5.rel)
  exact ⟨pl_wd _ _, pl_wd _ _, f1, f6, sum_just (fv_F a) (fv_F b) r1 r2 r3 r4 r5 r6⟩

theorem c27_fin : finW 4728779608772575232 ∧ Wd 4728779608772575232 := by constructor <;> decide
theorem c27_val : fvW 4728779608772575232 = 134217729 * (UU : Int) := by
  have h1 : negW 4728779608772575232 = false := by decide
  obtain ⟨c, hc⟩ : ∃ c : Nat, c = 1049 := ⟨_, rfl⟩
  have h2 : magW 4728779608772575232 = c * 4503599627370496 + 4503599660924928 := by rw [hc]; decide
  unfold fvW
  rw [h1, h2, vK_word c 4503599660924928 (.inr (by decide)) (by decide)]
  have h3 : UU = 33554432 * 2 ^ c := by
    have a1 : EU = 25 + c := by rw [hc]; unfold EU; rfl
    rw [U_eq, a1, Nat.pow_add]
  unfold B.sg
  simp only [Bool.false_eq_true, if_false]
  rw [h3]
  generalize (2 : Nat) ^ c = q
  omega

/-- P5.6: Halves. -/
theorem half_two {a : Nat} (ha : Wd a) (fa : finW a) (la : 134217728 * (fvW a).natAbs ≤ QQ) : Two (halfP a) (fvW a) ∧ ∃ g k, Hv (fvW a) (fvW (halfP a).1) (fvW (halfP a).2) g k := by
  have hQ := Q_pos
  obtain ⟨c1, c2⟩ := c27_fin
  have c3 := c27_val
  obtain ⟨f1, r1⟩ := ti_fin (P := 134217729 * fvW a) c2 ha c1 fa (by rw [c3, Int.mul_right_comm]) (by omega)
  have e1 := r1.rel
  obtain ⟨f2, r2⟩ := mi_fin ha (ti_wd 4728779608772575232 a) fa f1 (by omega)
  have e2 := r2.rel
  obtain ⟨f3, r3⟩ := pl_fin (ti_wd 4728779608772575232 a) (mi_wd a (tiW 4728779608772575232 a)) f1 f2 (by omega)
  have e3 := r3.rel
  obtain ⟨f4, r4⟩ := mi_fin ha (pl_wd (tiW 4728779608772575232 a) (miW a (tiW 4728779608772575232 a))) fa f3 (by omega)
  obtain ⟨g, k, H⟩ := halves_just (fv_F a) r1 r2 r3 r4
  exact ⟨⟨pl_wd _ _, mi_wd _ _, f3, f4, H.sum⟩, g, k, H⟩

theorem hv_small {a hi lo : Int} {g k : Nat} (h : Hv a hi lo g k) : hi.natAbs ≤ 2 * a.natAbs ∧ 2 * lo.natAbs ≤ a.natAbs := by
  have hb := h.hb
  have lb := h.lb
  have hs := h.sum
  rcases h.low with hl | ⟨h1, h2⟩
  · have e1 : 2 ^ (26 + (g + k)) = 2 * 2 ^ (25 + (g + k)) := by rw [show 26 + (g + k) = 25 + (g + k) + 1 by omega, Nat.pow_succ, Nat.mul_comm]
    have e2 : 2 ^ (25 + (g + k)) = 33554432 * 2 ^ (g + k) := by rw [Nat.pow_add]
    omega
  · subst h1; subst h2
    simp at lb
    omega

/-- P5.6: Product, by values. -/
theorem prod_vals {a b : Int} {ah al bh bl : Int} {g k h l : Nat} (Ha : Hv a ah al g k) (Hb : Hv b bh bl h l) (hT : a * b ≠ 0) {e : Nat} (he : e = 1179) (hlow : 2 ^ e ≤ (a * b).natAbs) :
    ∃ n x y z t : Int, ∃ N : Nat, a * b = (x + y + z + t) * (UU : Int) ∧ ah * bh = x * (UU : Int) ∧ ah * bl = y * (UU : Int) ∧ al * bh = z * (UU : Int) ∧ al * bl = t * (UU : Int) ∧
      (2 : Int) ^ (N + g + h) ∣ x ∧ (2 : Int) ^ (N + g) ∣ y ∧ (2 : Int) ^ (N + h) ∣ z ∧ (2 : Int) ^ N ∣ t ∧
      x.natAbs ≤ 2 ^ (52 + (N + g + h)) ∧ 2 * y.natAbs ≤ 67108864 * 2 ^ (N + g + h) ∧ 2 * z.natAbs ≤ 67108864 * 2 ^ (N + g + h) ∧ 4 * t.natAbs ≤ 2 ^ (N + g + h) ∧
      (x + y + z + t).natAbs ≤ 2 ^ (52 + (N + g + h)) ∧ (1 ≤ g → 1 ≤ h → 2 ^ (50 + (N + g + h)) ≤ (x + y + z + t).natAbs) ∧ (g = 0 → z = 0 ∧ t = 0) ∧ (h = 0 → y = 0 ∧ t = 0) := by
  obtain ⟨A, hA⟩ := Ha.hd
  obtain ⟨A2, hA2⟩ := Ha.ld
  obtain ⟨C, hC⟩ := Hb.hd
  obtain ⟨C2, hC2⟩ := Hb.ld
  have g27 := Ha.g27
  have h27 := Hb.g27
  -- the places together
  have hkl : EU ≤ k + l := by
    have h1 : (a * b).natAbs < 2 ^ (26 + (g + k)) * 2 ^ (26 + (h + l)) := by
      rw [Int.natAbs_mul]; exact Nat.mul_lt_mul'' Ha.high Hb.high
    rw [← Nat.pow_add] at h1
    have h2 := (Nat.pow_lt_pow_iff_right (by decide : 1 < 2)).1 (Nat.lt_of_le_of_lt hlow h1)
    have : EU = 1074 := rfl
    omega
  obtain ⟨N, hN⟩ : ∃ N, k + l = EU + N := ⟨k + l - EU, by omega⟩
  have pU : ∀ i j : Nat, (2 : Int) ^ (i + k) * 2 ^ (j + l) = 2 ^ (N + i + j) * (UU : Int) := by
    intro i j
    rw [U_eq, p2c, ← Int.pow_add, ← Int.pow_add]
    congr 1; omega
  have n2 : ∀ m, ((2 : Int) ^ m).natAbs = 2 ^ m := natAbs_p2
  -- sizes
  have sA : A.natAbs ≤ 67108864 := by
    have := Ha.hb
    rw [hA, Int.natAbs_mul, n2, show 26 + (g + k) = (g + k) + 26 by omega, Nat.pow_add _ _ 26] at this
    exact Nat.le_of_mul_le_mul_left this (Nat.two_pow_pos _)
  have sC : C.natAbs ≤ 67108864 := by
    have := Hb.hb
    rw [hC, Int.natAbs_mul, n2, show 26 + (h + l) = (h + l) + 26 by omega, Nat.pow_add _ _ 26] at this
    exact Nat.le_of_mul_le_mul_left this (Nat.two_pow_pos _)
  have sA2 : 2 * A2.natAbs ≤ 2 ^ g := by
    have := Ha.lb
    rw [hA2, Int.natAbs_mul, n2, Nat.pow_add, Nat.mul_left_comm, Nat.mul_comm (2 ^ g)] at this
    exact Nat.le_of_mul_le_mul_left this (Nat.two_pow_pos _)
  have sC2 : 2 * C2.natAbs ≤ 2 ^ h := by
    have := Hb.lb
    rw [hC2, Int.natAbs_mul, n2, Nat.pow_add, Nat.mul_left_comm, Nat.mul_comm (2 ^ h)] at this
    exact Nat.le_of_mul_le_mul_left this (Nat.two_pow_pos _)
  have q0 := pU g h
  have q1 := pU g 0
  have q2 := pU 0 h
  have q3 := pU 0 0
  simp only [Nat.zero_add, Nat.add_zero] at q1 q2 q3
  have ex : ah * bh = A * C * 2 ^ (N + g + h) * (UU : Int) := by rw [hA, hC, Int.mul_assoc (A * C), ← q0]; simp only [Int.mul_assoc, Int.mul_left_comm, Int.mul_comm]
  have ey : ah * bl = A * C2 * 2 ^ (N + g) * (UU : Int) := by rw [hA, hC2, Int.mul_assoc (A * C2), ← q1]; simp only [Int.mul_assoc, Int.mul_left_comm, Int.mul_comm]
  have ez : al * bh = A2 * C * 2 ^ (N + h) * (UU : Int) := by rw [hA2, hC, Int.mul_assoc (A2 * C), ← q2]; simp only [Int.mul_assoc, Int.mul_left_comm, Int.mul_comm]
  have et : al * bl = A2 * C2 * 2 ^ N * (UU : Int) := by rw [hA2, hC2, Int.mul_assoc (A2 * C2), ← q3]; simp only [Int.mul_assoc, Int.mul_left_comm, Int.mul_comm]
  have eT : a * b = (A * C * 2 ^ (N + g + h) + A * C2 * 2 ^ (N + g) + A2 * C * 2 ^ (N + h) + A2 * C2 * 2 ^ N) * (UU : Int) := by
    rw [Int.add_mul, Int.add_mul, Int.add_mul, ← ex, ← ey, ← ez, ← et, ← Ha.sum, ← Hb.sum, Int.add_mul, Int.mul_add, Int.mul_add]; omega
  have hU := U_pos
  have aT : (a * b).natAbs = (A * C * 2 ^ (N + g + h) + A * C2 * 2 ^ (N + g) + A2 * C * 2 ^ (N + h) + A2 * C2 * 2 ^ N).natAbs * UU := by rw [eT, Int.natAbs_mul, Int.natAbs_natCast]
  have pw3 : ∀ i : Nat, 2 ^ (i + (N + g + h)) * UU = 2 ^ (i + (g + k) + (h + l)) := by
    intro i; rw [U_eq, ← Nat.pow_add]; congr 1; omega
  refine ⟨0, A * C * 2 ^ (N + g + h), A * C2 * 2 ^ (N + g), A2 * C * 2 ^ (N + h), A2 * C2 * 2 ^ N, N, eT, ex, ey, ez, et, Int.dvd_mul_left _ _, Int.dvd_mul_left _ _, Int.dvd_mul_left _ _, Int.dvd_mul_left _ _, ?_, ?_, ?_, ?_, ?_, ?_, ?_, ?_⟩
  · rw [Int.natAbs_mul, Int.natAbs_mul, n2, Nat.pow_add 2 52]
    exact Nat.mul_le_mul_right _ (Nat.le_trans (Nat.mul_le_mul sA sC) (by decide))
  · rw [Int.natAbs_mul, Int.natAbs_mul, n2, Nat.pow_add 2 (N + g) h]
    have := Nat.mul_le_mul sA sC2
    have := Nat.mul_le_mul_right (2 ^ (N + g)) this
    rw [Nat.mul_comm (2 ^ (N + g)) (2 ^ h), ← Nat.mul_assoc 67108864]
    refine Nat.le_trans (Nat.le_of_eq ?_) this
    simp only [Nat.mul_assoc, Nat.mul_left_comm, Nat.mul_comm]
  · rw [Int.natAbs_mul, Int.natAbs_mul, n2, show N + g + h = N + h + g by omega, Nat.pow_add 2 (N + h) g]
    have := Nat.mul_le_mul sC sA2
    have := Nat.mul_le_mul_right (2 ^ (N + h)) this
    rw [Nat.mul_comm (2 ^ (N + h)) (2 ^ g), ← Nat.mul_assoc 67108864]
    refine Nat.le_trans (Nat.le_of_eq ?_) this
    simp only [Nat.mul_assoc, Nat.mul_left_comm, Nat.mul_comm]
  · rw [Int.natAbs_mul, Int.natAbs_mul, n2, Nat.add_assoc, Nat.pow_add 2 N, Nat.pow_add 2 g]
    have := Nat.mul_le_mul sA2 sC2
    have := Nat.mul_le_mul_left (2 ^ N) this
    refine Nat.le_trans (Nat.le_of_eq ?_) this
    rw [show (4 : Nat) = 2 * 2 from rfl]
    simp only [Nat.mul_assoc, Nat.mul_left_comm, Nat.mul_comm]
  · apply Nat.le_of_mul_le_mul_right _ hU
    rw [← aT, pw3, Int.natAbs_mul, show 52 + (g + k) + (h + l) = (26 + (g + k)) + (26 + (h + l)) by omega, Nat.pow_add]
    exact Nat.mul_le_mul (Nat.le_of_lt Ha.high) (Nat.le_of_lt Hb.high)
  · intro g1 h1
    apply Nat.le_of_mul_le_mul_right _ hU
    rw [← aT, pw3, Int.natAbs_mul, show 50 + (g + k) + (h + l) = (25 + (g + k)) + (25 + (h + l)) by omega, Nat.pow_add]
    exact Nat.mul_le_mul (by rcases Ha.low with q | q; exact q; omega) (by rcases Hb.low with q | q; exact q; omega)
  · intro g0
    have : A2 = 0 := by rw [g0] at sA2; simp at sA2; omega
    rw [this]; simp
  · intro h0
    have : C2 = 0 := by rw [h0] at sC2; simp at sC2; omega
    rw [this]; simp
end Go.Proofs.Ythilnddhehbjiab

/- P5.6 by words: Product. -/
namespace Go.Proofs.Ythilnddhehbjiab
open Go.RowKit J
set_option linter.unusedVariables false
set_option maxRecDepth 20000
set_option linter.unusedSimpArgs false

theorem mulAbs {a b c d : Int} {m n : Nat} (h1 : a.natAbs ≤ m * c.natAbs) (h2 : b.natAbs ≤ n * d.natAbs) : (a * b).natAbs ≤ m * n * (c * d).natAbs := by
  rw [Int.natAbs_mul, Int.natAbs_mul]
  refine Nat.le_trans (Nat.mul_le_mul h1 h2) (Nat.le_of_eq ?_)
  simp only [Nat.mul_assoc, Nat.mul_left_comm, Nat.mul_comm]
theorem unUU {x P : Int} {T X : Int} {m : Nat} (hx : X = x * (UU : Int)) (hP : T = P * (UU : Int)) (h : X.natAbs ≤ m * T.natAbs) : x.natAbs ≤ m * P.natAbs := by
  rw [hx, hP, Int.natAbs_mul, Int.natAbs_mul, Int.natAbs_natCast, ← Nat.mul_assoc] at h
  exact Nat.le_of_mul_le_mul_right h U_pos
theorem p_bound1 {P s x y z t : Int} {Q : Nat} (eP : P = x + y + z + t) (hs : (s - P).natAbs ≤ P.natAbs) (bP : 2 * P.natAbs ≤ Q) (by' : y.natAbs ≤ P.natAbs) (bz : z.natAbs ≤ P.natAbs) (bt : t.natAbs ≤ P.natAbs) : (x - s).natAbs ≤ 3 * Q := by omega
theorem p_bound2 {P s x y z t p1 : Int} {Q : Nat} (eP : P = x + y + z + t) (hs : (s - P).natAbs ≤ P.natAbs) (bP : 2 * P.natAbs ≤ Q) (bz : z.natAbs ≤ P.natAbs) (bt : t.natAbs ≤ P.natAbs) (e1 : -(Q : Int) ≤ 64 * (p1 - (x - s)) ∧ 64 * (p1 - (x - s)) ≤ Q) : (p1 + y).natAbs ≤ 3 * Q := by omega
theorem p_bound3 {P s x y z t p1 p2 : Int} {Q : Nat} (eP : P = x + y + z + t) (hs : (s - P).natAbs ≤ P.natAbs) (bP : 2 * P.natAbs ≤ Q) (bt : t.natAbs ≤ P.natAbs) (e1 : -(Q : Int) ≤ 64 * (p1 - (x - s)) ∧ 64 * (p1 - (x - s)) ≤ Q) (e2 : -(Q : Int) ≤ 64 * (p2 - (p1 + y)) ∧ 64 * (p2 - (p1 + y)) ≤ Q) : (p2 + z).natAbs ≤ 3 * Q := by omega
theorem p_bound4 {P s x y z t p1 p2 p3 : Int} {Q : Nat} (eP : P = x + y + z + t) (hs : (s - P).natAbs ≤ P.natAbs) (bP : 2 * P.natAbs ≤ Q) (e1 : -(Q : Int) ≤ 64 * (p1 - (x - s)) ∧ 64 * (p1 - (x - s)) ≤ Q) (e2 : -(Q : Int) ≤ 64 * (p2 - (p1 + y)) ∧ 64 * (p2 - (p1 + y)) ≤ Q) (e3 : -(Q : Int) ≤ 64 * (p3 - (p2 + z)) ∧ 64 * (p3 - (p2 + z)) ≤ Q) : (p3 + t).natAbs ≤ 3 * Q := by omega
theorem le34 {x : Int} {Q : Nat} (h : x.natAbs ≤ 3 * Q) : x.natAbs ≤ 4 * Q := by omega

theorem half1 {x : Int} {n : Nat} (h : 2 * x.natAbs ≤ n) : x.natAbs ≤ 1 * n := by omega
theorem half2 {x : Int} {n : Nat} (h : 2 * x.natAbs ≤ n) : (2 * x).natAbs ≤ 1 * n := by omega
theorem half3 {x : Int} {n : Nat} (h : (2 * x).natAbs ≤ 2 * 1 * n) : x.natAbs ≤ n := by omega
theorem half4 {x : Int} {n : Nat} (h : (2 * x).natAbs ≤ 1 * 2 * n) : x.natAbs ≤ n := by omega
theorem half5 {x : Int} {n : Nat} (h : x.natAbs ≤ 1 * 1 * n) : x.natAbs ≤ n := by omega
theorem bq0 {P : Int} {Q : Nat} (h : 2 * P.natAbs ≤ Q) : P.natAbs ≤ 3 * Q := by omega
theorem bq4 {P x : Int} {Q : Nat} (h : 2 * P.natAbs ≤ Q) (hx : x.natAbs ≤ 4 * P.natAbs) : x.natAbs ≤ 3 * Q := by omega
theorem bq1 {P x : Int} {Q : Nat} (h : 2 * P.natAbs ≤ Q) (hx : x.natAbs ≤ P.natAbs) : x.natAbs ≤ 3 * Q := by omega

set_option maxHeartbeats 1000000 in
theorem prod_two {a b : Nat} (ha : Wd a) (hb : Wd b) (fa : finW a) (fb : finW b) (la : 134217728 * (fvW a).natAbs ≤ QQ) (lb : 134217728 * (fvW b).natAbs ≤ QQ)
    {e : Nat} (he : e = 1179) (hT : fvW a * fvW b = 0 ∨ 2 ^ e ≤ (fvW a * fvW b).natAbs) (hup : 2 * (fvW a * fvW b).natAbs ≤ QQ * UU) : ∃ P : Int, fvW a * fvW b = P * (UU : Int) ∧ Two (prodP a b) P := by
  obtain ⟨Ta, g, k, Ha⟩ := half_two ha fa la
  obtain ⟨Tb, h, l, Hb⟩ := half_two hb fb lb
  have sa := hv_small Ha
  have sb := hv_small Hb
  have hU := U_pos
  have facts : ∃ x y z t : Int, ∃ N g h : Nat, g ≤ 27 ∧ h ≤ 27 ∧ fvW a * fvW b = (x + y + z + t) * (UU : Int) ∧ fvW (halfP a).1 * fvW (halfP b).1 = x * (UU : Int) ∧ fvW (halfP a).1 * fvW (halfP b).2 = y * (UU : Int) ∧ fvW (halfP a).2 * fvW (halfP b).1 = z * (UU : Int) ∧ fvW (halfP a).2 * fvW (halfP b).2 = t * (UU : Int) ∧
      (2 : Int) ^ (N + g + h) ∣ x ∧ (2 : Int) ^ (N + g) ∣ y ∧ (2 : Int) ^ (N + h) ∣ z ∧ (2 : Int) ^ N ∣ t ∧
      x.natAbs ≤ 2 ^ (52 + (N + g + h)) ∧ 2 * y.natAbs ≤ 67108864 * 2 ^ (N + g + h) ∧ 2 * z.natAbs ≤ 67108864 * 2 ^ (N + g + h) ∧ 4 * t.natAbs ≤ 2 ^ (N + g + h) ∧
      (x + y + z + t).natAbs ≤ 2 ^ (52 + (N + g + h)) ∧ (1 ≤ g → 1 ≤ h → 2 ^ (50 + (N + g + h)) ≤ (x + y + z + t).natAbs) ∧ (g = 0 → z = 0 ∧ t = 0) ∧ (h = 0 → y = 0 ∧ t = 0) := by
    rcases hT with h0 | h0
    · have z1 : fvW (halfP a).1 * fvW (halfP b).1 = 0 := by have := mulAbs sa.1 sb.1; rw [h0] at this; simp only [Int.natAbs_zero, Nat.mul_zero, Nat.le_zero_eq, Int.natAbs_eq_zero] at this; exact this
      have z2 : fvW (halfP a).1 * fvW (halfP b).2 = 0 := by have := mulAbs (n := 1) sa.1 (half1 sb.2); rw [h0] at this; simp only [Int.natAbs_zero, Nat.mul_zero, Nat.le_zero_eq, Int.natAbs_eq_zero] at this; exact this
      have z3 : fvW (halfP a).2 * fvW (halfP b).1 = 0 := by have := mulAbs (m := 1) (half1 sa.2) sb.1; rw [h0] at this; simp only [Int.natAbs_zero, Nat.mul_zero, Nat.le_zero_eq, Int.natAbs_eq_zero] at this; exact this
      have z4 : fvW (halfP a).2 * fvW (halfP b).2 = 0 := by have := mulAbs (m := 1) (n := 1) (half1 sa.2) (half1 sb.2); rw [h0] at this; simp only [Int.natAbs_zero, Nat.mul_zero, Nat.le_zero_eq, Int.natAbs_eq_zero] at this; exact this
      refine ⟨0, 0, 0, 0, 0, 0, 0, by omega, by omega, by rw [h0]; simp, by rw [z1]; simp, by rw [z2]; simp, by rw [z3]; simp, by rw [z4]; simp, Int.dvd_zero _, Int.dvd_zero _, Int.dvd_zero _, Int.dvd_zero _, by simp, by simp, by simp, by simp, by simp, fun h => by omega, fun _ => ⟨rfl, rfl⟩, fun _ => ⟨rfl, rfl⟩⟩
    · have hne : fvW a * fvW b ≠ 0 := by intro hh; rw [hh] at h0; have := Nat.two_pow_pos e; simp at h0
      obtain ⟨_, x, y, z, t, N, q⟩ := prod_vals Ha Hb hne he h0
      exact ⟨x, y, z, t, N, g, h, Ha.g27, Hb.g27, q⟩
  obtain ⟨x, y, z, t, N, g, h, g27, h27, eT, ex, ey, ez, et, dx, dy, dz, dt, bx, by', bz, bt, bP, lP, hg0, hh0⟩ := facts
  obtain ⟨P, eP⟩ : ∃ P, P = x + y + z + t := ⟨_, rfl⟩
  rw [← eP] at eT bP lP
  refine ⟨P, eT, ?_⟩
  -- sizes by the product's own
  have b0 : 2 * P.natAbs ≤ QQ := by
    rw [eT, Int.natAbs_mul, Int.natAbs_natCast, ← Nat.mul_assoc] at hup
    exact Nat.le_of_mul_le_mul_right hup hU
  have cx : x.natAbs ≤ 4 * P.natAbs := unUU ex eT (mulAbs sa.1 sb.1)
  have cy : y.natAbs ≤ P.natAbs := by
    have q := mulAbs (m := 2) (n := 1) (a := fvW (halfP a).1) (b := 2 * fvW (halfP b).2) (c := fvW a) (d := fvW b) sa.1 (half2 sb.2)
    exact half3 (unUU (x := 2 * y) (X := fvW (halfP a).1 * (2 * fvW (halfP b).2)) (by rw [Int.mul_left_comm, ey, Int.mul_assoc]) eT q)
  have cz : z.natAbs ≤ P.natAbs := by
    have q := mulAbs (m := 1) (n := 2) (a := 2 * fvW (halfP a).2) (b := fvW (halfP b).1) (c := fvW a) (d := fvW b) (half2 sa.2) sb.1
    exact half4 (unUU (x := 2 * z) (X := 2 * fvW (halfP a).2 * fvW (halfP b).1) (by rw [Int.mul_assoc, ez, Int.mul_assoc]) eT q)
  have ct : t.natAbs ≤ P.natAbs := by
    have q := mulAbs (m := 1) (n := 1) (a := fvW (halfP a).2) (b := fvW (halfP b).2) (c := fvW a) (d := fvW b) (half1 sa.2) (half1 sb.2)
    exact half5 (unUU et eT q)
  clear sa sb hup
  -- the products of the halves lose nothing
  have Fx : IsF x := grid dx (Nat.le_trans bx (Nat.pow_le_pow_right (by decide) (by omega)))
  have Fy : IsF y := by
    refine grid dy ?_
    have a1 : 2 ^ (N + g + h) ≤ 2 ^ (27 + (N + g)) := Nat.pow_le_pow_right (by decide) (by omega)
    have a2 : 2 ^ (27 + (N + g)) = 134217728 * 2 ^ (N + g) := by rw [Nat.pow_add]
    have a3 : 2 ^ (53 + (N + g)) = 9007199254740992 * 2 ^ (N + g) := by rw [Nat.pow_add]
    clear la lb b0 cx cy cz ct bx bz bt bP lP hg0 hh0 ha hb fa fb
    omega
  have Fz : IsF z := by
    refine grid dz ?_
    have a1 : 2 ^ (N + g + h) ≤ 2 ^ (27 + (N + h)) := Nat.pow_le_pow_right (by decide) (by omega)
    have a2 : 2 ^ (27 + (N + h)) = 134217728 * 2 ^ (N + h) := by rw [Nat.pow_add]
    have a3 : 2 ^ (53 + (N + h)) = 9007199254740992 * 2 ^ (N + h) := by rw [Nat.pow_add]
    clear la lb b0 cx cy cz ct bx by' bt bP lP hg0 hh0 ha hb fa fb
    omega
  have Ft : IsF t := by
    refine grid dt ?_
    have a1 : 2 ^ (N + g + h) ≤ 2 ^ (54 + N) := Nat.pow_le_pow_right (by decide) (by omega)
    have a2 : 2 ^ (54 + N) = 18014398509481984 * 2 ^ N := by rw [Nat.pow_add]
    have a3 : 2 ^ (53 + N) = 9007199254740992 * 2 ^ N := by rw [Nat.pow_add]
    clear la lb b0 cx cy cz ct bx by' bz bP lP hg0 hh0 ha hb fa fb
    omega
  obtain ⟨f0, r0⟩ := ti_fin ha hb fa fb eT (bq0 b0)
  obtain ⟨f1, r1⟩ := ti_fin Ta.w1 Tb.w1 Ta.f1 Tb.f1 ex (bq4 b0 cx)
  obtain ⟨f2, r2⟩ := ti_fin Ta.w1 Tb.w2 Ta.f1 Tb.f2 ey (bq1 b0 cy)
  obtain ⟨f3, r3⟩ := ti_fin Ta.w2 Tb.w1 Ta.f2 Tb.f1 ez (bq1 b0 cz)
  obtain ⟨f4, r4⟩ := ti_fin Ta.w2 Tb.w2 Ta.f2 Tb.f2 et (bq1 b0 ct)
  have o1 := r1.own Fx
  have o2 := r2.own Fy
  have o3 := r3.own Fz
  have o4 := r4.own Ft
  have n0 : (fvW (tiW a b) - P).natAbs ≤ P.natAbs := by have := r0.near 0 IsF.zero; simpa using this
  have B1 := p_bound1 eP n0 b0 cy cz ct
  obtain ⟨f5, r5⟩ := mi_fin (ti_wd (halfP a).1 (halfP b).1) (ti_wd a b) f1 f0 (by rw [o1]; exact B1)
  rw [o1] at r5
  have t5 := tiny (Q := QQ) r5.rel (le34 B1)
  have B2 := p_bound2 eP n0 b0 cz ct t5
  obtain ⟨f6, r6⟩ := pl_fin (mi_wd (tiW (halfP a).1 (halfP b).1) (tiW a b)) (ti_wd (halfP a).1 (halfP b).2) f5 f2 (by rw [o2]; exact B2)
  rw [o2] at r6
  have t6 := tiny (Q := QQ) r6.rel (le34 B2)
  have B3 := p_bound3 eP n0 b0 ct t5 t6
  obtain ⟨f7, r7⟩ := pl_fin (pl_wd (miW (tiW (halfP a).1 (halfP b).1) (tiW a b)) (tiW (halfP a).1 (halfP b).2)) (ti_wd (halfP a).2 (halfP b).1) f6 f3 (by rw [o3]; exact B3)
  rw [o3] at r7
  have t7 := tiny (Q := QQ) r7.rel (le34 B3)
  have B4 := p_bound4 eP n0 b0 t5 t6 t7
  obtain ⟨f8, r8⟩ := pl_fin (pl_wd (plW (miW (tiW (halfP a).1 (halfP b).1) (tiW a b)) (tiW (halfP a).1 (halfP b).2)) (tiW (halfP a).2 (halfP b).1)) (ti_wd (halfP a).2 (halfP b).2) f7 f4 (by rw [o4]; exact B4)
  rw [o4] at r8
  exact ⟨ti_wd _ _, pl_wd _ _, f0, f8, prod_core g27 h27 eP dx dy dz dt by' bz bt bP lP hg0 hh0 r0 r5 r6 r7 r8⟩
end Go.Proofs.Ythilnddhehbjiab

/- Numbers' forms against powers of two, and against one another. -/
namespace Go.Proofs.Ythilnddhehbjiab
open Go.RowKit J
set_option linter.unusedVariables false
set_option maxRecDepth 20000
set_option linter.unusedSimpArgs false

/-- A value's size. -/
theorem fo_abs {n : Bool} {X : Nat} {e z L H : Int} (h : Fo (some (n, X, e)) z L H) : X * 2 ^ (e - -2097152).toNat = z.natAbs * SS := by
  obtain ⟨F, hv, _⟩ := h.frm
  unfold zv at hv
  simp only at hv
  have := congrArg Int.natAbs hv
  rw [Int.natAbs_mul, Int.natAbs_mul, Int.natAbs_natCast, Int.natAbs_natCast] at this
  rw [← this]
  unfold sg1; cases n <;> simp
theorem fo_zero {n : Bool} {X : Nat} {e z L H : Int} (h : Fo (some (n, X, e)) z L H) : X = 0 ↔ z = 0 := by
  have a := fo_abs h
  have hS := S_pos
  constructor
  · intro hX
    rw [hX, Nat.zero_mul] at a
    rcases Nat.mul_eq_zero.1 a.symm with q | q <;> omega
  · intro hz
    rw [hz, Int.natAbs_zero, Nat.zero_mul] at a
    rcases Nat.mul_eq_zero.1 a with q | q
    · exact q
    · have := Nat.two_pow_pos (e - -2097152).toNat; omega
theorem cmpZ_scale (x y : Int) (k : Nat) (hk : 0 < k) : cmpZ (x * (k : Int)) (y * (k : Int)) = cmpZ x y := by
  have hlt : ∀ a b : Int, a * (k : Int) < b * (k : Int) ↔ a < b := fun a b => ⟨fun h => Int.lt_of_mul_lt_mul_right h (by omega), fun h => Int.mul_lt_mul_of_pos_right h (by omega)⟩
  unfold cmpZ
  simp only [hlt]
/-- Two forms. -/
theorem cmp_fo {n m : Bool} {X Y : Nat} {e f x y L H L' H' : Int} (h1 : Fo (some (n, X, e)) x L H) (h2 : Fo (some (m, Y, f)) y L' H') : cmpV n X e m Y f = cmpZ x y := by
  obtain ⟨F, hv, _⟩ := h1.frm
  obtain ⟨G, hw, _⟩ := h2.frm
  have d1 := F.down
  have d2 := G.down
  rw [cmpV_z n X e m Y f (-2097152) (by omega) (by omega)]
  have a1 : sg1 n * ((X * 2 ^ (e - -2097152).toNat : Nat) : Int) = x * (SS : Int) := hv
  have a2 : sg1 m * ((Y * 2 ^ (f - -2097152).toNat : Nat) : Int) = y * (SS : Int) := hw
  rw [a1, a2, cmpZ_scale x y SS S_pos]
/-- Two sizes. -/
theorem cmp_size {n m : Bool} {X Y : Nat} {e f x y L H L' H' : Int} (h1 : Fo (some (n, X, e)) x L H) (h2 : Fo (some (m, Y, f)) y L' H') : cmpV false X e false Y f = cmpZ (x.natAbs : Int) (y.natAbs : Int) := by
  have d1 := h1.frm.1.down
  have d2 := h2.frm.1.down
  rw [cmpV_z false X e false Y f (-2097152) (by omega) (by omega), fo_abs h1, fo_abs h2]
  unfold sg1
  simp only [Bool.false_eq_true, if_false, Int.one_mul, Int.natCast_mul]
  rw [cmpZ_scale _ _ SS S_pos]
/-- A size and a power of two. -/
theorem cmp_pow {n : Bool} {X : Nat} {e x L H : Int} (h1 : Fo (some (n, X, e)) x L H) (m : Int) (k : Nat) (hk : (k : Int) = m + 2148) (hm : -2148 ≤ m) : cmpV false X e false 1 m = cmpZ (x.natAbs : Int) ((2 ^ k : Nat) : Int) := by
  have d1 := h1.frm.1.down
  rw [cmpV_z false X e false 1 m (-2097152) (by omega) (by omega), fo_abs h1]
  have e1 : 2 ^ (m - -2097152).toNat = 2 ^ k * SS := by
    have a1 : (m - -2097152).toNat = k + ES := by have : ES = 2095004 := rfl; omega
    rw [a1, S_eq, Nat.pow_add]
  rw [Nat.one_mul, e1]
  unfold sg1
  simp only [Bool.false_eq_true, if_false, Int.one_mul]
  rw [Int.natCast_mul, Int.natCast_mul, cmpZ_scale _ _ SS S_pos]

theorem finite_fin {x : Nat} (hx : Wd x) (fx : finW x) {n : Bool} {X : Nat} {e : Int} (h : ofK (negW x) (magW x) = some (n, X, e)) (lX : (ws X).length ≤ 8192) (u : World) :
    Calls Try.prog 29 #[.float .f64 x] u fun r w' => (∃ v, r = .returned (.tuple #[.agg #[.bool n, v, .int .i64 e], .bool true]) ∧ Nt u.heap.size w' v X) ∧ Below u.heap.size u w' := by
  have H := hid fun u => of_wd (negW x) (magW x) fx h u
  rw [← wd_of x hx] at H
  exact finite_core x n X e 0 u lX H
theorem within_fo {n : Bool} {X : Nat} {e z L H : Int} (h : Fo (some (n, X, e)) z L H) (m : Int) (k : Nat) (hk : (k : Int) = m + 2148) (hm : -2148 ≤ m) (hm2 : m ≤ 100000) {b : Bool} (hb : decide (z.natAbs ≤ 2 ^ k) = b) (u : World) (a : Option Addr) (c : Nat) (A : Arg u a (ws X).length c (ws X)) :
    Calls Try.prog 47 #[.agg #[.bool n, .slice a (ws X).length c, .int .i64 e], .int .i64 m] u fun r w' => r = .returned (.bool b) ∧ Below u.heap.size u w' := by
  have l1 := frmLen h.frm.1
  have d1 := h.frm.1.down
  have d2 := h.frm.1.up
  have HC := hid fun u a b c d (A : Arg u a (ws X).length c (ws X)) (C : Arg u b 1 d [1]) => rCmp_any3 A C (by omega) (by omega) false false e m (by omega) (by omega) (by omega) (by omega)
  have hv : val [1] = 1 := rfl
  simp only [val_ws, hv, cmp_pow h m k hk hm] at HC
  have hc : decide (cmpZ (z.natAbs : Int) ((2 ^ k : Nat) : Int) ≤ 0) = b := by
    rw [← hb, decide_eq_decide, cmpZ_le]; omega
  rw [← hc]
  exact within_core n a X c e m _ u A l1 HC
theorem worth_two {p : Nat × Nat} {V : Int} (t : Two p V) : ∃ n X e, Fo (some (n, X, e)) (V * (UU : Int)) (-1074) 1025 ∧ ∀ u, Calls Try.prog 34 #[.agg #[.float .f64 p.1, .float .f64 p.2]] u fun r w' => (∃ v, r = .returned (.tuple #[.agg #[.bool n, v, .int .i64 e], .bool true]) ∧ Nt u.heap.size w' v X) ∧ Below u.heap.size u w' := by
  obtain ⟨n1, X1, e1, o1, F1, _⟩ := of_fo (negW p.1) (magW p.1) t.f1
  obtain ⟨n2, X2, e2, o2, F2, _⟩ := of_fo (negW p.2) (magW p.2) t.f2
  have FA := F1.add F2 (by omega) (by omega) (by omega)
  rw [← Int.add_mul] at FA
  have hv : B.sg (negW p.1) (vK (magW p.1)) + B.sg (negW p.2) (vK (magW p.2)) = V := t.val
  rw [hv] at FA
  obtain ⟨nS, S, eS, hS, _⟩ := FA.ex
  have HA := hid fun u a b c d A C => add_fm F1.frm.1 F2.frm.1 hS rfl u a b c d A C
  rw [hS] at FA
  refine ⟨nS, S, eS, FA, fun u => ?_⟩
  exact worth_core p.1 p.2 n1 n2 nS X1 X2 S e1 e2 eS u (frmLen F1.frm.1) (frmLen F2.frm.1) (frmLen FA.frm.1) (hid fun u => finite_fin t.w1 t.f1 o1 (frmLen F1.frm.1) u) (hid fun u => finite_fin t.w2 t.f2 o2 (frmLen F2.frm.1) u) HA
theorem just_two {p : Nat × Nat} {V : Int} (t : Two p V) {n : Bool} {X : Nat} {e L H : Int} (h : Fo (some (n, X, e)) (V * (UU : Int)) L H) (u : World) (a : Option Addr) (c : Nat) (A : Arg u a (ws X).length c (ws X)) :
    Calls Try.prog 48 #[.agg #[.float .f64 p.1, .float .f64 p.2], .agg #[.bool n, .slice a (ws X).length c, .int .i64 e]] u fun r w' => r = .returned (.bool true) ∧ Below u.heap.size u w' := by
  obtain ⟨nS, S, eS, FS, HW⟩ := worth_two t
  have l1 := frmLen h.frm.1
  have l2 := frmLen FS.frm.1
  have d1 := h.frm.1.down
  have d2 := h.frm.1.up
  have d3 := FS.frm.1.down
  have d4 := FS.frm.1.up
  have HC := hid fun u a b c d (A : Arg u a (ws S).length c (ws S)) (C : Arg u b (ws X).length d (ws X)) => rCmp_any3 A C (by omega) (by omega) nS n eS e (by omega) (by omega) (by omega) (by omega)
  have hz : cmpZ (V * (UU : Int)) (V * (UU : Int)) = 0 := by unfold cmpZ; rw [if_neg (Int.lt_irrefl _), if_neg (Int.lt_irrefl _)]
  simp only [val_ws, cmp_fo FS h, hz] at HC
  exact just_core p.1 p.2 nS n a S X c eS e u A l1 l2 (hid HW) HC
end Go.Proofs.Ythilnddhehbjiab

/- The law's sums, halved, products of finite numbers: true. -/
namespace Go.Proofs.Ythilnddhehbjiab
open Go.RowKit J
set_option linter.unusedVariables false
set_option maxRecDepth 20000
set_option linter.unusedSimpArgs false

theorem QU (k : Nat) (h : k = 3170) : 2 ^ k = QQ * UU := by
  have e : EQ + EU = k := by rw [h]; unfold EQ EU; rfl
  rw [Q_eq, U_eq, ← Nat.pow_add, e]
theorem absU (x : Int) : (x * (UU : Int)).natAbs = x.natAbs * UU := by rw [Int.natAbs_mul, Int.natAbs_natCast]

theorem sums_all {a b : Nat} (ha : Wd a) (hb : Wd b) (fa : finW a) (fb : finW b) {n1 n2 : Bool} {X1 X2 : Nat} {e1 e2 : Int} (F1 : Fo (some (n1, X1, e1)) (fvW a * (UU : Int)) (-1074) 1024) (F2 : Fo (some (n2, X2, e2)) (fvW b * (UU : Int)) (-1074) 1024)
    (u : World) (a1 a2 : Option Addr) (c1 c2 : Nat) (A1 : Arg u a1 (ws X1).length c1 (ws X1)) (A2 : Arg u a2 (ws X2).length c2 (ws X2)) :
    Calls Try.prog 30 #[.float .f64 a, .float .f64 b, .agg #[.bool n1, .slice a1 (ws X1).length c1, .int .i64 e1], .agg #[.bool n2, .slice a2 (ws X2).length c2, .int .i64 e2]] u fun r w' => r = .returned (.bool true) ∧ Below u.heap.size u w' := by
  have l1 := frmLen F1.frm.1
  have l2 := frmLen F2.frm.1
  have hU := U_pos
  obtain ⟨k, hk⟩ : ∃ k : Nat, k = 3170 := ⟨_, rfl⟩
  obtain ⟨bx, hbx⟩ : ∃ bx, decide ((fvW a * (UU : Int)).natAbs ≤ 2 ^ k) = bx := ⟨_, rfl⟩
  obtain ⟨by', hby⟩ : ∃ by', decide ((fvW b * (UU : Int)).natAbs ≤ 2 ^ k) = by' := ⟨_, rfl⟩
  have W1 := hid fun u a c A => within_fo F1 1022 k (by omega) (by omega) (by omega) hbx u a c A
  have W2 := hid fun u a c A => within_fo F2 1022 k (by omega) (by omega) (by omega) hby u a c A
  cases bx
  · cases by'
    · exact sums_off_ff a b n1 n2 a1 a2 X1 X2 c1 c2 e1 e2 u A1 A2 l1 l2 W1 W2
    · exact sums_off_ft a b n1 n2 a1 a2 X1 X2 c1 c2 e1 e2 u A1 A2 l1 l2 W1 W2
  · cases by'
    · exact sums_off_tf a b n1 n2 a1 a2 X1 X2 c1 c2 e1 e2 u A1 A2 l1 l2 W1 W2
    · have la : (fvW a).natAbs ≤ QQ := by
        have := of_decide_eq_true hbx
        rw [absU, QU k hk] at this
        exact Nat.le_of_mul_le_mul_right this hU
      have lb : (fvW b).natAbs ≤ QQ := by
        have := of_decide_eq_true hby
        rw [absU, QU k hk] at this
        exact Nat.le_of_mul_le_mul_right this hU
      have FA := F1.add F2 (by omega) (by omega) (by omega)
      rw [← Int.add_mul] at FA
      obtain ⟨nS, S, eS, hS, _⟩ := FA.ex
      have HA := hid fun u a b c d A C => add_fm F1.frm.1 F2.frm.1 hS rfl u a b c d A C
      rw [hS] at FA
      have l3 := frmLen FA.frm.1
      have d1 := F1.frm.1.down
      have d2 := F1.frm.1.up
      have d3 := F2.frm.1.down
      have d4 := F2.frm.1.up
      have HC := hid fun u a b c d (A : Arg u a (ws X1).length c (ws X1)) (C : Arg u b (ws X2).length d (ws X2)) => rCmp_any3 A C (by omega) (by omega) false false e1 e2 (by omega) (by omega) (by omega) (by omega)
      simp only [val_ws] at HC
      have HJ := hid fun u a c A => just_two (sum_two ha hb fa fb la lb) FA u a c A
      have HS := hid fun u => Sum_all a b u
      by_cases hq : 0 ≤ cmpV false X1 e1 false X2 e2
      · have hab : (fvW b).natAbs ≤ (fvW a).natAbs := by
          rw [cmp_size F1 F2, cmpZ_ge, absU, absU] at hq
          exact Nat.le_of_mul_le_mul_right (by omega) hU
        exact sums_on_t a b n1 n2 a1 a2 X1 X2 c1 c2 e1 e2 u A1 A2 l1 l2 nS S eS _ _ _ _ _ l3 (decide_eq_true hq) W1 W2 HA HS HJ HC (hid fun u => Quick_all a b u) (hid fun u a c A => just_two (quick_two ha hb fa fb la lb hab) FA u a c A)
      · exact sums_on_f a b n1 n2 a1 a2 X1 X2 c1 c2 e1 e2 u A1 A2 l1 l2 nS S eS _ _ _ 0 0 l3 (decide_eq_false hq) W1 W2 HA HS HJ HC

/-- An odd part is not greater than what it is a part of. -/
theorem odd_le {X J s t : Nat} (hX : X % 2 = 1) (h : X * 2 ^ s = J * 2 ^ t) : X ≤ J := by
  rcases Nat.le_total t s with c | c
  · obtain ⟨d, rfl⟩ : ∃ d, s = d + t := ⟨s - t, by omega⟩
    rw [Nat.pow_add, ← Nat.mul_assoc] at h
    have := Nat.eq_of_mul_eq_mul_right (Nat.two_pow_pos t) h
    rw [← this]
    exact Nat.le_mul_of_pos_right _ (Nat.two_pow_pos d)
  · obtain ⟨d, rfl⟩ : ∃ d, t = d + s := ⟨t - s, by omega⟩
    rw [Nat.pow_add, ← Nat.mul_assoc] at h
    have h2 := Nat.eq_of_mul_eq_mul_right (Nat.two_pow_pos s) h
    cases d with
    | zero => rw [h2]; simp
    | succ d => rw [Nat.pow_succ, ← Nat.mul_assoc] at h2; omega
theorem few_bits {n : Bool} {X : Nat} {e L H v : Int} (h : Fo (some (n, X, e)) (v * (UU : Int)) L H) {m : Nat} (hd : (2 : Int) ^ m ∣ v) (hb : v.natAbs ≤ 67108864 * 2 ^ m) : bl X ≤ 26 := by
  by_cases hX : X = 0
  · rw [hX, bl_zero]; omega
  · have ho := frm_odd h.frm.1 hX
    have ha := fo_abs h
    obtain ⟨cc, hcc⟩ : ∃ c : Nat, c = 2096078 := ⟨_, rfl⟩
    rw [absU, Nat.mul_assoc, ← US cc hcc] at ha
    obtain ⟨j, hj⟩ := hd
    have hv : v.natAbs = j.natAbs * 2 ^ m := by rw [hj, Int.natAbs_mul, natAbs_p2, Nat.mul_comm]
    rw [hv, Nat.mul_assoc, ← Nat.pow_add] at ha
    have h1 := odd_le ho ha
    rw [hv] at hb
    have h2 := Nat.le_of_mul_le_mul_right hb (Nat.two_pow_pos m)
    exact blLe (show X < 2 ^ 26 by omega)
theorem halved_all {a : Nat} (ha : Wd a) (fa : finW a) {n1 : Bool} {X1 : Nat} {e1 : Int} (F1 : Fo (some (n1, X1, e1)) (fvW a * (UU : Int)) (-1074) 1024)
    (u : World) (a1 : Option Addr) (c1 : Nat) (A1 : Arg u a1 (ws X1).length c1 (ws X1)) :
    Calls Try.prog 31 #[.float .f64 a, .agg #[.bool n1, .slice a1 (ws X1).length c1, .int .i64 e1]] u fun r w' => r = .returned (.bool true) ∧ Below u.heap.size u w' := by
  have l1 := frmLen F1.frm.1
  have hU := U_pos
  obtain ⟨k, hk⟩ : ∃ k : Nat, k = 3143 := ⟨_, rfl⟩
  obtain ⟨bx, hbx⟩ : ∃ bx, decide ((fvW a * (UU : Int)).natAbs ≤ 2 ^ k) = bx := ⟨_, rfl⟩
  have W1 := hid fun u a c A => within_fo F1 995 k (by omega) (by omega) (by omega) hbx u a c A
  cases bx
  · exact halved_off a n1 a1 X1 c1 e1 u A1 l1 W1
  · have la : 134217728 * (fvW a).natAbs ≤ QQ := by
      have := of_decide_eq_true hbx
      rw [absU] at this
      have h2 := Nat.mul_le_mul_left (2 ^ 27) this
      rw [← Nat.pow_add, QU (27 + k) (by omega), ← Nat.mul_assoc] at h2
      exact Nat.le_of_mul_le_mul_right h2 hU
    obtain ⟨T, g, m, Hh⟩ := half_two ha fa la
    obtain ⟨nP, XP, eP, oP, FP, _⟩ := of_fo (negW (halfP a).1) (magW (halfP a).1) T.f1
    obtain ⟨nQ, XQ, eQ, oQ, FQ, _⟩ := of_fo (negW (halfP a).2) (magW (halfP a).2) T.f2
    have bP := few_bits (v := fvW (halfP a).1) FP Hh.hd (by have := Hh.hb; rwa [Nat.pow_add] at this)
    have bQ := few_bits (v := fvW (halfP a).2) FQ Hh.ld (by
      have h1 := Hh.lb
      have h2 : 2 ^ (g + m) ≤ 2 ^ (27 + m) := Nat.pow_le_pow_right (by decide) (by have := Hh.g27; omega)
      rw [Nat.pow_add 2 27] at h2
      omega)
    have lP := frmLen FP.frm.1
    have lQ := frmLen FQ.frm.1
    have HL := hid fun u a c (A : Arg u a (ws XP).length c (ws XP)) => rLen_any (ws XP) a (ws XP).length c u.heap.size u rfl (by have := A.big; omega) A.wf A.rd
    have HN := hid fun u a c (A : Arg u a (ws XQ).length c (ws XQ)) => rLen_any (ws XQ) a (ws XQ).length c u.heap.size u rfl (by have := A.big; omega) A.wf A.rd
    simp only [val_ws] at HL HN
    exact halved_on a n1 a1 X1 c1 e1 u A1 l1 nP nQ XP XQ eP eQ _ _ _ _ lP lQ (decide_eq_true (by omega)) (decide_eq_true (by omega)) W1 (hid fun u => Halves_all a u) (hid fun u a c A => just_two T F1 u a c A) (hid fun u => finite_fin T.w1 T.f1 oP lP u) (hid fun u => finite_fin T.w2 T.f2 oQ lQ u) HL HN
theorem products_all {a b : Nat} (ha : Wd a) (hb : Wd b) (fa : finW a) (fb : finW b) {n1 n2 : Bool} {X1 X2 : Nat} {e1 e2 : Int} (F1 : Fo (some (n1, X1, e1)) (fvW a * (UU : Int)) (-1074) 1024) (F2 : Fo (some (n2, X2, e2)) (fvW b * (UU : Int)) (-1074) 1024)
    (u : World) (a1 a2 : Option Addr) (c1 c2 : Nat) (A1 : Arg u a1 (ws X1).length c1 (ws X1)) (A2 : Arg u a2 (ws X2).length c2 (ws X2)) :
    Calls Try.prog 32 #[.float .f64 a, .float .f64 b, .agg #[.bool n1, .slice a1 (ws X1).length c1, .int .i64 e1], .agg #[.bool n2, .slice a2 (ws X2).length c2, .int .i64 e2]] u fun r w' => r = .returned (.bool true) ∧ Below u.heap.size u w' := by
  have l1 := frmLen F1.frm.1
  have l2 := frmLen F2.frm.1
  have hU := U_pos
  have FA := F1.mul F2 (by omega) (by omega) (by omega)
  obtain ⟨nS, S, eS, hS, _⟩ := FA.ex
  have HM := hid fun u a b c d A C => mul_fm F1.frm.1 F2.frm.1 hS rfl u a b c d A C
  rw [hS] at FA
  have l3 := frmLen FA.frm.1
  have d1 := FA.frm.1.down
  have d2 := FA.frm.1.up
  obtain ⟨k, hk⟩ : ∃ k : Nat, k = 3143 := ⟨_, rfl⟩
  obtain ⟨m, hm⟩ : ∃ m : Nat, m = 3169 := ⟨_, rfl⟩
  obtain ⟨q, hq⟩ : ∃ q : Nat, q = 1179 := ⟨_, rfl⟩
  obtain ⟨bx, hbx⟩ : ∃ bx, decide ((fvW a * (UU : Int)).natAbs ≤ 2 ^ k) = bx := ⟨_, rfl⟩
  obtain ⟨by', hby⟩ : ∃ by', decide ((fvW b * (UU : Int)).natAbs ≤ 2 ^ k) = by' := ⟨_, rfl⟩
  obtain ⟨bz, hbz⟩ : ∃ bz, decide ((fvW a * fvW b).natAbs ≤ 2 ^ m) = bz := ⟨_, rfl⟩
  obtain ⟨bq, hbq⟩ : ∃ bq, decide (0 ≤ cmpV false S eS false 1 (-969)) = bq := ⟨_, rfl⟩
  obtain ⟨bl', hbl⟩ : ∃ bl', decide ((0 : Int) < (((ws S).length : Nat) : Int)) = bl' := ⟨_, rfl⟩
  have W1 := hid fun u a c A => within_fo F1 995 k (by omega) (by omega) (by omega) hbx u a c A
  have W2 := hid fun u a c A => within_fo F2 995 k (by omega) (by omega) (by omega) hby u a c A
  have W3 := hid fun u a c A => within_fo FA 1021 m (by omega) (by omega) (by omega) hbz u a c A
  have HC := hid fun u a b c d (A : Arg u a (ws S).length c (ws S)) (C : Arg u b 1 d [1]) => rCmp_any3 A C (by omega) (by omega) false false eS (-969) (by omega) (by omega) (by omega) (by omega)
  have hv : val [1] = 1 := rfl
  simp only [val_ws, hv] at HC
  have HS := hid fun u => Product_all a b u
  have go : bx = true → by' = true → bz = true → (bq = true ∨ bl' = false) → ∃ P : Int, fvW a * fvW b = P * (UU : Int) ∧ Two (prodP a b) P := by
    intro h1 h2 h3 h4
    subst h1; subst h2; subst h3
    have la : 134217728 * (fvW a).natAbs ≤ QQ := by
      have := of_decide_eq_true hbx
      rw [absU] at this
      have h2 := Nat.mul_le_mul_left (2 ^ 27) this
      rw [← Nat.pow_add, QU (27 + k) (by omega), ← Nat.mul_assoc] at h2
      exact Nat.le_of_mul_le_mul_right h2 hU
    have lb : 134217728 * (fvW b).natAbs ≤ QQ := by
      have := of_decide_eq_true hby
      rw [absU] at this
      have h2 := Nat.mul_le_mul_left (2 ^ 27) this
      rw [← Nat.pow_add, QU (27 + k) (by omega), ← Nat.mul_assoc] at h2
      exact Nat.le_of_mul_le_mul_right h2 hU
    have lt : 2 * (fvW a * fvW b).natAbs ≤ QQ * UU := by
      have := of_decide_eq_true hbz
      have h2 := Nat.mul_le_mul_left (2 ^ 1) this
      rw [← Nat.pow_add, QU (1 + m) (by omega)] at h2
      exact h2
    refine prod_two ha hb fa fb la lb hq ?_ lt
    rcases h4 with h4 | h4
    · right
      rw [h4] at hbq
      have := of_decide_eq_true hbq
      rw [cmp_pow FA (-969) q (by omega) (by omega), cmpZ_ge] at this
      omega
    · left
      rw [h4] at hbl
      have h0 : (ws S).length = 0 := by have := of_decide_eq_false hbl; omega
      exact (fo_zero FA).1 ((ws_len_zero S).1 h0)
  exact products_walk a b n1 n2 a1 a2 X1 X2 c1 c2 e1 e2 u A1 A2 l1 l2 nS S eS _ _ _ bx by' bz bq bl' l3 hbq hbl HM W1 W2 W3 HC HS (fun h1 h2 h3 h4 => by
    obtain ⟨P, hP, T⟩ := go h1 h2 h3 h4
    rw [hP] at FA
    exact hid fun u a c A => just_two T FA u a c A)
end Go.Proofs.Ythilnddhehbjiab

