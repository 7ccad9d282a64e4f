/- The law's products: P5.6 of Product. -/
import Derived.Test.YthilnddhehbjiabJ24x
import Derived.BigQuiet
import Derived.Deep.CutRange
import Derived.Deep.RegionHeld3
namespace Go.Proofs.Ythilnddhehbjiab
open Go.RowKit J
set_option linter.unusedVariables false
set_option maxRecDepth 20000
set_option linter.unusedSimpArgs false
attribute [local go_sem] st_float

set_option maxHeartbeats 64000000 in
theorem products_walk (fa fb : Nat) (nX nY : Bool) (aX aY : Option Addr) (XX XY cX cY : Nat) (eX eY : Int) (w : World) (AX : Arg w aX (ws XX).length cX (ws XX)) (AY : Arg w aY (ws XY).length cY (ws XY)) (lX : (ws XX).length ≤ 8192) (lY : (ws XY).length ≤ 8192) (nS : Bool) (XS : Nat) (eS cv : Int) (s1 s2 : Nat) (wx wy wz le lo : Bool) (lS : (ws XS).length ≤ 8192) (hq : decide (0 ≤ cv) = le) (hl : decide ((0 : Int) < (((ws XS).length : Nat) : Int)) = lo)
    (HM : Hid (∀ u a b c d, Arg u a (ws XX).length c (ws XX) → Arg u b (ws XY).length d (ws XY) → Calls Try.prog 36 #[.agg #[.bool nX, .slice a (ws XX).length c, .int .i64 eX], .agg #[.bool nY, .slice b (ws XY).length d, .int .i64 eY]] u fun r w' => (∃ v, r = .returned (.tuple #[.agg #[.bool nS, v, .int .i64 eS], .int .i64 0]) ∧ Nt u.heap.size w' v XS) ∧ Below u.heap.size u w'))
    (H1 : Hid (∀ u a c, Arg u a (ws XX).length c (ws XX) → Calls Try.prog 47 #[.agg #[.bool nX, .slice a (ws XX).length c, .int .i64 eX], .int .i64 995] u fun r w' => r = .returned (.bool wx) ∧ Below u.heap.size u w'))
    (H2 : Hid (∀ u a c, Arg u a (ws XY).length c (ws XY) → Calls Try.prog 47 #[.agg #[.bool nY, .slice a (ws XY).length c, .int .i64 eY], .int .i64 995] u fun r w' => r = .returned (.bool wy) ∧ Below u.heap.size u w'))
    (H3 : Hid (∀ u a c, Arg u a (ws XS).length c (ws XS) → Calls Try.prog 47 #[.agg #[.bool nS, .slice a (ws XS).length c, .int .i64 eS], .int .i64 1021] u fun r w' => r = .returned (.bool wz) ∧ Below u.heap.size u w'))
    (HC : Hid (∀ u a b c d, Arg u a (ws XS).length c (ws XS) → Arg u b 1 d [1] → Calls Try.prog 49 #[.agg #[.bool false, .slice a (ws XS).length c, .int .i64 eS], .agg #[.bool false, .slice b 1 d, .int .i64 (-969)]] u fun r w' => r = .returned (.int .i64 cv) ∧ Below u.heap.size u w'))
    (HS : Hid (∀ u, Calls Try.prog 14 #[.float .f64 fa, .float .f64 fb] u fun r w' => r = .returned (.agg #[.float .f64 s1, .float .f64 s2]) ∧ Below u.heap.size u w'))
    (HJ : wx = true → wy = true → wz = true → (le = true ∨ lo = false) → Hid (∀ u a c, Arg u a (ws XS).length c (ws XS) → Calls Try.prog 48 #[.agg #[.float .f64 s1, .float .f64 s2], .agg #[.bool nS, .slice a (ws XS).length c, .int .i64 eS]] u fun r w' => r = .returned (.bool true) ∧ Below u.heap.size u w')) :
    Calls Try.prog 32 #[.float .f64 fa, .float .f64 fb, .agg #[.bool nX, .slice aX (ws XX).length cX, .int .i64 eX], .agg #[.bool nY, .slice aY (ws XY).length cY, .int .i64 eY]] w fun r w' => r = .returned (.bool true) ∧ Below w.heap.size w w' := by
  have hm : if lo then 0 < (ws XS).length else ¬ 0 < (ws XS).length := by subst hl; by_cases h : 0 < (ws XS).length <;> simp [h]
  have HL := Aside.intro hm
  clear hm hl
  go_enter Try.func32, Try.ntmps32
  go_wp2_with fail
  refine (Calls.mono (HM.out _ _ _ _ _ (AX.below (by repeat (first | exact Below.refl _ _ | assumption | exact Nat.le_refl _ | (simp only [World.size_alloc, World.size_setCell]; omega) | omega | refine Below.alloc ?_ ?_ _ | refine Below.setCell ?_ ?_ _ | refine Below.drew ?_))) (AY.below (by repeat (first | exact Below.refl _ _ | assumption | exact Nat.le_refl _ | (simp only [World.size_alloc, World.size_setCell]; omega) | omega | refine Below.alloc ?_ ?_ _ | refine Below.setCell ?_ ?_ _ | refine Below.drew ?_))))) ?_
  rintro r w1 ⟨⟨v1, rfl, N1⟩, hb1⟩
  obtain ⟨aS, cS, rfl, AS⟩ := N1.arg (by omega)
  clear N1
  clear HM
  have hy1 : w.heap.size ≤ w1.heap.size := by
    have := hb1.size
    try simp only [World.size_alloc, World.size_setCell] at this
    omega
  have hz1_0 : w.heap.size < w1.heap.size := by
    have := hb1.size
    try simp only [World.size_alloc, World.size_setCell] at this
    omega
  have hz1_1 : w.heap.size + 1 < w1.heap.size := by
    have := hb1.size
    try simp only [World.size_alloc, World.size_setCell] at this
    omega
  have B1 := Aside.intro (Below.trans (B := w.heap.size) (a := w) (by repeat (first | exact Below.refl _ _ | assumption | exact Nat.le_refl _ | (simp only [World.size_alloc, World.size_setCell]; omega) | omega | refine Below.alloc ?_ ?_ _ | refine Below.setCell ?_ ?_ _ | refine Below.drew ?_)) (hb1.mono (by first | omega | (simp only [World.size_alloc, World.size_setCell]; omega))))
  have S1 := B1
  replace AX := AX.below B1.out
  replace AY := AY.below B1.out
  obtain ⟨hc1, hf1⟩ := bcell hb1
  clear hb1 B1
  have c1_0_0 : w1.cell? ⟨w.heap.size, 0, none⟩ = some (.bool nX) := by
    rw [hc1 _ _ (by first | omega | (simp only [World.size_alloc, World.size_setCell]; omega))]
    first | assumption | (simp [go_sem]; done)
  have f1_0_0 : w1.frozen? ⟨w.heap.size, 0, none⟩ = false := by
    rw [hf1 _ _ (by first | omega | (simp only [World.size_alloc, World.size_setCell]; omega))]
    first | assumption | (simp [go_sem]; done)
  have c1_0_1 : w1.cell? ⟨w.heap.size, 1, none⟩ = some (.slice aX (ws XX).length cX) := by
    rw [hc1 _ _ (by first | omega | (simp only [World.size_alloc, World.size_setCell]; omega))]
    first | assumption | (simp [go_sem]; done)
  have f1_0_1 : w1.frozen? ⟨w.heap.size, 1, none⟩ = false := by
    rw [hf1 _ _ (by first | omega | (simp only [World.size_alloc, World.size_setCell]; omega))]
    first | assumption | (simp [go_sem]; done)
  have c1_0_2 : w1.cell? ⟨w.heap.size, 2, none⟩ = some (.int .i64 eX) := by
    rw [hc1 _ _ (by first | omega | (simp only [World.size_alloc, World.size_setCell]; omega))]
    first | assumption | (simp [go_sem]; done)
  have f1_0_2 : w1.frozen? ⟨w.heap.size, 2, none⟩ = false := by
    rw [hf1 _ _ (by first | omega | (simp only [World.size_alloc, World.size_setCell]; omega))]
    first | assumption | (simp [go_sem]; done)
  have c1_1_0 : w1.cell? ⟨w.heap.size + 1, 0, none⟩ = some (.bool nY) := by
    rw [hc1 _ _ (by first | omega | (simp only [World.size_alloc, World.size_setCell]; omega))]
    first | assumption | (simp [go_sem]; done)
  have f1_1_0 : w1.frozen? ⟨w.heap.size + 1, 0, none⟩ = false := by
    rw [hf1 _ _ (by first | omega | (simp only [World.size_alloc, World.size_setCell]; omega))]
    first | assumption | (simp [go_sem]; done)
  have c1_1_1 : w1.cell? ⟨w.heap.size + 1, 1, none⟩ = some (.slice aY (ws XY).length cY) := by
    rw [hc1 _ _ (by first | omega | (simp only [World.size_alloc, World.size_setCell]; omega))]
    first | assumption | (simp [go_sem]; done)
  have f1_1_1 : w1.frozen? ⟨w.heap.size + 1, 1, none⟩ = false := by
    rw [hf1 _ _ (by first | omega | (simp only [World.size_alloc, World.size_setCell]; omega))]
    first | assumption | (simp [go_sem]; done)
  have c1_1_2 : w1.cell? ⟨w.heap.size + 1, 2, none⟩ = some (.int .i64 eY) := by
    rw [hc1 _ _ (by first | omega | (simp only [World.size_alloc, World.size_setCell]; omega))]
    first | assumption | (simp [go_sem]; done)
  have f1_1_2 : w1.frozen? ⟨w.heap.size + 1, 2, none⟩ = false := by
    rw [hf1 _ _ (by first | omega | (simp only [World.size_alloc, World.size_setCell]; omega))]
    first | assumption | (simp [go_sem]; done)
  clear hc1 hf1 
  have ne0 : w.heap.size ≠ w1.heap.size := by omega
  have ne1 : w.heap.size + 1 ≠ w1.heap.size := by omega
  go_wp2_with fail
  refine (Calls.mono (H1.out _ _ _ (AX.below (by repeat (first | exact Below.refl _ _ | assumption | exact Nat.le_refl _ | (simp only [World.size_alloc, World.size_setCell]; omega) | omega | refine Below.alloc ?_ ?_ _ | refine Below.setCell ?_ ?_ _ | refine Below.drew ?_))))) ?_
  rintro r w2 ⟨rfl, hb2⟩
  clear H1
  have hy2 : w1.heap.size ≤ w2.heap.size := by
    have := hb2.size
    try simp only [World.size_alloc, World.size_setCell] at this
    omega
  have hz2_0 : w.heap.size < w2.heap.size := by
    have := hb2.size
    try simp only [World.size_alloc, World.size_setCell] at this
    omega
  have hz2_1 : w.heap.size + 1 < w2.heap.size := by
    have := hb2.size
    try simp only [World.size_alloc, World.size_setCell] at this
    omega
  have hz2_2 : w1.heap.size < w2.heap.size := by
    have := hb2.size
    try simp only [World.size_alloc, World.size_setCell] at this
    omega
  have B2 := Aside.intro (Below.trans (B := w1.heap.size) (a := w1) (by repeat (first | exact Below.refl _ _ | assumption | exact Nat.le_refl _ | (simp only [World.size_alloc, World.size_setCell]; omega) | omega | refine Below.alloc ?_ ?_ _ | refine Below.setCell ?_ ?_ _ | refine Below.drew ?_)) (hb2.mono (by first | omega | (simp only [World.size_alloc, World.size_setCell]; omega))))
  have S2 := Aside.intro (S1.out.trans (B2.out.mono S1.out.size))
  clear S1
  replace AX := AX.below B2.out
  replace AY := AY.below B2.out
  replace AS := AS.below B2.out
  obtain ⟨hc2, hf2⟩ := bcell hb2
  clear hb2 B2
  have c2_0_0 : w2.cell? ⟨w.heap.size, 0, none⟩ = some (.bool nX) := by
    rw [hc2 _ _ (by first | omega | (simp only [World.size_alloc, World.size_setCell]; omega))]
    first | assumption | (simp [go_sem, c1_0_0, f1_0_0, c1_0_1, f1_0_1, c1_0_2, f1_0_2, c1_1_0, f1_1_0, c1_1_1, f1_1_1, c1_1_2, f1_1_2, hz1_0, hz1_1, ne0, ne1]; done)
  have f2_0_0 : w2.frozen? ⟨w.heap.size, 0, none⟩ = false := by
    rw [hf2 _ _ (by first | omega | (simp only [World.size_alloc, World.size_setCell]; omega))]
    first | assumption | (simp [go_sem, c1_0_0, f1_0_0, c1_0_1, f1_0_1, c1_0_2, f1_0_2, c1_1_0, f1_1_0, c1_1_1, f1_1_1, c1_1_2, f1_1_2, hz1_0, hz1_1, ne0, ne1]; done)
  have c2_0_1 : w2.cell? ⟨w.heap.size, 1, none⟩ = some (.slice aX (ws XX).length cX) := by
    rw [hc2 _ _ (by first | omega | (simp only [World.size_alloc, World.size_setCell]; omega))]
    first | assumption | (simp [go_sem, c1_0_0, f1_0_0, c1_0_1, f1_0_1, c1_0_2, f1_0_2, c1_1_0, f1_1_0, c1_1_1, f1_1_1, c1_1_2, f1_1_2, hz1_0, hz1_1, ne0, ne1]; done)
  have f2_0_1 : w2.frozen? ⟨w.heap.size, 1, none⟩ = false := by
    rw [hf2 _ _ (by first | omega | (simp only [World.size_alloc, World.size_setCell]; omega))]
    first | assumption | (simp [go_sem, c1_0_0, f1_0_0, c1_0_1, f1_0_1, c1_0_2, f1_0_2, c1_1_0, f1_1_0, c1_1_1, f1_1_1, c1_1_2, f1_1_2, hz1_0, hz1_1, ne0, ne1]; done)
  have c2_0_2 : w2.cell? ⟨w.heap.size, 2, none⟩ = some (.int .i64 eX) := by
    rw [hc2 _ _ (by first | omega | (simp only [World.size_alloc, World.size_setCell]; omega))]
    first | assumption | (simp [go_sem, c1_0_0, f1_0_0, c1_0_1, f1_0_1, c1_0_2, f1_0_2, c1_1_0, f1_1_0, c1_1_1, f1_1_1, c1_1_2, f1_1_2, hz1_0, hz1_1, ne0, ne1]; done)
  have f2_0_2 : w2.frozen? ⟨w.heap.size, 2, none⟩ = false := by
    rw [hf2 _ _ (by first | omega | (simp only [World.size_alloc, World.size_setCell]; omega))]
    first | assumption | (simp [go_sem, c1_0_0, f1_0_0, c1_0_1, f1_0_1, c1_0_2, f1_0_2, c1_1_0, f1_1_0, c1_1_1, f1_1_1, c1_1_2, f1_1_2, hz1_0, hz1_1, ne0, ne1]; done)
  have c2_1_0 : w2.cell? ⟨w.heap.size + 1, 0, none⟩ = some (.bool nY) := by
    rw [hc2 _ _ (by first | omega | (simp only [World.size_alloc, World.size_setCell]; omega))]
    first | assumption | (simp [go_sem, c1_0_0, f1_0_0, c1_0_1, f1_0_1, c1_0_2, f1_0_2, c1_1_0, f1_1_0, c1_1_1, f1_1_1, c1_1_2, f1_1_2, hz1_0, hz1_1, ne0, ne1]; done)
  have f2_1_0 : w2.frozen? ⟨w.heap.size + 1, 0, none⟩ = false := by
    rw [hf2 _ _ (by first | omega | (simp only [World.size_alloc, World.size_setCell]; omega))]
    first | assumption | (simp [go_sem, c1_0_0, f1_0_0, c1_0_1, f1_0_1, c1_0_2, f1_0_2, c1_1_0, f1_1_0, c1_1_1, f1_1_1, c1_1_2, f1_1_2, hz1_0, hz1_1, ne0, ne1]; done)
  have c2_1_1 : w2.cell? ⟨w.heap.size + 1, 1, none⟩ = some (.slice aY (ws XY).length cY) := by
    rw [hc2 _ _ (by first | omega | (simp only [World.size_alloc, World.size_setCell]; omega))]
    first | assumption | (simp [go_sem, c1_0_0, f1_0_0, c1_0_1, f1_0_1, c1_0_2, f1_0_2, c1_1_0, f1_1_0, c1_1_1, f1_1_1, c1_1_2, f1_1_2, hz1_0, hz1_1, ne0, ne1]; done)
  have f2_1_1 : w2.frozen? ⟨w.heap.size + 1, 1, none⟩ = false := by
    rw [hf2 _ _ (by first | omega | (simp only [World.size_alloc, World.size_setCell]; omega))]
    first | assumption | (simp [go_sem, c1_0_0, f1_0_0, c1_0_1, f1_0_1, c1_0_2, f1_0_2, c1_1_0, f1_1_0, c1_1_1, f1_1_1, c1_1_2, f1_1_2, hz1_0, hz1_1, ne0, ne1]; done)
  have c2_1_2 : w2.cell? ⟨w.heap.size + 1, 2, none⟩ = some (.int .i64 eY) := by
    rw [hc2 _ _ (by first | omega | (simp only [World.size_alloc, World.size_setCell]; omega))]
    first | assumption | (simp [go_sem, c1_0_0, f1_0_0, c1_0_1, f1_0_1, c1_0_2, f1_0_2, c1_1_0, f1_1_0, c1_1_1, f1_1_1, c1_1_2, f1_1_2, hz1_0, hz1_1, ne0, ne1]; done)
  have f2_1_2 : w2.frozen? ⟨w.heap.size + 1, 2, none⟩ = false := by
    rw [hf2 _ _ (by first | omega | (simp only [World.size_alloc, World.size_setCell]; omega))]
    first | assumption | (simp [go_sem, c1_0_0, f1_0_0, c1_0_1, f1_0_1, c1_0_2, f1_0_2, c1_1_0, f1_1_0, c1_1_1, f1_1_1, c1_1_2, f1_1_2, hz1_0, hz1_1, ne0, ne1]; done)
  have c2_2_0 : w2.cell? ⟨w1.heap.size, 0, none⟩ = some (.bool nS) := by
    rw [hc2 _ _ (by first | omega | (simp only [World.size_alloc, World.size_setCell]; omega))]
    first | assumption | (simp [go_sem, c1_0_0, f1_0_0, c1_0_1, f1_0_1, c1_0_2, f1_0_2, c1_1_0, f1_1_0, c1_1_1, f1_1_1, c1_1_2, f1_1_2, hz1_0, hz1_1, ne0, ne1]; done)
  have f2_2_0 : w2.frozen? ⟨w1.heap.size, 0, none⟩ = false := by
    rw [hf2 _ _ (by first | omega | (simp only [World.size_alloc, World.size_setCell]; omega))]
    first | assumption | (simp [go_sem, c1_0_0, f1_0_0, c1_0_1, f1_0_1, c1_0_2, f1_0_2, c1_1_0, f1_1_0, c1_1_1, f1_1_1, c1_1_2, f1_1_2, hz1_0, hz1_1, ne0, ne1]; done)
  have c2_2_1 : w2.cell? ⟨w1.heap.size, 1, none⟩ = some (.slice aS (ws XS).length cS) := by
    rw [hc2 _ _ (by first | omega | (simp only [World.size_alloc, World.size_setCell]; omega))]
    first | assumption | (simp [go_sem, c1_0_0, f1_0_0, c1_0_1, f1_0_1, c1_0_2, f1_0_2, c1_1_0, f1_1_0, c1_1_1, f1_1_1, c1_1_2, f1_1_2, hz1_0, hz1_1, ne0, ne1]; done)
  have f2_2_1 : w2.frozen? ⟨w1.heap.size, 1, none⟩ = false := by
    rw [hf2 _ _ (by first | omega | (simp only [World.size_alloc, World.size_setCell]; omega))]
    first | assumption | (simp [go_sem, c1_0_0, f1_0_0, c1_0_1, f1_0_1, c1_0_2, f1_0_2, c1_1_0, f1_1_0, c1_1_1, f1_1_1, c1_1_2, f1_1_2, hz1_0, hz1_1, ne0, ne1]; done)
  have c2_2_2 : w2.cell? ⟨w1.heap.size, 2, none⟩ = some (.int .i64 eS) := by
    rw [hc2 _ _ (by first | omega | (simp only [World.size_alloc, World.size_setCell]; omega))]
    first | assumption | (simp [go_sem, c1_0_0, f1_0_0, c1_0_1, f1_0_1, c1_0_2, f1_0_2, c1_1_0, f1_1_0, c1_1_1, f1_1_1, c1_1_2, f1_1_2, hz1_0, hz1_1, ne0, ne1]; done)
  have f2_2_2 : w2.frozen? ⟨w1.heap.size, 2, none⟩ = false := by
    rw [hf2 _ _ (by first | omega | (simp only [World.size_alloc, World.size_setCell]; omega))]
    first | assumption | (simp [go_sem, c1_0_0, f1_0_0, c1_0_1, f1_0_1, c1_0_2, f1_0_2, c1_1_0, f1_1_0, c1_1_1, f1_1_1, c1_1_2, f1_1_2, hz1_0, hz1_1, ne0, ne1]; done)
  clear hc2 hf2 c1_0_0 f1_0_0 c1_0_1 f1_0_1 c1_0_2 f1_0_2 c1_1_0 f1_1_0 c1_1_1 f1_1_1 c1_1_2 f1_1_2
  go_wp2_with fail
  refine (Calls.mono (H2.out _ _ _ (AY.below (by repeat (first | exact Below.refl _ _ | assumption | exact Nat.le_refl _ | (simp only [World.size_alloc, World.size_setCell]; omega) | omega | refine Below.alloc ?_ ?_ _ | refine Below.setCell ?_ ?_ _ | refine Below.drew ?_))))) ?_
  rintro r w3 ⟨rfl, hb3⟩
  clear H2
  have hy3 : w2.heap.size ≤ w3.heap.size := by
    have := hb3.size
    try simp only [World.size_alloc, World.size_setCell] at this
    omega
  have hz3_0 : w.heap.size < w3.heap.size := by
    have := hb3.size
    try simp only [World.size_alloc, World.size_setCell] at this
    omega
  have hz3_1 : w.heap.size + 1 < w3.heap.size := by
    have := hb3.size
    try simp only [World.size_alloc, World.size_setCell] at this
    omega
  have hz3_2 : w1.heap.size < w3.heap.size := by
    have := hb3.size
    try simp only [World.size_alloc, World.size_setCell] at this
    omega
  have B3 := Aside.intro (Below.trans (B := w2.heap.size) (a := w2) (by repeat (first | exact Below.refl _ _ | assumption | exact Nat.le_refl _ | (simp only [World.size_alloc, World.size_setCell]; omega) | omega | refine Below.alloc ?_ ?_ _ | refine Below.setCell ?_ ?_ _ | refine Below.drew ?_)) (hb3.mono (by first | omega | (simp only [World.size_alloc, World.size_setCell]; omega))))
  have S3 := Aside.intro (S2.out.trans (B3.out.mono S2.out.size))
  clear S2
  replace AX := AX.below B3.out
  replace AY := AY.below B3.out
  replace AS := AS.below B3.out
  obtain ⟨hc3, hf3⟩ := bcell hb3
  clear hb3 B3
  have c3_0_0 : w3.cell? ⟨w.heap.size, 0, none⟩ = some (.bool nX) := by
    rw [hc3 _ _ (by first | omega | (simp only [World.size_alloc, World.size_setCell]; omega))]
    first | assumption | (simp [go_sem, c2_0_0, f2_0_0, c2_0_1, f2_0_1, c2_0_2, f2_0_2, c2_1_0, f2_1_0, c2_1_1, f2_1_1, c2_1_2, f2_1_2, c2_2_0, f2_2_0, c2_2_1, f2_2_1, c2_2_2, f2_2_2, hz2_0, hz2_1, hz2_2, ne0, ne1]; done)
  have f3_0_0 : w3.frozen? ⟨w.heap.size, 0, none⟩ = false := by
    rw [hf3 _ _ (by first | omega | (simp only [World.size_alloc, World.size_setCell]; omega))]
    first | assumption | (simp [go_sem, c2_0_0, f2_0_0, c2_0_1, f2_0_1, c2_0_2, f2_0_2, c2_1_0, f2_1_0, c2_1_1, f2_1_1, c2_1_2, f2_1_2, c2_2_0, f2_2_0, c2_2_1, f2_2_1, c2_2_2, f2_2_2, hz2_0, hz2_1, hz2_2, ne0, ne1]; done)
  have c3_0_1 : w3.cell? ⟨w.heap.size, 1, none⟩ = some (.slice aX (ws XX).length cX) := by
    rw [hc3 _ _ (by first | omega | (simp only [World.size_alloc, World.size_setCell]; omega))]
    first | assumption | (simp [go_sem, c2_0_0, f2_0_0, c2_0_1, f2_0_1, c2_0_2, f2_0_2, c2_1_0, f2_1_0, c2_1_1, f2_1_1, c2_1_2, f2_1_2, c2_2_0, f2_2_0, c2_2_1, f2_2_1, c2_2_2, f2_2_2, hz2_0, hz2_1, hz2_2, ne0, ne1]; done)
  have f3_0_1 : w3.frozen? ⟨w.heap.size, 1, none⟩ = false := by
    rw [hf3 _ _ (by first | omega | (simp only [World.size_alloc, World.size_setCell]; omega))]
    first | assumption | (simp [go_sem, c2_0_0, f2_0_0, c2_0_1, f2_0_1, c2_0_2, f2_0_2, c2_1_0, f2_1_0, c2_1_1, f2_1_1, c2_1_2, f2_1_2, c2_2_0, f2_2_0, c2_2_1, f2_2_1, c2_2_2, f2_2_2, hz2_0, hz2_1, hz2_2, ne0, ne1]; done)
  have c3_0_2 : w3.cell? ⟨w.heap.size, 2, none⟩ = some (.int .i64 eX) := by
    rw [hc3 _ _ (by first | omega | (simp only [World.size_alloc, World.size_setCell]; omega))]
    first | assumption | (simp [go_sem, c2_0_0, f2_0_0, c2_0_1, f2_0_1, c2_0_2, f2_0_2, c2_1_0, f2_1_0, c2_1_1, f2_1_1, c2_1_2, f2_1_2, c2_2_0, f2_2_0, c2_2_1, f2_2_1, c2_2_2, f2_2_2, hz2_0, hz2_1, hz2_2, ne0, ne1]; done)
  have f3_0_2 : w3.frozen? ⟨w.heap.size, 2, none⟩ = false := by
    rw [hf3 _ _ (by first | omega | (simp only [World.size_alloc, World.size_setCell]; omega))]
    first | assumption | (simp [go_sem, c2_0_0, f2_0_0, c2_0_1, f2_0_1, c2_0_2, f2_0_2, c2_1_0, f2_1_0, c2_1_1, f2_1_1, c2_1_2, f2_1_2, c2_2_0, f2_2_0, c2_2_1, f2_2_1, c2_2_2, f2_2_2, hz2_0, hz2_1, hz2_2, ne0, ne1]; done)
  have c3_1_0 : w3.cell? ⟨w.heap.size + 1, 0, none⟩ = some (.bool nY) := by
    rw [hc3 _ _ (by first | omega | (simp only [World.size_alloc, World.size_setCell]; omega))]
    first | assumption | (simp [go_sem, c2_0_0, f2_0_0, c2_0_1, f2_0_1, c2_0_2, f2_0_2, c2_1_0, f2_1_0, c2_1_1, f2_1_1, c2_1_2, f2_1_2, c2_2_0, f2_2_0, c2_2_1, f2_2_1, c2_2_2, f2_2_2, hz2_0, hz2_1, hz2_2, ne0, ne1]; done)
  have f3_1_0 : w3.frozen? ⟨w.heap.size + 1, 0, none⟩ = false := by
    rw [hf3 _ _ (by first | omega | (simp only [World.size_alloc, World.size_setCell]; omega))]
    first | assumption | (simp [go_sem, c2_0_0, f2_0_0, c2_0_1, f2_0_1, c2_0_2, f2_0_2, c2_1_0, f2_1_0, c2_1_1, f2_1_1, c2_1_2, f2_1_2, c2_2_0, f2_2_0, c2_2_1, f2_2_1, c2_2_2, f2_2_2, hz2_0, hz2_1, hz2_2, ne0, ne1]; done)
  have c3_1_1 : w3.cell? ⟨w.heap.size + 1, 1, none⟩ = some (.slice aY (ws XY).length cY) := by
    rw [hc3 _ _ (by first | omega | (simp only [World.size_alloc, World.size_setCell]; omega))]
    first | assumption | (simp [go_sem, c2_0_0, f2_0_0, c2_0_1, f2_0_1, c2_0_2, f2_0_2, c2_1_0, f2_1_0, c2_1_1, f2_1_1, c2_1_2, f2_1_2, c2_2_0, f2_2_0, c2_2_1, f2_2_1, c2_2_2, f2_2_2, hz2_0, hz2_1, hz2_2, ne0, ne1]; done)
  have f3_1_1 : w3.frozen? ⟨w.heap.size + 1, 1, none⟩ = false := by
    rw [hf3 _ _ (by first | omega | (simp only [World.size_alloc, World.size_setCell]; omega))]
    first | assumption | (simp [go_sem, c2_0_0, f2_0_0, c2_0_1, f2_0_1, c2_0_2, f2_0_2, c2_1_0, f2_1_0, c2_1_1, f2_1_1, c2_1_2, f2_1_2, c2_2_0, f2_2_0, c2_2_1, f2_2_1, c2_2_2, f2_2_2, hz2_0, hz2_1, hz2_2, ne0, ne1]; done)
  have c3_1_2 : w3.cell? ⟨w.heap.size + 1, 2, none⟩ = some (.int .i64 eY) := by
    rw [hc3 _ _ (by first | omega | (simp only [World.size_alloc, World.size_setCell]; omega))]
    first | assumption | (simp [go_sem, c2_0_0, f2_0_0, c2_0_1, f2_0_1, c2_0_2, f2_0_2, c2_1_0, f2_1_0, c2_1_1, f2_1_1, c2_1_2, f2_1_2, c2_2_0, f2_2_0, c2_2_1, f2_2_1, c2_2_2, f2_2_2, hz2_0, hz2_1, hz2_2, ne0, ne1]; done)
  have f3_1_2 : w3.frozen? ⟨w.heap.size + 1, 2, none⟩ = false := by
    rw [hf3 _ _ (by first | omega | (simp only [World.size_alloc, World.size_setCell]; omega))]
    first | assumption | (simp [go_sem, c2_0_0, f2_0_0, c2_0_1, f2_0_1, c2_0_2, f2_0_2, c2_1_0, f2_1_0, c2_1_1, f2_1_1, c2_1_2, f2_1_2, c2_2_0, f2_2_0, c2_2_1, f2_2_1, c2_2_2, f2_2_2, hz2_0, hz2_1, hz2_2, ne0, ne1]; done)
  have c3_2_0 : w3.cell? ⟨w1.heap.size, 0, none⟩ = some (.bool nS) := by
    rw [hc3 _ _ (by first | omega | (simp only [World.size_alloc, World.size_setCell]; omega))]
    first | assumption | (simp [go_sem, c2_0_0, f2_0_0, c2_0_1, f2_0_1, c2_0_2, f2_0_2, c2_1_0, f2_1_0, c2_1_1, f2_1_1, c2_1_2, f2_1_2, c2_2_0, f2_2_0, c2_2_1, f2_2_1, c2_2_2, f2_2_2, hz2_0, hz2_1, hz2_2, ne0, ne1]; done)
  have f3_2_0 : w3.frozen? ⟨w1.heap.size, 0, none⟩ = false := by
    rw [hf3 _ _ (by first | omega | (simp only [World.size_alloc, World.size_setCell]; omega))]
    first | assumption | (simp [go_sem, c2_0_0, f2_0_0, c2_0_1, f2_0_1, c2_0_2, f2_0_2, c2_1_0, f2_1_0, c2_1_1, f2_1_1, c2_1_2, f2_1_2, c2_2_0, f2_2_0, c2_2_1, f2_2_1, c2_2_2, f2_2_2, hz2_0, hz2_1, hz2_2, ne0, ne1]; done)
  have c3_2_1 : w3.cell? ⟨w1.heap.size, 1, none⟩ = some (.slice aS (ws XS).length cS) := by
    rw [hc3 _ _ (by first | omega | (simp only [World.size_alloc, World.size_setCell]; omega))]
    first | assumption | (simp [go_sem, c2_0_0, f2_0_0, c2_0_1, f2_0_1, c2_0_2, f2_0_2, c2_1_0, f2_1_0, c2_1_1, f2_1_1, c2_1_2, f2_1_2, c2_2_0, f2_2_0, c2_2_1, f2_2_1, c2_2_2, f2_2_2, hz2_0, hz2_1, hz2_2, ne0, ne1]; done)
  have f3_2_1 : w3.frozen? ⟨w1.heap.size, 1, none⟩ = false := by
    rw [hf3 _ _ (by first | omega | (simp only [World.size_alloc, World.size_setCell]; omega))]
    first | assumption | (simp [go_sem, c2_0_0, f2_0_0, c2_0_1, f2_0_1, c2_0_2, f2_0_2, c2_1_0, f2_1_0, c2_1_1, f2_1_1, c2_1_2, f2_1_2, c2_2_0, f2_2_0, c2_2_1, f2_2_1, c2_2_2, f2_2_2, hz2_0, hz2_1, hz2_2, ne0, ne1]; done)
  have c3_2_2 : w3.cell? ⟨w1.heap.size, 2, none⟩ = some (.int .i64 eS) := by
    rw [hc3 _ _ (by first | omega | (simp only [World.size_alloc, World.size_setCell]; omega))]
    first | assumption | (simp [go_sem, c2_0_0, f2_0_0, c2_0_1, f2_0_1, c2_0_2, f2_0_2, c2_1_0, f2_1_0, c2_1_1, f2_1_1, c2_1_2, f2_1_2, c2_2_0, f2_2_0, c2_2_1, f2_2_1, c2_2_2, f2_2_2, hz2_0, hz2_1, hz2_2, ne0, ne1]; done)
  have f3_2_2 : w3.frozen? ⟨w1.heap.size, 2, none⟩ = false := by
    rw [hf3 _ _ (by first | omega | (simp only [World.size_alloc, World.size_setCell]; omega))]
    first | assumption | (simp [go_sem, c2_0_0, f2_0_0, c2_0_1, f2_0_1, c2_0_2, f2_0_2, c2_1_0, f2_1_0, c2_1_1, f2_1_1, c2_1_2, f2_1_2, c2_2_0, f2_2_0, c2_2_1, f2_2_1, c2_2_2, f2_2_2, hz2_0, hz2_1, hz2_2, ne0, ne1]; done)
  clear hc3 hf3 c2_0_0 f2_0_0 c2_0_1 f2_0_1 c2_0_2 f2_0_2 c2_1_0 f2_1_0 c2_1_1 f2_1_1 c2_1_2 f2_1_2 c2_2_0 f2_2_0 c2_2_1 f2_2_1 c2_2_2 f2_2_2
  go_wp2_with fail
  refine (Calls.mono (H3.out _ _ _ (AS.below (by repeat (first | exact Below.refl _ _ | assumption | exact Nat.le_refl _ | (simp only [World.size_alloc, World.size_setCell]; omega) | omega | refine Below.alloc ?_ ?_ _ | refine Below.setCell ?_ ?_ _ | refine Below.drew ?_))))) ?_
  rintro r w4 ⟨rfl, hb4⟩
  clear H3
  have hy4 : w3.heap.size ≤ w4.heap.size := by
    have := hb4.size
    try simp only [World.size_alloc, World.size_setCell] at this
    omega
  have hz4_0 : w.heap.size < w4.heap.size := by
    have := hb4.size
    try simp only [World.size_alloc, World.size_setCell] at this
    omega
  have hz4_1 : w.heap.size + 1 < w4.heap.size := by
    have := hb4.size
    try simp only [World.size_alloc, World.size_setCell] at this
    omega
  have hz4_2 : w1.heap.size < w4.heap.size := by
    have := hb4.size
    try simp only [World.size_alloc, World.size_setCell] at this
    omega
  have B4 := Aside.intro (Below.trans (B := w3.heap.size) (a := w3) (by repeat (first | exact Below.refl _ _ | assumption | exact Nat.le_refl _ | (simp only [World.size_alloc, World.size_setCell]; omega) | omega | refine Below.alloc ?_ ?_ _ | refine Below.setCell ?_ ?_ _ | refine Below.drew ?_)) (hb4.mono (by first | omega | (simp only [World.size_alloc, World.size_setCell]; omega))))
  have S4 := Aside.intro (S3.out.trans (B4.out.mono S3.out.size))
  clear S3
  replace AX := AX.below B4.out
  replace AY := AY.below B4.out
  replace AS := AS.below B4.out
  obtain ⟨hc4, hf4⟩ := bcell hb4
  clear hb4 B4
  have c4_0_0 : w4.cell? ⟨w.heap.size, 0, none⟩ = some (.bool nX) := by
    rw [hc4 _ _ (by first | omega | (simp only [World.size_alloc, World.size_setCell]; omega))]
    first | assumption | (simp [go_sem, c3_0_0, f3_0_0, c3_0_1, f3_0_1, c3_0_2, f3_0_2, c3_1_0, f3_1_0, c3_1_1, f3_1_1, c3_1_2, f3_1_2, c3_2_0, f3_2_0, c3_2_1, f3_2_1, c3_2_2, f3_2_2, hz3_0, hz3_1, hz3_2, ne0, ne1]; done)
  have f4_0_0 : w4.frozen? ⟨w.heap.size, 0, none⟩ = false := by
    rw [hf4 _ _ (by first | omega | (simp only [World.size_alloc, World.size_setCell]; omega))]
    first | assumption | (simp [go_sem, c3_0_0, f3_0_0, c3_0_1, f3_0_1, c3_0_2, f3_0_2, c3_1_0, f3_1_0, c3_1_1, f3_1_1, c3_1_2, f3_1_2, c3_2_0, f3_2_0, c3_2_1, f3_2_1, c3_2_2, f3_2_2, hz3_0, hz3_1, hz3_2, ne0, ne1]; done)
  have c4_0_1 : w4.cell? ⟨w.heap.size, 1, none⟩ = some (.slice aX (ws XX).length cX) := by
    rw [hc4 _ _ (by first | omega | (simp only [World.size_alloc, World.size_setCell]; omega))]
    first | assumption | (simp [go_sem, c3_0_0, f3_0_0, c3_0_1, f3_0_1, c3_0_2, f3_0_2, c3_1_0, f3_1_0, c3_1_1, f3_1_1, c3_1_2, f3_1_2, c3_2_0, f3_2_0, c3_2_1, f3_2_1, c3_2_2, f3_2_2, hz3_0, hz3_1, hz3_2, ne0, ne1]; done)
  have f4_0_1 : w4.frozen? ⟨w.heap.size, 1, none⟩ = false := by
    rw [hf4 _ _ (by first | omega | (simp only [World.size_alloc, World.size_setCell]; omega))]
    first | assumption | (simp [go_sem, c3_0_0, f3_0_0, c3_0_1, f3_0_1, c3_0_2, f3_0_2, c3_1_0, f3_1_0, c3_1_1, f3_1_1, c3_1_2, f3_1_2, c3_2_0, f3_2_0, c3_2_1, f3_2_1, c3_2_2, f3_2_2, hz3_0, hz3_1, hz3_2, ne0, ne1]; done)
  have c4_0_2 : w4.cell? ⟨w.heap.size, 2, none⟩ = some (.int .i64 eX) := by
    rw [hc4 _ _ (by first | omega | (simp only [World.size_alloc, World.size_setCell]; omega))]
    first | assumption | (simp [go_sem, c3_0_0, f3_0_0, c3_0_1, f3_0_1, c3_0_2, f3_0_2, c3_1_0, f3_1_0, c3_1_1, f3_1_1, c3_1_2, f3_1_2, c3_2_0, f3_2_0, c3_2_1, f3_2_1, c3_2_2, f3_2_2, hz3_0, hz3_1, hz3_2, ne0, ne1]; done)
  have f4_0_2 : w4.frozen? ⟨w.heap.size, 2, none⟩ = false := by
    rw [hf4 _ _ (by first | omega | (simp only [World.size_alloc, World.size_setCell]; omega))]
    first | assumption | (simp [go_sem, c3_0_0, f3_0_0, c3_0_1, f3_0_1, c3_0_2, f3_0_2, c3_1_0, f3_1_0, c3_1_1, f3_1_1, c3_1_2, f3_1_2, c3_2_0, f3_2_0, c3_2_1, f3_2_1, c3_2_2, f3_2_2, hz3_0, hz3_1, hz3_2, ne0, ne1]; done)
  have c4_1_0 : w4.cell? ⟨w.heap.size + 1, 0, none⟩ = some (.bool nY) := by
    rw [hc4 _ _ (by first | omega | (simp only [World.size_alloc, World.size_setCell]; omega))]
    first | assumption | (simp [go_sem, c3_0_0, f3_0_0, c3_0_1, f3_0_1, c3_0_2, f3_0_2, c3_1_0, f3_1_0, c3_1_1, f3_1_1, c3_1_2, f3_1_2, c3_2_0, f3_2_0, c3_2_1, f3_2_1, c3_2_2, f3_2_2, hz3_0, hz3_1, hz3_2, ne0, ne1]; done)
  have f4_1_0 : w4.frozen? ⟨w.heap.size + 1, 0, none⟩ = false := by
    rw [hf4 _ _ (by first | omega | (simp only [World.size_alloc, World.size_setCell]; omega))]
    first | assumption | (simp [go_sem, c3_0_0, f3_0_0, c3_0_1, f3_0_1, c3_0_2, f3_0_2, c3_1_0, f3_1_0, c3_1_1, f3_1_1, c3_1_2, f3_1_2, c3_2_0, f3_2_0, c3_2_1, f3_2_1, c3_2_2, f3_2_2, hz3_0, hz3_1, hz3_2, ne0, ne1]; done)
  have c4_1_1 : w4.cell? ⟨w.heap.size + 1, 1, none⟩ = some (.slice aY (ws XY).length cY) := by
    rw [hc4 _ _ (by first | omega | (simp only [World.size_alloc, World.size_setCell]; omega))]
    first | assumption | (simp [go_sem, c3_0_0, f3_0_0, c3_0_1, f3_0_1, c3_0_2, f3_0_2, c3_1_0, f3_1_0, c3_1_1, f3_1_1, c3_1_2, f3_1_2, c3_2_0, f3_2_0, c3_2_1, f3_2_1, c3_2_2, f3_2_2, hz3_0, hz3_1, hz3_2, ne0, ne1]; done)
  have f4_1_1 : w4.frozen? ⟨w.heap.size + 1, 1, none⟩ = false := by
    rw [hf4 _ _ (by first | omega | (simp only [World.size_alloc, World.size_setCell]; omega))]
    first | assumption | (simp [go_sem, c3_0_0, f3_0_0, c3_0_1, f3_0_1, c3_0_2, f3_0_2, c3_1_0, f3_1_0, c3_1_1, f3_1_1, c3_1_2, f3_1_2, c3_2_0, f3_2_0, c3_2_1, f3_2_1, c3_2_2, f3_2_2, hz3_0, hz3_1, hz3_2, ne0, ne1]; done)
  have c4_1_2 : w4.cell? ⟨w.heap.size + 1, 2, none⟩ = some (.int .i64 eY) := by
    rw [hc4 _ _ (by first | omega | (simp only [World.size_alloc, World.size_setCell]; omega))]
    first | assumption | (simp [go_sem, c3_0_0, f3_0_0, c3_0_1, f3_0_1, c3_0_2, f3_0_2, c3_1_0, f3_1_0, c3_1_1, f3_1_1, c3_1_2, f3_1_2, c3_2_0, f3_2_0, c3_2_1, f3_2_1, c3_2_2, f3_2_2, hz3_0, hz3_1, hz3_2, ne0, ne1]; done)
  have f4_1_2 : w4.frozen? ⟨w.heap.size + 1, 2, none⟩ = false := by
    rw [hf4 _ _ (by first | omega | (simp only [World.size_alloc, World.size_setCell]; omega))]
    first | assumption | (simp [go_sem, c3_0_0, f3_0_0, c3_0_1, f3_0_1, c3_0_2, f3_0_2, c3_1_0, f3_1_0, c3_1_1, f3_1_1, c3_1_2, f3_1_2, c3_2_0, f3_2_0, c3_2_1, f3_2_1, c3_2_2, f3_2_2, hz3_0, hz3_1, hz3_2, ne0, ne1]; done)
  have c4_2_0 : w4.cell? ⟨w1.heap.size, 0, none⟩ = some (.bool nS) := by
    rw [hc4 _ _ (by first | omega | (simp only [World.size_alloc, World.size_setCell]; omega))]
    first | assumption | (simp [go_sem, c3_0_0, f3_0_0, c3_0_1, f3_0_1, c3_0_2, f3_0_2, c3_1_0, f3_1_0, c3_1_1, f3_1_1, c3_1_2, f3_1_2, c3_2_0, f3_2_0, c3_2_1, f3_2_1, c3_2_2, f3_2_2, hz3_0, hz3_1, hz3_2, ne0, ne1]; done)
  have f4_2_0 : w4.frozen? ⟨w1.heap.size, 0, none⟩ = false := by
    rw [hf4 _ _ (by first | omega | (simp only [World.size_alloc, World.size_setCell]; omega))]
    first | assumption | (simp [go_sem, c3_0_0, f3_0_0, c3_0_1, f3_0_1, c3_0_2, f3_0_2, c3_1_0, f3_1_0, c3_1_1, f3_1_1, c3_1_2, f3_1_2, c3_2_0, f3_2_0, c3_2_1, f3_2_1, c3_2_2, f3_2_2, hz3_0, hz3_1, hz3_2, ne0, ne1]; done)
  have c4_2_1 : w4.cell? ⟨w1.heap.size, 1, none⟩ = some (.slice aS (ws XS).length cS) := by
    rw [hc4 _ _ (by first | omega | (simp only [World.size_alloc, World.size_setCell]; omega))]
    first | assumption | (simp [go_sem, c3_0_0, f3_0_0, c3_0_1, f3_0_1, c3_0_2, f3_0_2, c3_1_0, f3_1_0, c3_1_1, f3_1_1, c3_1_2, f3_1_2, c3_2_0, f3_2_0, c3_2_1, f3_2_1, c3_2_2, f3_2_2, hz3_0, hz3_1, hz3_2, ne0, ne1]; done)
  have f4_2_1 : w4.frozen? ⟨w1.heap.size, 1, none⟩ = false := by
    rw [hf4 _ _ (by first | omega | (simp only [World.size_alloc, World.size_setCell]; omega))]
    first | assumption | (simp [go_sem, c3_0_0, f3_0_0, c3_0_1, f3_0_1, c3_0_2, f3_0_2, c3_1_0, f3_1_0, c3_1_1, f3_1_1, c3_1_2, f3_1_2, c3_2_0, f3_2_0, c3_2_1, f3_2_1, c3_2_2, f3_2_2, hz3_0, hz3_1, hz3_2, ne0, ne1]; done)
  have c4_2_2 : w4.cell? ⟨w1.heap.size, 2, none⟩ = some (.int .i64 eS) := by
    rw [hc4 _ _ (by first | omega | (simp only [World.size_alloc, World.size_setCell]; omega))]
    first | assumption | (simp [go_sem, c3_0_0, f3_0_0, c3_0_1, f3_0_1, c3_0_2, f3_0_2, c3_1_0, f3_1_0, c3_1_1, f3_1_1, c3_1_2, f3_1_2, c3_2_0, f3_2_0, c3_2_1, f3_2_1, c3_2_2, f3_2_2, hz3_0, hz3_1, hz3_2, ne0, ne1]; done)
  have f4_2_2 : w4.frozen? ⟨w1.heap.size, 2, none⟩ = false := by
    rw [hf4 _ _ (by first | omega | (simp only [World.size_alloc, World.size_setCell]; omega))]
    first | assumption | (simp [go_sem, c3_0_0, f3_0_0, c3_0_1, f3_0_1, c3_0_2, f3_0_2, c3_1_0, f3_1_0, c3_1_1, f3_1_1, c3_1_2, f3_1_2, c3_2_0, f3_2_0, c3_2_1, f3_2_1, c3_2_2, f3_2_2, hz3_0, hz3_1, hz3_2, ne0, ne1]; done)
  clear hc4 hf4 c3_0_0 f3_0_0 c3_0_1 f3_0_1 c3_0_2 f3_0_2 c3_1_0 f3_1_0 c3_1_1 f3_1_1 c3_1_2 f3_1_2 c3_2_0 f3_2_0 c3_2_1 f3_2_1 c3_2_2 f3_2_2
  go_wp2_with fail
  refine (Calls.mono (size_law _ _ _ _ _ _)) ?_
  rintro r w5 ⟨rfl, hb5⟩
  have hy5 : w4.heap.size ≤ w5.heap.size := by
    have := hb5.size
    try simp only [World.size_alloc, World.size_setCell] at this
    omega
  have hz5_0 : w.heap.size < w5.heap.size := by
    have := hb5.size
    try simp only [World.size_alloc, World.size_setCell] at this
    omega
  have hz5_1 : w.heap.size + 1 < w5.heap.size := by
    have := hb5.size
    try simp only [World.size_alloc, World.size_setCell] at this
    omega
  have hz5_2 : w1.heap.size < w5.heap.size := by
    have := hb5.size
    try simp only [World.size_alloc, World.size_setCell] at this
    omega
  have B5 := Aside.intro (Below.trans (B := w4.heap.size) (a := w4) (by repeat (first | exact Below.refl _ _ | assumption | exact Nat.le_refl _ | (simp only [World.size_alloc, World.size_setCell]; omega) | omega | refine Below.alloc ?_ ?_ _ | refine Below.setCell ?_ ?_ _ | refine Below.drew ?_)) (hb5.mono (by first | omega | (simp only [World.size_alloc, World.size_setCell]; omega))))
  have S5 := Aside.intro (S4.out.trans (B5.out.mono S4.out.size))
  clear S4
  replace AX := AX.below B5.out
  replace AY := AY.below B5.out
  replace AS := AS.below B5.out
  obtain ⟨hc5, hf5⟩ := bcell hb5
  clear hb5 B5
  have c5_0_0 : w5.cell? ⟨w.heap.size, 0, none⟩ = some (.bool nX) := by
    rw [hc5 _ _ (by first | omega | (simp only [World.size_alloc, World.size_setCell]; omega))]
    first | assumption | (simp [go_sem, c4_0_0, f4_0_0, c4_0_1, f4_0_1, c4_0_2, f4_0_2, c4_1_0, f4_1_0, c4_1_1, f4_1_1, c4_1_2, f4_1_2, c4_2_0, f4_2_0, c4_2_1, f4_2_1, c4_2_2, f4_2_2, hz4_0, hz4_1, hz4_2, ne0, ne1]; done)
  have f5_0_0 : w5.frozen? ⟨w.heap.size, 0, none⟩ = false := by
    rw [hf5 _ _ (by first | omega | (simp only [World.size_alloc, World.size_setCell]; omega))]
    first | assumption | (simp [go_sem, c4_0_0, f4_0_0, c4_0_1, f4_0_1, c4_0_2, f4_0_2, c4_1_0, f4_1_0, c4_1_1, f4_1_1, c4_1_2, f4_1_2, c4_2_0, f4_2_0, c4_2_1, f4_2_1, c4_2_2, f4_2_2, hz4_0, hz4_1, hz4_2, ne0, ne1]; done)
  have c5_0_1 : w5.cell? ⟨w.heap.size, 1, none⟩ = some (.slice aX (ws XX).length cX) := by
    rw [hc5 _ _ (by first | omega | (simp only [World.size_alloc, World.size_setCell]; omega))]
    first | assumption | (simp [go_sem, c4_0_0, f4_0_0, c4_0_1, f4_0_1, c4_0_2, f4_0_2, c4_1_0, f4_1_0, c4_1_1, f4_1_1, c4_1_2, f4_1_2, c4_2_0, f4_2_0, c4_2_1, f4_2_1, c4_2_2, f4_2_2, hz4_0, hz4_1, hz4_2, ne0, ne1]; done)
  have f5_0_1 : w5.frozen? ⟨w.heap.size, 1, none⟩ = false := by
    rw [hf5 _ _ (by first | omega | (simp only [World.size_alloc, World.size_setCell]; omega))]
    first | assumption | (simp [go_sem, c4_0_0, f4_0_0, c4_0_1, f4_0_1, c4_0_2, f4_0_2, c4_1_0, f4_1_0, c4_1_1, f4_1_1, c4_1_2, f4_1_2, c4_2_0, f4_2_0, c4_2_1, f4_2_1, c4_2_2, f4_2_2, hz4_0, hz4_1, hz4_2, ne0, ne1]; done)
  have c5_0_2 : w5.cell? ⟨w.heap.size, 2, none⟩ = some (.int .i64 eX) := by
    rw [hc5 _ _ (by first | omega | (simp only [World.size_alloc, World.size_setCell]; omega))]
    first | assumption | (simp [go_sem, c4_0_0, f4_0_0, c4_0_1, f4_0_1, c4_0_2, f4_0_2, c4_1_0, f4_1_0, c4_1_1, f4_1_1, c4_1_2, f4_1_2, c4_2_0, f4_2_0, c4_2_1, f4_2_1, c4_2_2, f4_2_2, hz4_0, hz4_1, hz4_2, ne0, ne1]; done)
  have f5_0_2 : w5.frozen? ⟨w.heap.size, 2, none⟩ = false := by
    rw [hf5 _ _ (by first | omega | (simp only [World.size_alloc, World.size_setCell]; omega))]
    first | assumption | (simp [go_sem, c4_0_0, f4_0_0, c4_0_1, f4_0_1, c4_0_2, f4_0_2, c4_1_0, f4_1_0, c4_1_1, f4_1_1, c4_1_2, f4_1_2, c4_2_0, f4_2_0, c4_2_1, f4_2_1, c4_2_2, f4_2_2, hz4_0, hz4_1, hz4_2, ne0, ne1]; done)
  have c5_1_0 : w5.cell? ⟨w.heap.size + 1, 0, none⟩ = some (.bool nY) := by
    rw [hc5 _ _ (by first | omega | (simp only [World.size_alloc, World.size_setCell]; omega))]
    first | assumption | (simp [go_sem, c4_0_0, f4_0_0, c4_0_1, f4_0_1, c4_0_2, f4_0_2, c4_1_0, f4_1_0, c4_1_1, f4_1_1, c4_1_2, f4_1_2, c4_2_0, f4_2_0, c4_2_1, f4_2_1, c4_2_2, f4_2_2, hz4_0, hz4_1, hz4_2, ne0, ne1]; done)
  have f5_1_0 : w5.frozen? ⟨w.heap.size + 1, 0, none⟩ = false := by
    rw [hf5 _ _ (by first | omega | (simp only [World.size_alloc, World.size_setCell]; omega))]
    first | assumption | (simp [go_sem, c4_0_0, f4_0_0, c4_0_1, f4_0_1, c4_0_2, f4_0_2, c4_1_0, f4_1_0, c4_1_1, f4_1_1, c4_1_2, f4_1_2, c4_2_0, f4_2_0, c4_2_1, f4_2_1, c4_2_2, f4_2_2, hz4_0, hz4_1, hz4_2, ne0, ne1]; done)
  have c5_1_1 : w5.cell? ⟨w.heap.size + 1, 1, none⟩ = some (.slice aY (ws XY).length cY) := by
    rw [hc5 _ _ (by first | omega | (simp only [World.size_alloc, World.size_setCell]; omega))]
    first | assumption | (simp [go_sem, c4_0_0, f4_0_0, c4_0_1, f4_0_1, c4_0_2, f4_0_2, c4_1_0, f4_1_0, c4_1_1, f4_1_1, c4_1_2, f4_1_2, c4_2_0, f4_2_0, c4_2_1, f4_2_1, c4_2_2, f4_2_2, hz4_0, hz4_1, hz4_2, ne0, ne1]; done)
  have f5_1_1 : w5.frozen? ⟨w.heap.size + 1, 1, none⟩ = false := by
    rw [hf5 _ _ (by first | omega | (simp only [World.size_alloc, World.size_setCell]; omega))]
    first | assumption | (simp [go_sem, c4_0_0, f4_0_0, c4_0_1, f4_0_1, c4_0_2, f4_0_2, c4_1_0, f4_1_0, c4_1_1, f4_1_1, c4_1_2, f4_1_2, c4_2_0, f4_2_0, c4_2_1, f4_2_1, c4_2_2, f4_2_2, hz4_0, hz4_1, hz4_2, ne0, ne1]; done)
  have c5_1_2 : w5.cell? ⟨w.heap.size + 1, 2, none⟩ = some (.int .i64 eY) := by
    rw [hc5 _ _ (by first | omega | (simp only [World.size_alloc, World.size_setCell]; omega))]
    first | assumption | (simp [go_sem, c4_0_0, f4_0_0, c4_0_1, f4_0_1, c4_0_2, f4_0_2, c4_1_0, f4_1_0, c4_1_1, f4_1_1, c4_1_2, f4_1_2, c4_2_0, f4_2_0, c4_2_1, f4_2_1, c4_2_2, f4_2_2, hz4_0, hz4_1, hz4_2, ne0, ne1]; done)
  have f5_1_2 : w5.frozen? ⟨w.heap.size + 1, 2, none⟩ = false := by
    rw [hf5 _ _ (by first | omega | (simp only [World.size_alloc, World.size_setCell]; omega))]
    first | assumption | (simp [go_sem, c4_0_0, f4_0_0, c4_0_1, f4_0_1, c4_0_2, f4_0_2, c4_1_0, f4_1_0, c4_1_1, f4_1_1, c4_1_2, f4_1_2, c4_2_0, f4_2_0, c4_2_1, f4_2_1, c4_2_2, f4_2_2, hz4_0, hz4_1, hz4_2, ne0, ne1]; done)
  have c5_2_0 : w5.cell? ⟨w1.heap.size, 0, none⟩ = some (.bool nS) := by
    rw [hc5 _ _ (by first | omega | (simp only [World.size_alloc, World.size_setCell]; omega))]
    first | assumption | (simp [go_sem, c4_0_0, f4_0_0, c4_0_1, f4_0_1, c4_0_2, f4_0_2, c4_1_0, f4_1_0, c4_1_1, f4_1_1, c4_1_2, f4_1_2, c4_2_0, f4_2_0, c4_2_1, f4_2_1, c4_2_2, f4_2_2, hz4_0, hz4_1, hz4_2, ne0, ne1]; done)
  have f5_2_0 : w5.frozen? ⟨w1.heap.size, 0, none⟩ = false := by
    rw [hf5 _ _ (by first | omega | (simp only [World.size_alloc, World.size_setCell]; omega))]
    first | assumption | (simp [go_sem, c4_0_0, f4_0_0, c4_0_1, f4_0_1, c4_0_2, f4_0_2, c4_1_0, f4_1_0, c4_1_1, f4_1_1, c4_1_2, f4_1_2, c4_2_0, f4_2_0, c4_2_1, f4_2_1, c4_2_2, f4_2_2, hz4_0, hz4_1, hz4_2, ne0, ne1]; done)
  have c5_2_1 : w5.cell? ⟨w1.heap.size, 1, none⟩ = some (.slice aS (ws XS).length cS) := by
    rw [hc5 _ _ (by first | omega | (simp only [World.size_alloc, World.size_setCell]; omega))]
    first | assumption | (simp [go_sem, c4_0_0, f4_0_0, c4_0_1, f4_0_1, c4_0_2, f4_0_2, c4_1_0, f4_1_0, c4_1_1, f4_1_1, c4_1_2, f4_1_2, c4_2_0, f4_2_0, c4_2_1, f4_2_1, c4_2_2, f4_2_2, hz4_0, hz4_1, hz4_2, ne0, ne1]; done)
  have f5_2_1 : w5.frozen? ⟨w1.heap.size, 1, none⟩ = false := by
    rw [hf5 _ _ (by first | omega | (simp only [World.size_alloc, World.size_setCell]; omega))]
    first | assumption | (simp [go_sem, c4_0_0, f4_0_0, c4_0_1, f4_0_1, c4_0_2, f4_0_2, c4_1_0, f4_1_0, c4_1_1, f4_1_1, c4_1_2, f4_1_2, c4_2_0, f4_2_0, c4_2_1, f4_2_1, c4_2_2, f4_2_2, hz4_0, hz4_1, hz4_2, ne0, ne1]; done)
  have c5_2_2 : w5.cell? ⟨w1.heap.size, 2, none⟩ = some (.int .i64 eS) := by
    rw [hc5 _ _ (by first | omega | (simp only [World.size_alloc, World.size_setCell]; omega))]
    first | assumption | (simp [go_sem, c4_0_0, f4_0_0, c4_0_1, f4_0_1, c4_0_2, f4_0_2, c4_1_0, f4_1_0, c4_1_1, f4_1_1, c4_1_2, f4_1_2, c4_2_0, f4_2_0, c4_2_1, f4_2_1, c4_2_2, f4_2_2, hz4_0, hz4_1, hz4_2, ne0, ne1]; done)
  have f5_2_2 : w5.frozen? ⟨w1.heap.size, 2, none⟩ = false := by
    rw [hf5 _ _ (by first | omega | (simp only [World.size_alloc, World.size_setCell]; omega))]
    first | assumption | (simp [go_sem, c4_0_0, f4_0_0, c4_0_1, f4_0_1, c4_0_2, f4_0_2, c4_1_0, f4_1_0, c4_1_1, f4_1_1, c4_1_2, f4_1_2, c4_2_0, f4_2_0, c4_2_1, f4_2_1, c4_2_2, f4_2_2, hz4_0, hz4_1, hz4_2, ne0, ne1]; done)
  clear hc5 hf5 c4_0_0 f4_0_0 c4_0_1 f4_0_1 c4_0_2 f4_0_2 c4_1_0 f4_1_0 c4_1_1 f4_1_1 c4_1_2 f4_1_2 c4_2_0 f4_2_0 c4_2_1 f4_2_1 c4_2_2 f4_2_2
  go_wp2_with fail
  refine (Calls.mono (HC.out _ _ _ _ _ (AS.below (by repeat (first | exact Below.refl _ _ | assumption | exact Nat.le_refl _ | (simp only [World.size_alloc, World.size_setCell]; omega) | omega | refine Below.alloc ?_ ?_ _ | refine Below.setCell ?_ ?_ _ | refine Below.drew ?_))) (lit_arg w5 1 (by omega)))) ?_
  rintro r w6 ⟨rfl, hb6⟩
  clear HC
  have hy6 : w5.heap.size ≤ w6.heap.size := by
    have := hb6.size
    try simp only [World.size_alloc, World.size_setCell] at this
    omega
  have hz6_0 : w.heap.size < w6.heap.size := by
    have := hb6.size
    try simp only [World.size_alloc, World.size_setCell] at this
    omega
  have hz6_1 : w.heap.size + 1 < w6.heap.size := by
    have := hb6.size
    try simp only [World.size_alloc, World.size_setCell] at this
    omega
  have hz6_2 : w1.heap.size < w6.heap.size := by
    have := hb6.size
    try simp only [World.size_alloc, World.size_setCell] at this
    omega
  have B6 := Aside.intro (Below.trans (B := w5.heap.size) (a := w5) (by repeat (first | exact Below.refl _ _ | assumption | exact Nat.le_refl _ | (simp only [World.size_alloc, World.size_setCell]; omega) | omega | refine Below.alloc ?_ ?_ _ | refine Below.setCell ?_ ?_ _ | refine Below.drew ?_)) (hb6.mono (by first | omega | (simp only [World.size_alloc, World.size_setCell]; omega))))
  have S6 := Aside.intro (S5.out.trans (B6.out.mono S5.out.size))
  clear S5
  replace AX := AX.below B6.out
  replace AY := AY.below B6.out
  replace AS := AS.below B6.out
  obtain ⟨hc6, hf6⟩ := bcell hb6
  clear hb6 B6
  have c6_0_0 : w6.cell? ⟨w.heap.size, 0, none⟩ = some (.bool nX) := by
    rw [hc6 _ _ (by first | omega | (simp only [World.size_alloc, World.size_setCell]; omega))]
    first | assumption | (simp [go_sem, c5_0_0, f5_0_0, c5_0_1, f5_0_1, c5_0_2, f5_0_2, c5_1_0, f5_1_0, c5_1_1, f5_1_1, c5_1_2, f5_1_2, c5_2_0, f5_2_0, c5_2_1, f5_2_1, c5_2_2, f5_2_2, hz5_0, hz5_1, hz5_2, ne0, ne1]; done)
  have f6_0_0 : w6.frozen? ⟨w.heap.size, 0, none⟩ = false := by
    rw [hf6 _ _ (by first | omega | (simp only [World.size_alloc, World.size_setCell]; omega))]
    first | assumption | (simp [go_sem, c5_0_0, f5_0_0, c5_0_1, f5_0_1, c5_0_2, f5_0_2, c5_1_0, f5_1_0, c5_1_1, f5_1_1, c5_1_2, f5_1_2, c5_2_0, f5_2_0, c5_2_1, f5_2_1, c5_2_2, f5_2_2, hz5_0, hz5_1, hz5_2, ne0, ne1]; done)
  have c6_0_1 : w6.cell? ⟨w.heap.size, 1, none⟩ = some (.slice aX (ws XX).length cX) := by
    rw [hc6 _ _ (by first | omega | (simp only [World.size_alloc, World.size_setCell]; omega))]
    first | assumption | (simp [go_sem, c5_0_0, f5_0_0, c5_0_1, f5_0_1, c5_0_2, f5_0_2, c5_1_0, f5_1_0, c5_1_1, f5_1_1, c5_1_2, f5_1_2, c5_2_0, f5_2_0, c5_2_1, f5_2_1, c5_2_2, f5_2_2, hz5_0, hz5_1, hz5_2, ne0, ne1]; done)
  have f6_0_1 : w6.frozen? ⟨w.heap.size, 1, none⟩ = false := by
    rw [hf6 _ _ (by first | omega | (simp only [World.size_alloc, World.size_setCell]; omega))]
    first | assumption | (simp [go_sem, c5_0_0, f5_0_0, c5_0_1, f5_0_1, c5_0_2, f5_0_2, c5_1_0, f5_1_0, c5_1_1, f5_1_1, c5_1_2, f5_1_2, c5_2_0, f5_2_0, c5_2_1, f5_2_1, c5_2_2, f5_2_2, hz5_0, hz5_1, hz5_2, ne0, ne1]; done)
  have c6_0_2 : w6.cell? ⟨w.heap.size, 2, none⟩ = some (.int .i64 eX) := by
    rw [hc6 _ _ (by first | omega | (simp only [World.size_alloc, World.size_setCell]; omega))]
    first | assumption | (simp [go_sem, c5_0_0, f5_0_0, c5_0_1, f5_0_1, c5_0_2, f5_0_2, c5_1_0, f5_1_0, c5_1_1, f5_1_1, c5_1_2, f5_1_2, c5_2_0, f5_2_0, c5_2_1, f5_2_1, c5_2_2, f5_2_2, hz5_0, hz5_1, hz5_2, ne0, ne1]; done)
  have f6_0_2 : w6.frozen? ⟨w.heap.size, 2, none⟩ = false := by
    rw [hf6 _ _ (by first | omega | (simp only [World.size_alloc, World.size_setCell]; omega))]
    first | assumption | (simp [go_sem, c5_0_0, f5_0_0, c5_0_1, f5_0_1, c5_0_2, f5_0_2, c5_1_0, f5_1_0, c5_1_1, f5_1_1, c5_1_2, f5_1_2, c5_2_0, f5_2_0, c5_2_1, f5_2_1, c5_2_2, f5_2_2, hz5_0, hz5_1, hz5_2, ne0, ne1]; done)
  have c6_1_0 : w6.cell? ⟨w.heap.size + 1, 0, none⟩ = some (.bool nY) := by
    rw [hc6 _ _ (by first | omega | (simp only [World.size_alloc, World.size_setCell]; omega))]
    first | assumption | (simp [go_sem, c5_0_0, f5_0_0, c5_0_1, f5_0_1, c5_0_2, f5_0_2, c5_1_0, f5_1_0, c5_1_1, f5_1_1, c5_1_2, f5_1_2, c5_2_0, f5_2_0, c5_2_1, f5_2_1, c5_2_2, f5_2_2, hz5_0, hz5_1, hz5_2, ne0, ne1]; done)
  have f6_1_0 : w6.frozen? ⟨w.heap.size + 1, 0, none⟩ = false := by
    rw [hf6 _ _ (by first | omega | (simp only [World.size_alloc, World.size_setCell]; omega))]
    first | assumption | (simp [go_sem, c5_0_0, f5_0_0, c5_0_1, f5_0_1, c5_0_2, f5_0_2, c5_1_0, f5_1_0, c5_1_1, f5_1_1, c5_1_2, f5_1_2, c5_2_0, f5_2_0, c5_2_1, f5_2_1, c5_2_2, f5_2_2, hz5_0, hz5_1, hz5_2, ne0, ne1]; done)
  have c6_1_1 : w6.cell? ⟨w.heap.size + 1, 1, none⟩ = some (.slice aY (ws XY).length cY) := by
    rw [hc6 _ _ (by first | omega | (simp only [World.size_alloc, World.size_setCell]; omega))]
    first | assumption | (simp [go_sem, c5_0_0, f5_0_0, c5_0_1, f5_0_1, c5_0_2, f5_0_2, c5_1_0, f5_1_0, c5_1_1, f5_1_1, c5_1_2, f5_1_2, c5_2_0, f5_2_0, c5_2_1, f5_2_1, c5_2_2, f5_2_2, hz5_0, hz5_1, hz5_2, ne0, ne1]; done)
  have f6_1_1 : w6.frozen? ⟨w.heap.size + 1, 1, none⟩ = false := by
    rw [hf6 _ _ (by first | omega | (simp only [World.size_alloc, World.size_setCell]; omega))]
    first | assumption | (simp [go_sem, c5_0_0, f5_0_0, c5_0_1, f5_0_1, c5_0_2, f5_0_2, c5_1_0, f5_1_0, c5_1_1, f5_1_1, c5_1_2, f5_1_2, c5_2_0, f5_2_0, c5_2_1, f5_2_1, c5_2_2, f5_2_2, hz5_0, hz5_1, hz5_2, ne0, ne1]; done)
  have c6_1_2 : w6.cell? ⟨w.heap.size + 1, 2, none⟩ = some (.int .i64 eY) := by
    rw [hc6 _ _ (by first | omega | (simp only [World.size_alloc, World.size_setCell]; omega))]
    first | assumption | (simp [go_sem, c5_0_0, f5_0_0, c5_0_1, f5_0_1, c5_0_2, f5_0_2, c5_1_0, f5_1_0, c5_1_1, f5_1_1, c5_1_2, f5_1_2, c5_2_0, f5_2_0, c5_2_1, f5_2_1, c5_2_2, f5_2_2, hz5_0, hz5_1, hz5_2, ne0, ne1]; done)
  have f6_1_2 : w6.frozen? ⟨w.heap.size + 1, 2, none⟩ = false := by
    rw [hf6 _ _ (by first | omega | (simp only [World.size_alloc, World.size_setCell]; omega))]
    first | assumption | (simp [go_sem, c5_0_0, f5_0_0, c5_0_1, f5_0_1, c5_0_2, f5_0_2, c5_1_0, f5_1_0, c5_1_1, f5_1_1, c5_1_2, f5_1_2, c5_2_0, f5_2_0, c5_2_1, f5_2_1, c5_2_2, f5_2_2, hz5_0, hz5_1, hz5_2, ne0, ne1]; done)
  have c6_2_0 : w6.cell? ⟨w1.heap.size, 0, none⟩ = some (.bool nS) := by
    rw [hc6 _ _ (by first | omega | (simp only [World.size_alloc, World.size_setCell]; omega))]
    first | assumption | (simp [go_sem, c5_0_0, f5_0_0, c5_0_1, f5_0_1, c5_0_2, f5_0_2, c5_1_0, f5_1_0, c5_1_1, f5_1_1, c5_1_2, f5_1_2, c5_2_0, f5_2_0, c5_2_1, f5_2_1, c5_2_2, f5_2_2, hz5_0, hz5_1, hz5_2, ne0, ne1]; done)
  have f6_2_0 : w6.frozen? ⟨w1.heap.size, 0, none⟩ = false := by
    rw [hf6 _ _ (by first | omega | (simp only [World.size_alloc, World.size_setCell]; omega))]
    first | assumption | (simp [go_sem, c5_0_0, f5_0_0, c5_0_1, f5_0_1, c5_0_2, f5_0_2, c5_1_0, f5_1_0, c5_1_1, f5_1_1, c5_1_2, f5_1_2, c5_2_0, f5_2_0, c5_2_1, f5_2_1, c5_2_2, f5_2_2, hz5_0, hz5_1, hz5_2, ne0, ne1]; done)
  have c6_2_1 : w6.cell? ⟨w1.heap.size, 1, none⟩ = some (.slice aS (ws XS).length cS) := by
    rw [hc6 _ _ (by first | omega | (simp only [World.size_alloc, World.size_setCell]; omega))]
    first | assumption | (simp [go_sem, c5_0_0, f5_0_0, c5_0_1, f5_0_1, c5_0_2, f5_0_2, c5_1_0, f5_1_0, c5_1_1, f5_1_1, c5_1_2, f5_1_2, c5_2_0, f5_2_0, c5_2_1, f5_2_1, c5_2_2, f5_2_2, hz5_0, hz5_1, hz5_2, ne0, ne1]; done)
  have f6_2_1 : w6.frozen? ⟨w1.heap.size, 1, none⟩ = false := by
    rw [hf6 _ _ (by first | omega | (simp only [World.size_alloc, World.size_setCell]; omega))]
    first | assumption | (simp [go_sem, c5_0_0, f5_0_0, c5_0_1, f5_0_1, c5_0_2, f5_0_2, c5_1_0, f5_1_0, c5_1_1, f5_1_1, c5_1_2, f5_1_2, c5_2_0, f5_2_0, c5_2_1, f5_2_1, c5_2_2, f5_2_2, hz5_0, hz5_1, hz5_2, ne0, ne1]; done)
  have c6_2_2 : w6.cell? ⟨w1.heap.size, 2, none⟩ = some (.int .i64 eS) := by
    rw [hc6 _ _ (by first | omega | (simp only [World.size_alloc, World.size_setCell]; omega))]
    first | assumption | (simp [go_sem, c5_0_0, f5_0_0, c5_0_1, f5_0_1, c5_0_2, f5_0_2, c5_1_0, f5_1_0, c5_1_1, f5_1_1, c5_1_2, f5_1_2, c5_2_0, f5_2_0, c5_2_1, f5_2_1, c5_2_2, f5_2_2, hz5_0, hz5_1, hz5_2, ne0, ne1]; done)
  have f6_2_2 : w6.frozen? ⟨w1.heap.size, 2, none⟩ = false := by
    rw [hf6 _ _ (by first | omega | (simp only [World.size_alloc, World.size_setCell]; omega))]
    first | assumption | (simp [go_sem, c5_0_0, f5_0_0, c5_0_1, f5_0_1, c5_0_2, f5_0_2, c5_1_0, f5_1_0, c5_1_1, f5_1_1, c5_1_2, f5_1_2, c5_2_0, f5_2_0, c5_2_1, f5_2_1, c5_2_2, f5_2_2, hz5_0, hz5_1, hz5_2, ne0, ne1]; done)
  clear hc6 hf6 c5_0_0 f5_0_0 c5_0_1 f5_0_1 c5_0_2 f5_0_2 c5_1_0 f5_1_0 c5_1_1 f5_1_1 c5_1_2 f5_1_2 c5_2_0 f5_2_0 c5_2_1 f5_2_1 c5_2_2 f5_2_2
  have Z1 := Aside.intro (show Tr w w6 w.heap.size w1.heap.size nX nY nS aX aY aS XX XY XS cX cY cS eX eY eS from ⟨S6.out, by omega, by omega, ⟨c6_0_0, c6_0_1, c6_0_2, c6_1_0, c6_1_1, c6_1_2, c6_2_0, c6_2_1, c6_2_2⟩, AX, AY, AS⟩)
  clear AX AY AS
  clear hy1 hy2 hy3 hy4 hy5 hy6 hz1_0 hz1_1 hz2_0 hz2_1 hz2_2 hz3_0 hz3_1 hz3_2 hz4_0 hz4_1 hz4_2 hz5_0 hz5_1 hz5_2
  go_upto_region 6 with fail
  cases wx <;> cases wy <;> cases wz <;> cases le <;> cases lo
  · have hm : ¬ 0 < (ws XS).length := HL.out
    clear HL
    go_wp2
    exact bodyPost_ret (v := .bool true) (by simp [results, Try.results32, go_sem]) rfl ⟨rfl, S6.out⟩
  · have hm : 0 < (ws XS).length := HL.out
    clear HL
    go_wp2
    exact bodyPost_ret (v := .bool true) (by simp [results, Try.results32, go_sem]) rfl ⟨rfl, S6.out⟩
  · have hm : ¬ 0 < (ws XS).length := HL.out
    clear HL
    go_wp2
    exact bodyPost_ret (v := .bool true) (by simp [results, Try.results32, go_sem]) rfl ⟨rfl, S6.out⟩
  · have hm : 0 < (ws XS).length := HL.out
    clear HL
    go_wp2
    exact bodyPost_ret (v := .bool true) (by simp [results, Try.results32, go_sem]) rfl ⟨rfl, S6.out⟩
  · have hm : ¬ 0 < (ws XS).length := HL.out
    clear HL
    go_wp2
    exact bodyPost_ret (v := .bool true) (by simp [results, Try.results32, go_sem]) rfl ⟨rfl, S6.out⟩
  · have hm : 0 < (ws XS).length := HL.out
    clear HL
    go_wp2
    exact bodyPost_ret (v := .bool true) (by simp [results, Try.results32, go_sem]) rfl ⟨rfl, S6.out⟩
  · have hm : ¬ 0 < (ws XS).length := HL.out
    clear HL
    go_wp2
    exact bodyPost_ret (v := .bool true) (by simp [results, Try.results32, go_sem]) rfl ⟨rfl, S6.out⟩
  · have hm : 0 < (ws XS).length := HL.out
    clear HL
    go_wp2
    exact bodyPost_ret (v := .bool true) (by simp [results, Try.results32, go_sem]) rfl ⟨rfl, S6.out⟩
  · have hm : ¬ 0 < (ws XS).length := HL.out
    clear HL
    go_wp2
    exact bodyPost_ret (v := .bool true) (by simp [results, Try.results32, go_sem]) rfl ⟨rfl, S6.out⟩
  · have hm : 0 < (ws XS).length := HL.out
    clear HL
    go_wp2
    exact bodyPost_ret (v := .bool true) (by simp [results, Try.results32, go_sem]) rfl ⟨rfl, S6.out⟩
  · have hm : ¬ 0 < (ws XS).length := HL.out
    clear HL
    go_wp2
    exact bodyPost_ret (v := .bool true) (by simp [results, Try.results32, go_sem]) rfl ⟨rfl, S6.out⟩
  · have hm : 0 < (ws XS).length := HL.out
    clear HL
    go_wp2
    exact bodyPost_ret (v := .bool true) (by simp [results, Try.results32, go_sem]) rfl ⟨rfl, S6.out⟩
  · have hm : ¬ 0 < (ws XS).length := HL.out
    clear HL
    go_wp2
    exact bodyPost_ret (v := .bool true) (by simp [results, Try.results32, go_sem]) rfl ⟨rfl, S6.out⟩
  · have hm : 0 < (ws XS).length := HL.out
    clear HL
    go_wp2
    exact bodyPost_ret (v := .bool true) (by simp [results, Try.results32, go_sem]) rfl ⟨rfl, S6.out⟩
  · have hm : ¬ 0 < (ws XS).length := HL.out
    clear HL
    go_wp2
    exact bodyPost_ret (v := .bool true) (by simp [results, Try.results32, go_sem]) rfl ⟨rfl, S6.out⟩
  · have hm : 0 < (ws XS).length := HL.out
    clear HL
    go_wp2
    exact bodyPost_ret (v := .bool true) (by simp [results, Try.results32, go_sem]) rfl ⟨rfl, S6.out⟩
  · have hm : ¬ 0 < (ws XS).length := HL.out
    clear HL
    go_wp2
    exact bodyPost_ret (v := .bool true) (by simp [results, Try.results32, go_sem]) rfl ⟨rfl, S6.out⟩
  · have hm : 0 < (ws XS).length := HL.out
    clear HL
    go_wp2
    exact bodyPost_ret (v := .bool true) (by simp [results, Try.results32, go_sem]) rfl ⟨rfl, S6.out⟩
  · have hm : ¬ 0 < (ws XS).length := HL.out
    clear HL
    go_wp2
    exact bodyPost_ret (v := .bool true) (by simp [results, Try.results32, go_sem]) rfl ⟨rfl, S6.out⟩
  · have hm : 0 < (ws XS).length := HL.out
    clear HL
    go_wp2
    exact bodyPost_ret (v := .bool true) (by simp [results, Try.results32, go_sem]) rfl ⟨rfl, S6.out⟩
  · have hm : ¬ 0 < (ws XS).length := HL.out
    clear HL
    go_wp2
    exact bodyPost_ret (v := .bool true) (by simp [results, Try.results32, go_sem]) rfl ⟨rfl, S6.out⟩
  · have hm : 0 < (ws XS).length := HL.out
    clear HL
    go_wp2
    exact bodyPost_ret (v := .bool true) (by simp [results, Try.results32, go_sem]) rfl ⟨rfl, S6.out⟩
  · have hm : ¬ 0 < (ws XS).length := HL.out
    clear HL
    go_wp2
    exact bodyPost_ret (v := .bool true) (by simp [results, Try.results32, go_sem]) rfl ⟨rfl, S6.out⟩
  · have hm : 0 < (ws XS).length := HL.out
    clear HL
    go_wp2
    exact bodyPost_ret (v := .bool true) (by simp [results, Try.results32, go_sem]) rfl ⟨rfl, S6.out⟩
  · have hm : ¬ 0 < (ws XS).length := HL.out
    clear HL
    go_wp2
    exact bodyPost_ret (v := .bool true) (by simp [results, Try.results32, go_sem]) rfl ⟨rfl, S6.out⟩
  · have hm : 0 < (ws XS).length := HL.out
    clear HL
    go_wp2
    exact bodyPost_ret (v := .bool true) (by simp [results, Try.results32, go_sem]) rfl ⟨rfl, S6.out⟩
  · have hm : ¬ 0 < (ws XS).length := HL.out
    clear HL
    go_wp2
    exact bodyPost_ret (v := .bool true) (by simp [results, Try.results32, go_sem]) rfl ⟨rfl, S6.out⟩
  · have hm : 0 < (ws XS).length := HL.out
    clear HL
    go_wp2
    exact bodyPost_ret (v := .bool true) (by simp [results, Try.results32, go_sem]) rfl ⟨rfl, S6.out⟩
  · have hm : ¬ 0 < (ws XS).length := HL.out
    clear HL
    have HK := HJ rfl rfl rfl (.inr rfl)
    go_upto_region 8 with fail
    clear S6 HJ hm c6_0_0 f6_0_0 c6_0_1 f6_0_1 c6_0_2 f6_0_2 c6_1_0 f6_1_0 c6_1_1 f6_1_1 c6_1_2 f6_1_2 c6_2_0 f6_2_0 c6_2_1 f6_2_1 c6_2_2 f6_2_2
    clear hz6_0 hz6_1 hz6_2 ne0 ne1
    obtain ⟨h, hh⟩ : ∃ h, w1.heap.size = h := ⟨_, rfl⟩
    rw [hh] at Z1 ⊢
    clear hh
    obtain ⟨g, hg⟩ : ∃ g, w.heap.size = g := ⟨_, rfl⟩
    rw [hg] at Z1 ⊢
    clear hg
    go_cut [8] from 53 to 57 (fun v wx => v = .bool true ∧ Aside (Tr w wx g h nX nY nS aX aY aS XX XY XS cX cY cS eX eY eS))
    case first =>
      obtain ⟨k0, k1, k2, k3, k4, k5, k6, k7, k8⟩ := Z1.out.facts
      go_region_held3 (fun w' => w'.cell? ⟨g, 0, none⟩ = some (.bool nX) ∧ w'.cell? ⟨g, 1, none⟩ = some (.slice aX (ws XX).length cX) ∧ w'.cell? ⟨g, 2, none⟩ = some (.int .i64 eX) ∧ w'.cell? ⟨g + 1, 0, none⟩ = some (.bool nY) ∧ w'.cell? ⟨g + 1, 1, none⟩ = some (.slice aY (ws XY).length cY) ∧ w'.cell? ⟨g + 1, 2, none⟩ = some (.int .i64 eY) ∧ w'.cell? ⟨h, 0, none⟩ = some (.bool nS) ∧ w'.cell? ⟨h, 1, none⟩ = some (.slice aS (ws XS).length cS) ∧ w'.cell? ⟨h, 2, none⟩ = some (.int .i64 eS)) (go_keep) (first
        | (go_at_call 48
           first | with_reducible refine (Calls.mono (HK.out _ aS cS T1.out.aS)) ?_ | with_reducible refine (Calls.mono (HK.out _ aS cS (T1.out.aS.below ((Below.refl _ _).drew)))) ?_
           rintro r x2 ⟨rfl, hb⟩
           have hb1 : Below x1.heap.size x1 x2 := by first | exact hb | exact ((Below.refl _ x1).drew).trans (hb.mono (Nat.le_refl _)) | exact ((Below.refl _ x1).drew).drew.trans (hb.mono (Nat.le_refl _))
           have T2 := Aside.intro (T1.out.below hb1)
           obtain ⟨m2_0, m2_1, m2_2, m2_3, m2_4, m2_5, m2_6, m2_7, m2_8⟩ := T2.out.facts
           clear hb hb1)
        | (go_at_call 14
           with_reducible refine (Calls.mono (HS.out _)) ?_
           rintro r x1 ⟨rfl, hb⟩
           have hb1 : Below w6.heap.size w6 x1 := by first | exact hb | exact ((Below.refl _ w6).drew).trans (hb.mono (Nat.le_refl _)) | exact ((Below.refl _ w6).drew).drew.trans (hb.mono (Nat.le_refl _))
           have T1 := Aside.intro (Z1.out.below hb1)
           obtain ⟨m1_0, m1_1, m1_2, m1_3, m1_4, m1_5, m1_6, m1_7, m1_8⟩ := T1.out.facts
           clear hb hb1))
      all_goals (
        go_wp2_with fail
        go_meet
        case rel => exact ⟨rfl, T2⟩)
    case rest =>
      obtain ⟨rfl, Z2⟩ := hcut
      obtain ⟨U2, hU⟩ : ∃ U, U = wc := ⟨_, rfl⟩
      subst hU
      clear Z1
      go_wp2
      exact bodyPost_ret (v := .bool true) (by simp [results, Try.results32, go_sem]) rfl ⟨rfl, Z2.out.bel⟩
  · have hm : 0 < (ws XS).length := HL.out
    clear HL
    go_wp2
    exact bodyPost_ret (v := .bool true) (by simp [results, Try.results32, go_sem]) rfl ⟨rfl, S6.out⟩
  · have hm : ¬ 0 < (ws XS).length := HL.out
    clear HL
    have HK := HJ rfl rfl rfl (.inl rfl)
    go_upto_region 8 with fail
    clear S6 HJ hm c6_0_0 f6_0_0 c6_0_1 f6_0_1 c6_0_2 f6_0_2 c6_1_0 f6_1_0 c6_1_1 f6_1_1 c6_1_2 f6_1_2 c6_2_0 f6_2_0 c6_2_1 f6_2_1 c6_2_2 f6_2_2
    clear hz6_0 hz6_1 hz6_2 ne0 ne1
    obtain ⟨h, hh⟩ : ∃ h, w1.heap.size = h := ⟨_, rfl⟩
    rw [hh] at Z1 ⊢
    clear hh
    obtain ⟨g, hg⟩ : ∃ g, w.heap.size = g := ⟨_, rfl⟩
    rw [hg] at Z1 ⊢
    clear hg
    go_cut [8] from 53 to 57 (fun v wx => v = .bool true ∧ Aside (Tr w wx g h nX nY nS aX aY aS XX XY XS cX cY cS eX eY eS))
    case first =>
      obtain ⟨k0, k1, k2, k3, k4, k5, k6, k7, k8⟩ := Z1.out.facts
      go_region_held3 (fun w' => w'.cell? ⟨g, 0, none⟩ = some (.bool nX) ∧ w'.cell? ⟨g, 1, none⟩ = some (.slice aX (ws XX).length cX) ∧ w'.cell? ⟨g, 2, none⟩ = some (.int .i64 eX) ∧ w'.cell? ⟨g + 1, 0, none⟩ = some (.bool nY) ∧ w'.cell? ⟨g + 1, 1, none⟩ = some (.slice aY (ws XY).length cY) ∧ w'.cell? ⟨g + 1, 2, none⟩ = some (.int .i64 eY) ∧ w'.cell? ⟨h, 0, none⟩ = some (.bool nS) ∧ w'.cell? ⟨h, 1, none⟩ = some (.slice aS (ws XS).length cS) ∧ w'.cell? ⟨h, 2, none⟩ = some (.int .i64 eS)) (go_keep) (first
        | (go_at_call 48
           first | with_reducible refine (Calls.mono (HK.out _ aS cS T1.out.aS)) ?_ | with_reducible refine (Calls.mono (HK.out _ aS cS (T1.out.aS.below ((Below.refl _ _).drew)))) ?_
           rintro r x2 ⟨rfl, hb⟩
           have hb1 : Below x1.heap.size x1 x2 := by first | exact hb | exact ((Below.refl _ x1).drew).trans (hb.mono (Nat.le_refl _)) | exact ((Below.refl _ x1).drew).drew.trans (hb.mono (Nat.le_refl _))
           have T2 := Aside.intro (T1.out.below hb1)
           obtain ⟨m2_0, m2_1, m2_2, m2_3, m2_4, m2_5, m2_6, m2_7, m2_8⟩ := T2.out.facts
           clear hb hb1)
        | (go_at_call 14
           with_reducible refine (Calls.mono (HS.out _)) ?_
           rintro r x1 ⟨rfl, hb⟩
           have hb1 : Below w6.heap.size w6 x1 := by first | exact hb | exact ((Below.refl _ w6).drew).trans (hb.mono (Nat.le_refl _)) | exact ((Below.refl _ w6).drew).drew.trans (hb.mono (Nat.le_refl _))
           have T1 := Aside.intro (Z1.out.below hb1)
           obtain ⟨m1_0, m1_1, m1_2, m1_3, m1_4, m1_5, m1_6, m1_7, m1_8⟩ := T1.out.facts
           clear hb hb1))
      all_goals (
        go_wp2_with fail
        go_meet
        case rel => exact ⟨rfl, T2⟩)
    case rest =>
      obtain ⟨rfl, Z2⟩ := hcut
      obtain ⟨U2, hU⟩ : ∃ U, U = wc := ⟨_, rfl⟩
      subst hU
      clear Z1
      go_wp2
      exact bodyPost_ret (v := .bool true) (by simp [results, Try.results32, go_sem]) rfl ⟨rfl, Z2.out.bel⟩
  · have hm : 0 < (ws XS).length := HL.out
    clear HL
    have HK := HJ rfl rfl rfl (.inl rfl)
    go_upto_region 8 with fail
    clear S6 HJ hm c6_0_0 f6_0_0 c6_0_1 f6_0_1 c6_0_2 f6_0_2 c6_1_0 f6_1_0 c6_1_1 f6_1_1 c6_1_2 f6_1_2 c6_2_0 f6_2_0 c6_2_1 f6_2_1 c6_2_2 f6_2_2
    clear hz6_0 hz6_1 hz6_2 ne0 ne1
    obtain ⟨h, hh⟩ : ∃ h, w1.heap.size = h := ⟨_, rfl⟩
    rw [hh] at Z1 ⊢
    clear hh
    obtain ⟨g, hg⟩ : ∃ g, w.heap.size = g := ⟨_, rfl⟩
    rw [hg] at Z1 ⊢
    clear hg
    go_cut [8] from 53 to 57 (fun v wx => v = .bool true ∧ Aside (Tr w wx g h nX nY nS aX aY aS XX XY XS cX cY cS eX eY eS))
    case first =>
      obtain ⟨k0, k1, k2, k3, k4, k5, k6, k7, k8⟩ := Z1.out.facts
      go_region_held3 (fun w' => w'.cell? ⟨g, 0, none⟩ = some (.bool nX) ∧ w'.cell? ⟨g, 1, none⟩ = some (.slice aX (ws XX).length cX) ∧ w'.cell? ⟨g, 2, none⟩ = some (.int .i64 eX) ∧ w'.cell? ⟨g + 1, 0, none⟩ = some (.bool nY) ∧ w'.cell? ⟨g + 1, 1, none⟩ = some (.slice aY (ws XY).length cY) ∧ w'.cell? ⟨g + 1, 2, none⟩ = some (.int .i64 eY) ∧ w'.cell? ⟨h, 0, none⟩ = some (.bool nS) ∧ w'.cell? ⟨h, 1, none⟩ = some (.slice aS (ws XS).length cS) ∧ w'.cell? ⟨h, 2, none⟩ = some (.int .i64 eS)) (go_keep) (first
        | (go_at_call 48
           first | with_reducible refine (Calls.mono (HK.out _ aS cS T1.out.aS)) ?_ | with_reducible refine (Calls.mono (HK.out _ aS cS (T1.out.aS.below ((Below.refl _ _).drew)))) ?_
           rintro r x2 ⟨rfl, hb⟩
           have hb1 : Below x1.heap.size x1 x2 := by first | exact hb | exact ((Below.refl _ x1).drew).trans (hb.mono (Nat.le_refl _)) | exact ((Below.refl _ x1).drew).drew.trans (hb.mono (Nat.le_refl _))
           have T2 := Aside.intro (T1.out.below hb1)
           obtain ⟨m2_0, m2_1, m2_2, m2_3, m2_4, m2_5, m2_6, m2_7, m2_8⟩ := T2.out.facts
           clear hb hb1)
        | (go_at_call 14
           with_reducible refine (Calls.mono (HS.out _)) ?_
           rintro r x1 ⟨rfl, hb⟩
           have hb1 : Below w6.heap.size w6 x1 := by first | exact hb | exact ((Below.refl _ w6).drew).trans (hb.mono (Nat.le_refl _)) | exact ((Below.refl _ w6).drew).drew.trans (hb.mono (Nat.le_refl _))
           have T1 := Aside.intro (Z1.out.below hb1)
           obtain ⟨m1_0, m1_1, m1_2, m1_3, m1_4, m1_5, m1_6, m1_7, m1_8⟩ := T1.out.facts
           clear hb hb1))
      all_goals (
        go_wp2_with fail
        go_meet
        case rel => exact ⟨rfl, T2⟩)
    case rest =>
      obtain ⟨rfl, Z2⟩ := hcut
      obtain ⟨U2, hU⟩ : ∃ U, U = wc := ⟨_, rfl⟩
      subst hU
      clear Z1
      go_wp2
      exact bodyPost_ret (v := .bool true) (by simp [results, Try.results32, go_sem]) rfl ⟨rfl, Z2.out.bel⟩
end Go.Proofs.Ythilnddhehbjiab
