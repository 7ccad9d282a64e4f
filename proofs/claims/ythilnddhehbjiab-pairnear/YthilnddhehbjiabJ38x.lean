/- The law's good. -/
import Derived.Test.YthilnddhehbjiabJ37x
import Derived.BigQuiet
import Derived.Deep.CutRange
import Derived.Deep.RegionHeld3
import Derived.Deep.RegionWith
namespace Go.Proofs.Ythilnddhehbjiab
open Go.RowKit J
set_option linter.unusedVariables false
set_option maxRecDepth 20000
set_option linter.unusedSimpArgs false
attribute [local go_sem] st_float

structure Sg (w v : World) (g h : Nat) (ph pl : Nat) (nX : Bool) (aX : Option Addr) (XX cX : Nat) (eX : Int) : Prop where
  bel : Below w.heap.size w v
  lt0 : g < v.heap.size
  lt1 : h < v.heap.size
  facts : v.cell? ⟨g, 0, none⟩ = some (.float .f64 ph) ∧ v.cell? ⟨g, 1, none⟩ = some (.float .f64 pl) ∧ v.cell? ⟨h, 0, none⟩ = some (.bool nX) ∧ v.cell? ⟨h, 1, none⟩ = some (.slice aX (ws XX).length cX) ∧ v.cell? ⟨h, 2, none⟩ = some (.int .i64 eX)
  AX : Arg v aX (ws XX).length cX (ws XX)
theorem Sg.below {w v y : World} {g h : Nat} {ph pl : Nat} {nX : Bool} {aX : Option Addr} {XX cX : Nat} {eX : Int} (t : Sg w v g h ph pl nX aX XX cX eX) (hb : Below v.heap.size v y) : Sg w y g h ph pl nX aX XX cX eX := by
  obtain ⟨f0, f1, f2, f3, f4⟩ := t.facts
  obtain ⟨hc, _⟩ := bcell hb
  have hs := hb.size
  exact ⟨t.bel.trans (hb.mono t.bel.size), Nat.lt_of_lt_of_le t.lt0 hs, Nat.lt_of_lt_of_le t.lt1 hs, ⟨by rw [hc _ _ t.lt0]; exact f0, by rw [hc _ _ t.lt0]; exact f1, by rw [hc _ _ t.lt1]; exact f2, by rw [hc _ _ t.lt1]; exact f3, by rw [hc _ _ t.lt1]; exact f4⟩, t.AX.below hb⟩
set_option maxHeartbeats 8000000 in
theorem good_ff (ph pl : Nat) (nX nY : Bool) (XX XY : Nat) (eX eY : Int) (w : World) (lX : (ws XX).length ≤ 8192) (lY : (ws XY).length ≤ 8192)
    (HX : Hid (∀ u, Calls Try.prog 29 #[.float .f64 ph] u fun r w' => (∃ v, r = .returned (.tuple #[.agg #[.bool nX, v, .int .i64 eX], .bool false]) ∧ Nt u.heap.size w' v XX) ∧ Below u.heap.size u w'))
    (HY : Hid (∀ u, Calls Try.prog 29 #[.float .f64 pl] u fun r w' => (∃ v, r = .returned (.tuple #[.agg #[.bool nY, v, .int .i64 eY], .bool false]) ∧ Nt u.heap.size w' v XY) ∧ Below u.heap.size u w')) :
    Calls Try.prog 33 #[.agg #[.float .f64 ph, .float .f64 pl]] w fun r w' => r = .returned (.bool false) ∧ Below w.heap.size w w' := by
  go_enter Try.func33, Try.ntmps33
  go_wp2_with fail
  refine (Calls.mono (HX.out _)) ?_
  rintro r w1 ⟨⟨v1, rfl, N1⟩, hb1⟩
  obtain ⟨aX, cX, rfl, AX⟩ := N1.arg (by omega)
  clear N1
  clear HX
  have hy1 : w.heap.size ≤ w1.heap.size := by
    have := hb1.size
    try simp only [World.size_alloc, World.size_setCell] at this
    omega
  have hz1_0 : w.heap.size < w1.heap.size := by
    have := hb1.size
    try simp only [World.size_alloc, World.size_setCell] at this
    omega
  have B1 := Aside.intro (Below.trans (B := w.heap.size) (a := w) (by repeat (first | exact Below.refl _ _ | assumption | exact Nat.le_refl _ | (simp only [World.size_alloc, World.size_setCell]; omega) | omega | refine Below.alloc ?_ ?_ _ | refine Below.setCell ?_ ?_ _ | refine Below.drew ?_)) (hb1.mono (by first | omega | (simp only [World.size_alloc, World.size_setCell]; omega))))
  have S1 := B1
  obtain ⟨hc1, hf1⟩ := bcell hb1
  clear hb1 B1
  have c1_0_0 : w1.cell? ⟨w.heap.size, 0, none⟩ = some (.float .f64 ph) := by
    rw [hc1 _ _ (by first | omega | (simp only [World.size_alloc, World.size_setCell]; omega))]
    first | assumption | (simp [go_sem]; done)
  have f1_0_0 : w1.frozen? ⟨w.heap.size, 0, none⟩ = false := by
    rw [hf1 _ _ (by first | omega | (simp only [World.size_alloc, World.size_setCell]; omega))]
    first | assumption | (simp [go_sem]; done)
  have c1_0_1 : w1.cell? ⟨w.heap.size, 1, none⟩ = some (.float .f64 pl) := by
    rw [hc1 _ _ (by first | omega | (simp only [World.size_alloc, World.size_setCell]; omega))]
    first | assumption | (simp [go_sem]; done)
  have f1_0_1 : w1.frozen? ⟨w.heap.size, 1, none⟩ = false := by
    rw [hf1 _ _ (by first | omega | (simp only [World.size_alloc, World.size_setCell]; omega))]
    first | assumption | (simp [go_sem]; done)
  clear hc1 hf1 
  have ne0 : w.heap.size ≠ w1.heap.size := by omega
  go_wp2_with fail
  refine (Calls.mono (HY.out _)) ?_
  rintro r w2 ⟨⟨v2, rfl, N2⟩, hb2⟩
  obtain ⟨aY, cY, rfl, AY⟩ := N2.arg (by omega)
  clear N2
  clear HY
  have hy2 : w1.heap.size ≤ w2.heap.size := by
    have := hb2.size
    try simp only [World.size_alloc, World.size_setCell] at this
    omega
  have hz2_0 : w.heap.size < w2.heap.size := by
    have := hb2.size
    try simp only [World.size_alloc, World.size_setCell] at this
    omega
  have hz2_1 : w1.heap.size < w2.heap.size := by
    have := hb2.size
    try simp only [World.size_alloc, World.size_setCell] at this
    omega
  have B2 := Aside.intro (Below.trans (B := w1.heap.size) (a := w1) (by repeat (first | exact Below.refl _ _ | assumption | exact Nat.le_refl _ | (simp only [World.size_alloc, World.size_setCell]; omega) | omega | refine Below.alloc ?_ ?_ _ | refine Below.setCell ?_ ?_ _ | refine Below.drew ?_)) (hb2.mono (by first | omega | (simp only [World.size_alloc, World.size_setCell]; omega))))
  have S2 := Aside.intro (S1.out.trans (B2.out.mono S1.out.size))
  clear S1
  replace AX := AX.below B2.out
  obtain ⟨hc2, hf2⟩ := bcell hb2
  clear hb2 B2
  have c2_0_0 : w2.cell? ⟨w.heap.size, 0, none⟩ = some (.float .f64 ph) := by
    rw [hc2 _ _ (by first | omega | (simp only [World.size_alloc, World.size_setCell]; omega))]
    first | assumption | (simp [go_sem, c1_0_0, f1_0_0, c1_0_1, f1_0_1, hz1_0, ne0]; done)
  have f2_0_0 : w2.frozen? ⟨w.heap.size, 0, none⟩ = false := by
    rw [hf2 _ _ (by first | omega | (simp only [World.size_alloc, World.size_setCell]; omega))]
    first | assumption | (simp [go_sem, c1_0_0, f1_0_0, c1_0_1, f1_0_1, hz1_0, ne0]; done)
  have c2_0_1 : w2.cell? ⟨w.heap.size, 1, none⟩ = some (.float .f64 pl) := by
    rw [hc2 _ _ (by first | omega | (simp only [World.size_alloc, World.size_setCell]; omega))]
    first | assumption | (simp [go_sem, c1_0_0, f1_0_0, c1_0_1, f1_0_1, hz1_0, ne0]; done)
  have f2_0_1 : w2.frozen? ⟨w.heap.size, 1, none⟩ = false := by
    rw [hf2 _ _ (by first | omega | (simp only [World.size_alloc, World.size_setCell]; omega))]
    first | assumption | (simp [go_sem, c1_0_0, f1_0_0, c1_0_1, f1_0_1, hz1_0, ne0]; done)
  have c2_1_0 : w2.cell? ⟨w1.heap.size, 0, none⟩ = some (.bool nX) := by
    rw [hc2 _ _ (by first | omega | (simp only [World.size_alloc, World.size_setCell]; omega))]
    first | assumption | (simp [go_sem, c1_0_0, f1_0_0, c1_0_1, f1_0_1, hz1_0, ne0]; done)
  have f2_1_0 : w2.frozen? ⟨w1.heap.size, 0, none⟩ = false := by
    rw [hf2 _ _ (by first | omega | (simp only [World.size_alloc, World.size_setCell]; omega))]
    first | assumption | (simp [go_sem, c1_0_0, f1_0_0, c1_0_1, f1_0_1, hz1_0, ne0]; done)
  have c2_1_1 : w2.cell? ⟨w1.heap.size, 1, none⟩ = some (.slice aX (ws XX).length cX) := by
    rw [hc2 _ _ (by first | omega | (simp only [World.size_alloc, World.size_setCell]; omega))]
    first | assumption | (simp [go_sem, c1_0_0, f1_0_0, c1_0_1, f1_0_1, hz1_0, ne0]; done)
  have f2_1_1 : w2.frozen? ⟨w1.heap.size, 1, none⟩ = false := by
    rw [hf2 _ _ (by first | omega | (simp only [World.size_alloc, World.size_setCell]; omega))]
    first | assumption | (simp [go_sem, c1_0_0, f1_0_0, c1_0_1, f1_0_1, hz1_0, ne0]; done)
  have c2_1_2 : w2.cell? ⟨w1.heap.size, 2, none⟩ = some (.int .i64 eX) := by
    rw [hc2 _ _ (by first | omega | (simp only [World.size_alloc, World.size_setCell]; omega))]
    first | assumption | (simp [go_sem, c1_0_0, f1_0_0, c1_0_1, f1_0_1, hz1_0, ne0]; done)
  have f2_1_2 : w2.frozen? ⟨w1.heap.size, 2, none⟩ = false := by
    rw [hf2 _ _ (by first | omega | (simp only [World.size_alloc, World.size_setCell]; omega))]
    first | assumption | (simp [go_sem, c1_0_0, f1_0_0, c1_0_1, f1_0_1, hz1_0, ne0]; done)
  clear hc2 hf2 c1_0_0 f1_0_0 c1_0_1 f1_0_1
  go_upto_region 3 with fail
  go_quiet (fail)
  have SS := S2.out
  go_wp2
  exact bodyPost_ret (v := .bool false) (by simp [results, Try.results33, go_sem]) rfl ⟨rfl, (by repeat (first | exact SS | refine Below.drewN' ?_ _ | refine Below.drew ?_ | refine Below.alloc ?_ (by omega) _))⟩
set_option maxHeartbeats 8000000 in
theorem good_ft (ph pl : Nat) (nX nY : Bool) (XX XY : Nat) (eX eY : Int) (w : World) (lX : (ws XX).length ≤ 8192) (lY : (ws XY).length ≤ 8192)
    (HX : Hid (∀ u, Calls Try.prog 29 #[.float .f64 ph] u fun r w' => (∃ v, r = .returned (.tuple #[.agg #[.bool nX, v, .int .i64 eX], .bool false]) ∧ Nt u.heap.size w' v XX) ∧ Below u.heap.size u w'))
    (HY : Hid (∀ u, Calls Try.prog 29 #[.float .f64 pl] u fun r w' => (∃ v, r = .returned (.tuple #[.agg #[.bool nY, v, .int .i64 eY], .bool true]) ∧ Nt u.heap.size w' v XY) ∧ Below u.heap.size u w')) :
    Calls Try.prog 33 #[.agg #[.float .f64 ph, .float .f64 pl]] w fun r w' => r = .returned (.bool false) ∧ Below w.heap.size w w' := by
  go_enter Try.func33, Try.ntmps33
  go_wp2_with fail
  refine (Calls.mono (HX.out _)) ?_
  rintro r w1 ⟨⟨v1, rfl, N1⟩, hb1⟩
  obtain ⟨aX, cX, rfl, AX⟩ := N1.arg (by omega)
  clear N1
  clear HX
  have hy1 : w.heap.size ≤ w1.heap.size := by
    have := hb1.size
    try simp only [World.size_alloc, World.size_setCell] at this
    omega
  have hz1_0 : w.heap.size < w1.heap.size := by
    have := hb1.size
    try simp only [World.size_alloc, World.size_setCell] at this
    omega
  have B1 := Aside.intro (Below.trans (B := w.heap.size) (a := w) (by repeat (first | exact Below.refl _ _ | assumption | exact Nat.le_refl _ | (simp only [World.size_alloc, World.size_setCell]; omega) | omega | refine Below.alloc ?_ ?_ _ | refine Below.setCell ?_ ?_ _ | refine Below.drew ?_)) (hb1.mono (by first | omega | (simp only [World.size_alloc, World.size_setCell]; omega))))
  have S1 := B1
  obtain ⟨hc1, hf1⟩ := bcell hb1
  clear hb1 B1
  have c1_0_0 : w1.cell? ⟨w.heap.size, 0, none⟩ = some (.float .f64 ph) := by
    rw [hc1 _ _ (by first | omega | (simp only [World.size_alloc, World.size_setCell]; omega))]
    first | assumption | (simp [go_sem]; done)
  have f1_0_0 : w1.frozen? ⟨w.heap.size, 0, none⟩ = false := by
    rw [hf1 _ _ (by first | omega | (simp only [World.size_alloc, World.size_setCell]; omega))]
    first | assumption | (simp [go_sem]; done)
  have c1_0_1 : w1.cell? ⟨w.heap.size, 1, none⟩ = some (.float .f64 pl) := by
    rw [hc1 _ _ (by first | omega | (simp only [World.size_alloc, World.size_setCell]; omega))]
    first | assumption | (simp [go_sem]; done)
  have f1_0_1 : w1.frozen? ⟨w.heap.size, 1, none⟩ = false := by
    rw [hf1 _ _ (by first | omega | (simp only [World.size_alloc, World.size_setCell]; omega))]
    first | assumption | (simp [go_sem]; done)
  clear hc1 hf1 
  have ne0 : w.heap.size ≠ w1.heap.size := by omega
  go_wp2_with fail
  refine (Calls.mono (HY.out _)) ?_
  rintro r w2 ⟨⟨v2, rfl, N2⟩, hb2⟩
  obtain ⟨aY, cY, rfl, AY⟩ := N2.arg (by omega)
  clear N2
  clear HY
  have hy2 : w1.heap.size ≤ w2.heap.size := by
    have := hb2.size
    try simp only [World.size_alloc, World.size_setCell] at this
    omega
  have hz2_0 : w.heap.size < w2.heap.size := by
    have := hb2.size
    try simp only [World.size_alloc, World.size_setCell] at this
    omega
  have hz2_1 : w1.heap.size < w2.heap.size := by
    have := hb2.size
    try simp only [World.size_alloc, World.size_setCell] at this
    omega
  have B2 := Aside.intro (Below.trans (B := w1.heap.size) (a := w1) (by repeat (first | exact Below.refl _ _ | assumption | exact Nat.le_refl _ | (simp only [World.size_alloc, World.size_setCell]; omega) | omega | refine Below.alloc ?_ ?_ _ | refine Below.setCell ?_ ?_ _ | refine Below.drew ?_)) (hb2.mono (by first | omega | (simp only [World.size_alloc, World.size_setCell]; omega))))
  have S2 := Aside.intro (S1.out.trans (B2.out.mono S1.out.size))
  clear S1
  replace AX := AX.below B2.out
  obtain ⟨hc2, hf2⟩ := bcell hb2
  clear hb2 B2
  have c2_0_0 : w2.cell? ⟨w.heap.size, 0, none⟩ = some (.float .f64 ph) := by
    rw [hc2 _ _ (by first | omega | (simp only [World.size_alloc, World.size_setCell]; omega))]
    first | assumption | (simp [go_sem, c1_0_0, f1_0_0, c1_0_1, f1_0_1, hz1_0, ne0]; done)
  have f2_0_0 : w2.frozen? ⟨w.heap.size, 0, none⟩ = false := by
    rw [hf2 _ _ (by first | omega | (simp only [World.size_alloc, World.size_setCell]; omega))]
    first | assumption | (simp [go_sem, c1_0_0, f1_0_0, c1_0_1, f1_0_1, hz1_0, ne0]; done)
  have c2_0_1 : w2.cell? ⟨w.heap.size, 1, none⟩ = some (.float .f64 pl) := by
    rw [hc2 _ _ (by first | omega | (simp only [World.size_alloc, World.size_setCell]; omega))]
    first | assumption | (simp [go_sem, c1_0_0, f1_0_0, c1_0_1, f1_0_1, hz1_0, ne0]; done)
  have f2_0_1 : w2.frozen? ⟨w.heap.size, 1, none⟩ = false := by
    rw [hf2 _ _ (by first | omega | (simp only [World.size_alloc, World.size_setCell]; omega))]
    first | assumption | (simp [go_sem, c1_0_0, f1_0_0, c1_0_1, f1_0_1, hz1_0, ne0]; done)
  have c2_1_0 : w2.cell? ⟨w1.heap.size, 0, none⟩ = some (.bool nX) := by
    rw [hc2 _ _ (by first | omega | (simp only [World.size_alloc, World.size_setCell]; omega))]
    first | assumption | (simp [go_sem, c1_0_0, f1_0_0, c1_0_1, f1_0_1, hz1_0, ne0]; done)
  have f2_1_0 : w2.frozen? ⟨w1.heap.size, 0, none⟩ = false := by
    rw [hf2 _ _ (by first | omega | (simp only [World.size_alloc, World.size_setCell]; omega))]
    first | assumption | (simp [go_sem, c1_0_0, f1_0_0, c1_0_1, f1_0_1, hz1_0, ne0]; done)
  have c2_1_1 : w2.cell? ⟨w1.heap.size, 1, none⟩ = some (.slice aX (ws XX).length cX) := by
    rw [hc2 _ _ (by first | omega | (simp only [World.size_alloc, World.size_setCell]; omega))]
    first | assumption | (simp [go_sem, c1_0_0, f1_0_0, c1_0_1, f1_0_1, hz1_0, ne0]; done)
  have f2_1_1 : w2.frozen? ⟨w1.heap.size, 1, none⟩ = false := by
    rw [hf2 _ _ (by first | omega | (simp only [World.size_alloc, World.size_setCell]; omega))]
    first | assumption | (simp [go_sem, c1_0_0, f1_0_0, c1_0_1, f1_0_1, hz1_0, ne0]; done)
  have c2_1_2 : w2.cell? ⟨w1.heap.size, 2, none⟩ = some (.int .i64 eX) := by
    rw [hc2 _ _ (by first | omega | (simp only [World.size_alloc, World.size_setCell]; omega))]
    first | assumption | (simp [go_sem, c1_0_0, f1_0_0, c1_0_1, f1_0_1, hz1_0, ne0]; done)
  have f2_1_2 : w2.frozen? ⟨w1.heap.size, 2, none⟩ = false := by
    rw [hf2 _ _ (by first | omega | (simp only [World.size_alloc, World.size_setCell]; omega))]
    first | assumption | (simp [go_sem, c1_0_0, f1_0_0, c1_0_1, f1_0_1, hz1_0, ne0]; done)
  clear hc2 hf2 c1_0_0 f1_0_0 c1_0_1 f1_0_1
  go_upto_region 3 with fail
  go_quiet (fail)
  have SS := S2.out
  go_wp2
  exact bodyPost_ret (v := .bool false) (by simp [results, Try.results33, go_sem]) rfl ⟨rfl, (by repeat (first | exact SS | refine Below.drewN' ?_ _ | refine Below.drew ?_ | refine Below.alloc ?_ (by omega) _))⟩
set_option maxHeartbeats 8000000 in
theorem good_tf (ph pl : Nat) (nX nY : Bool) (XX XY : Nat) (eX eY : Int) (w : World) (lX : (ws XX).length ≤ 8192) (lY : (ws XY).length ≤ 8192)
    (HX : Hid (∀ u, Calls Try.prog 29 #[.float .f64 ph] u fun r w' => (∃ v, r = .returned (.tuple #[.agg #[.bool nX, v, .int .i64 eX], .bool true]) ∧ Nt u.heap.size w' v XX) ∧ Below u.heap.size u w'))
    (HY : Hid (∀ u, Calls Try.prog 29 #[.float .f64 pl] u fun r w' => (∃ v, r = .returned (.tuple #[.agg #[.bool nY, v, .int .i64 eY], .bool false]) ∧ Nt u.heap.size w' v XY) ∧ Below u.heap.size u w')) :
    Calls Try.prog 33 #[.agg #[.float .f64 ph, .float .f64 pl]] w fun r w' => r = .returned (.bool false) ∧ Below w.heap.size w w' := by
  go_enter Try.func33, Try.ntmps33
  go_wp2_with fail
  refine (Calls.mono (HX.out _)) ?_
  rintro r w1 ⟨⟨v1, rfl, N1⟩, hb1⟩
  obtain ⟨aX, cX, rfl, AX⟩ := N1.arg (by omega)
  clear N1
  clear HX
  have hy1 : w.heap.size ≤ w1.heap.size := by
    have := hb1.size
    try simp only [World.size_alloc, World.size_setCell] at this
    omega
  have hz1_0 : w.heap.size < w1.heap.size := by
    have := hb1.size
    try simp only [World.size_alloc, World.size_setCell] at this
    omega
  have B1 := Aside.intro (Below.trans (B := w.heap.size) (a := w) (by repeat (first | exact Below.refl _ _ | assumption | exact Nat.le_refl _ | (simp only [World.size_alloc, World.size_setCell]; omega) | omega | refine Below.alloc ?_ ?_ _ | refine Below.setCell ?_ ?_ _ | refine Below.drew ?_)) (hb1.mono (by first | omega | (simp only [World.size_alloc, World.size_setCell]; omega))))
  have S1 := B1
  obtain ⟨hc1, hf1⟩ := bcell hb1
  clear hb1 B1
  have c1_0_0 : w1.cell? ⟨w.heap.size, 0, none⟩ = some (.float .f64 ph) := by
    rw [hc1 _ _ (by first | omega | (simp only [World.size_alloc, World.size_setCell]; omega))]
    first | assumption | (simp [go_sem]; done)
  have f1_0_0 : w1.frozen? ⟨w.heap.size, 0, none⟩ = false := by
    rw [hf1 _ _ (by first | omega | (simp only [World.size_alloc, World.size_setCell]; omega))]
    first | assumption | (simp [go_sem]; done)
  have c1_0_1 : w1.cell? ⟨w.heap.size, 1, none⟩ = some (.float .f64 pl) := by
    rw [hc1 _ _ (by first | omega | (simp only [World.size_alloc, World.size_setCell]; omega))]
    first | assumption | (simp [go_sem]; done)
  have f1_0_1 : w1.frozen? ⟨w.heap.size, 1, none⟩ = false := by
    rw [hf1 _ _ (by first | omega | (simp only [World.size_alloc, World.size_setCell]; omega))]
    first | assumption | (simp [go_sem]; done)
  clear hc1 hf1 
  have ne0 : w.heap.size ≠ w1.heap.size := by omega
  go_wp2_with fail
  refine (Calls.mono (HY.out _)) ?_
  rintro r w2 ⟨⟨v2, rfl, N2⟩, hb2⟩
  obtain ⟨aY, cY, rfl, AY⟩ := N2.arg (by omega)
  clear N2
  clear HY
  have hy2 : w1.heap.size ≤ w2.heap.size := by
    have := hb2.size
    try simp only [World.size_alloc, World.size_setCell] at this
    omega
  have hz2_0 : w.heap.size < w2.heap.size := by
    have := hb2.size
    try simp only [World.size_alloc, World.size_setCell] at this
    omega
  have hz2_1 : w1.heap.size < w2.heap.size := by
    have := hb2.size
    try simp only [World.size_alloc, World.size_setCell] at this
    omega
  have B2 := Aside.intro (Below.trans (B := w1.heap.size) (a := w1) (by repeat (first | exact Below.refl _ _ | assumption | exact Nat.le_refl _ | (simp only [World.size_alloc, World.size_setCell]; omega) | omega | refine Below.alloc ?_ ?_ _ | refine Below.setCell ?_ ?_ _ | refine Below.drew ?_)) (hb2.mono (by first | omega | (simp only [World.size_alloc, World.size_setCell]; omega))))
  have S2 := Aside.intro (S1.out.trans (B2.out.mono S1.out.size))
  clear S1
  replace AX := AX.below B2.out
  obtain ⟨hc2, hf2⟩ := bcell hb2
  clear hb2 B2
  have c2_0_0 : w2.cell? ⟨w.heap.size, 0, none⟩ = some (.float .f64 ph) := by
    rw [hc2 _ _ (by first | omega | (simp only [World.size_alloc, World.size_setCell]; omega))]
    first | assumption | (simp [go_sem, c1_0_0, f1_0_0, c1_0_1, f1_0_1, hz1_0, ne0]; done)
  have f2_0_0 : w2.frozen? ⟨w.heap.size, 0, none⟩ = false := by
    rw [hf2 _ _ (by first | omega | (simp only [World.size_alloc, World.size_setCell]; omega))]
    first | assumption | (simp [go_sem, c1_0_0, f1_0_0, c1_0_1, f1_0_1, hz1_0, ne0]; done)
  have c2_0_1 : w2.cell? ⟨w.heap.size, 1, none⟩ = some (.float .f64 pl) := by
    rw [hc2 _ _ (by first | omega | (simp only [World.size_alloc, World.size_setCell]; omega))]
    first | assumption | (simp [go_sem, c1_0_0, f1_0_0, c1_0_1, f1_0_1, hz1_0, ne0]; done)
  have f2_0_1 : w2.frozen? ⟨w.heap.size, 1, none⟩ = false := by
    rw [hf2 _ _ (by first | omega | (simp only [World.size_alloc, World.size_setCell]; omega))]
    first | assumption | (simp [go_sem, c1_0_0, f1_0_0, c1_0_1, f1_0_1, hz1_0, ne0]; done)
  have c2_1_0 : w2.cell? ⟨w1.heap.size, 0, none⟩ = some (.bool nX) := by
    rw [hc2 _ _ (by first | omega | (simp only [World.size_alloc, World.size_setCell]; omega))]
    first | assumption | (simp [go_sem, c1_0_0, f1_0_0, c1_0_1, f1_0_1, hz1_0, ne0]; done)
  have f2_1_0 : w2.frozen? ⟨w1.heap.size, 0, none⟩ = false := by
    rw [hf2 _ _ (by first | omega | (simp only [World.size_alloc, World.size_setCell]; omega))]
    first | assumption | (simp [go_sem, c1_0_0, f1_0_0, c1_0_1, f1_0_1, hz1_0, ne0]; done)
  have c2_1_1 : w2.cell? ⟨w1.heap.size, 1, none⟩ = some (.slice aX (ws XX).length cX) := by
    rw [hc2 _ _ (by first | omega | (simp only [World.size_alloc, World.size_setCell]; omega))]
    first | assumption | (simp [go_sem, c1_0_0, f1_0_0, c1_0_1, f1_0_1, hz1_0, ne0]; done)
  have f2_1_1 : w2.frozen? ⟨w1.heap.size, 1, none⟩ = false := by
    rw [hf2 _ _ (by first | omega | (simp only [World.size_alloc, World.size_setCell]; omega))]
    first | assumption | (simp [go_sem, c1_0_0, f1_0_0, c1_0_1, f1_0_1, hz1_0, ne0]; done)
  have c2_1_2 : w2.cell? ⟨w1.heap.size, 2, none⟩ = some (.int .i64 eX) := by
    rw [hc2 _ _ (by first | omega | (simp only [World.size_alloc, World.size_setCell]; omega))]
    first | assumption | (simp [go_sem, c1_0_0, f1_0_0, c1_0_1, f1_0_1, hz1_0, ne0]; done)
  have f2_1_2 : w2.frozen? ⟨w1.heap.size, 2, none⟩ = false := by
    rw [hf2 _ _ (by first | omega | (simp only [World.size_alloc, World.size_setCell]; omega))]
    first | assumption | (simp [go_sem, c1_0_0, f1_0_0, c1_0_1, f1_0_1, hz1_0, ne0]; done)
  clear hc2 hf2 c1_0_0 f1_0_0 c1_0_1 f1_0_1
  go_upto_region 3 with fail
  go_quiet (fail)
  have SS := S2.out
  go_wp2
  exact bodyPost_ret (v := .bool false) (by simp [results, Try.results33, go_sem]) rfl ⟨rfl, (by repeat (first | exact SS | refine Below.drewN' ?_ _ | refine Below.drew ?_ | refine Below.alloc ?_ (by omega) _))⟩
end Go.Proofs.Ythilnddhehbjiab

/- The law's good, of finite numbers. -/
namespace Go.Proofs.Ythilnddhehbjiab
open Go.RowKit J
set_option linter.unusedVariables false
set_option maxRecDepth 20000
set_option linter.unusedSimpArgs false
attribute [local go_sem] st_float

set_option maxHeartbeats 16000000 in
theorem good_diff (ph pl : Nat) (nX nY : Bool) (XX XY : Nat) (eX eY : Int) (w : World) (lX : (ws XX).length ≤ 8192) (lY : (ws XY).length ≤ 8192) (z : Nat) (hm : 0 < (ws XX).length) (hm2 : ((((ws XX).length : Nat) : Int) == 0) = false)
    (HX : Hid (∀ u, Calls Try.prog 29 #[.float .f64 ph] u fun r w' => (∃ v, r = .returned (.tuple #[.agg #[.bool nX, v, .int .i64 eX], .bool true]) ∧ Nt u.heap.size w' v XX) ∧ Below u.heap.size u w'))
    (HY : Hid (∀ u, Calls Try.prog 29 #[.float .f64 pl] u fun r w' => (∃ v, r = .returned (.tuple #[.agg #[.bool nY, v, .int .i64 eY], .bool true]) ∧ Nt u.heap.size w' v XY) ∧ Below u.heap.size u w'))
    (HPl : Hid (∀ u, Calls Try.prog 43 #[.float .f64 ph, .float .f64 pl] u fun r w' => r = .returned (.float .f64 z) ∧ Below u.heap.size u w'))
    (HSm : Hid (∀ u, Calls Try.prog 26 #[.float .f64 z, .float .f64 ph] u fun r w' => r = .returned (.bool false) ∧ Below u.heap.size u w')) :
    Calls Try.prog 33 #[.agg #[.float .f64 ph, .float .f64 pl]] w fun r w' => r = .returned (.bool false) ∧ Below w.heap.size w w' := by
  go_enter Try.func33, Try.ntmps33
  go_wp2_with fail
  refine (Calls.mono (HX.out _)) ?_
  rintro r w1 ⟨⟨v1, rfl, N1⟩, hb1⟩
  obtain ⟨aX, cX, rfl, AX⟩ := N1.arg (by omega)
  clear N1
  clear HX
  have hy1 : w.heap.size ≤ w1.heap.size := by
    have := hb1.size
    try simp only [World.size_alloc, World.size_setCell] at this
    omega
  have hz1_0 : w.heap.size < w1.heap.size := by
    have := hb1.size
    try simp only [World.size_alloc, World.size_setCell] at this
    omega
  have B1 := Aside.intro (Below.trans (B := w.heap.size) (a := w) (by repeat (first | exact Below.refl _ _ | assumption | exact Nat.le_refl _ | (simp only [World.size_alloc, World.size_setCell]; omega) | omega | refine Below.alloc ?_ ?_ _ | refine Below.setCell ?_ ?_ _ | refine Below.drew ?_)) (hb1.mono (by first | omega | (simp only [World.size_alloc, World.size_setCell]; omega))))
  have S1 := B1
  obtain ⟨hc1, hf1⟩ := bcell hb1
  clear hb1 B1
  have c1_0_0 : w1.cell? ⟨w.heap.size, 0, none⟩ = some (.float .f64 ph) := by
    rw [hc1 _ _ (by first | omega | (simp only [World.size_alloc, World.size_setCell]; omega))]
    first | assumption | (simp [go_sem]; done)
  have f1_0_0 : w1.frozen? ⟨w.heap.size, 0, none⟩ = false := by
    rw [hf1 _ _ (by first | omega | (simp only [World.size_alloc, World.size_setCell]; omega))]
    first | assumption | (simp [go_sem]; done)
  have c1_0_1 : w1.cell? ⟨w.heap.size, 1, none⟩ = some (.float .f64 pl) := by
    rw [hc1 _ _ (by first | omega | (simp only [World.size_alloc, World.size_setCell]; omega))]
    first | assumption | (simp [go_sem]; done)
  have f1_0_1 : w1.frozen? ⟨w.heap.size, 1, none⟩ = false := by
    rw [hf1 _ _ (by first | omega | (simp only [World.size_alloc, World.size_setCell]; omega))]
    first | assumption | (simp [go_sem]; done)
  clear hc1 hf1 
  have ne0 : w.heap.size ≠ w1.heap.size := by omega
  go_wp2_with fail
  refine (Calls.mono (HY.out _)) ?_
  rintro r w2 ⟨⟨v2, rfl, N2⟩, hb2⟩
  obtain ⟨aY, cY, rfl, AY⟩ := N2.arg (by omega)
  clear N2
  clear HY
  have hy2 : w1.heap.size ≤ w2.heap.size := by
    have := hb2.size
    try simp only [World.size_alloc, World.size_setCell] at this
    omega
  have hz2_0 : w.heap.size < w2.heap.size := by
    have := hb2.size
    try simp only [World.size_alloc, World.size_setCell] at this
    omega
  have hz2_1 : w1.heap.size < w2.heap.size := by
    have := hb2.size
    try simp only [World.size_alloc, World.size_setCell] at this
    omega
  have B2 := Aside.intro (Below.trans (B := w1.heap.size) (a := w1) (by repeat (first | exact Below.refl _ _ | assumption | exact Nat.le_refl _ | (simp only [World.size_alloc, World.size_setCell]; omega) | omega | refine Below.alloc ?_ ?_ _ | refine Below.setCell ?_ ?_ _ | refine Below.drew ?_)) (hb2.mono (by first | omega | (simp only [World.size_alloc, World.size_setCell]; omega))))
  have S2 := Aside.intro (S1.out.trans (B2.out.mono S1.out.size))
  clear S1
  replace AX := AX.below B2.out
  obtain ⟨hc2, hf2⟩ := bcell hb2
  clear hb2 B2
  have c2_0_0 : w2.cell? ⟨w.heap.size, 0, none⟩ = some (.float .f64 ph) := by
    rw [hc2 _ _ (by first | omega | (simp only [World.size_alloc, World.size_setCell]; omega))]
    first | assumption | (simp [go_sem, c1_0_0, f1_0_0, c1_0_1, f1_0_1, hz1_0, ne0]; done)
  have f2_0_0 : w2.frozen? ⟨w.heap.size, 0, none⟩ = false := by
    rw [hf2 _ _ (by first | omega | (simp only [World.size_alloc, World.size_setCell]; omega))]
    first | assumption | (simp [go_sem, c1_0_0, f1_0_0, c1_0_1, f1_0_1, hz1_0, ne0]; done)
  have c2_0_1 : w2.cell? ⟨w.heap.size, 1, none⟩ = some (.float .f64 pl) := by
    rw [hc2 _ _ (by first | omega | (simp only [World.size_alloc, World.size_setCell]; omega))]
    first | assumption | (simp [go_sem, c1_0_0, f1_0_0, c1_0_1, f1_0_1, hz1_0, ne0]; done)
  have f2_0_1 : w2.frozen? ⟨w.heap.size, 1, none⟩ = false := by
    rw [hf2 _ _ (by first | omega | (simp only [World.size_alloc, World.size_setCell]; omega))]
    first | assumption | (simp [go_sem, c1_0_0, f1_0_0, c1_0_1, f1_0_1, hz1_0, ne0]; done)
  have c2_1_0 : w2.cell? ⟨w1.heap.size, 0, none⟩ = some (.bool nX) := by
    rw [hc2 _ _ (by first | omega | (simp only [World.size_alloc, World.size_setCell]; omega))]
    first | assumption | (simp [go_sem, c1_0_0, f1_0_0, c1_0_1, f1_0_1, hz1_0, ne0]; done)
  have f2_1_0 : w2.frozen? ⟨w1.heap.size, 0, none⟩ = false := by
    rw [hf2 _ _ (by first | omega | (simp only [World.size_alloc, World.size_setCell]; omega))]
    first | assumption | (simp [go_sem, c1_0_0, f1_0_0, c1_0_1, f1_0_1, hz1_0, ne0]; done)
  have c2_1_1 : w2.cell? ⟨w1.heap.size, 1, none⟩ = some (.slice aX (ws XX).length cX) := by
    rw [hc2 _ _ (by first | omega | (simp only [World.size_alloc, World.size_setCell]; omega))]
    first | assumption | (simp [go_sem, c1_0_0, f1_0_0, c1_0_1, f1_0_1, hz1_0, ne0]; done)
  have f2_1_1 : w2.frozen? ⟨w1.heap.size, 1, none⟩ = false := by
    rw [hf2 _ _ (by first | omega | (simp only [World.size_alloc, World.size_setCell]; omega))]
    first | assumption | (simp [go_sem, c1_0_0, f1_0_0, c1_0_1, f1_0_1, hz1_0, ne0]; done)
  have c2_1_2 : w2.cell? ⟨w1.heap.size, 2, none⟩ = some (.int .i64 eX) := by
    rw [hc2 _ _ (by first | omega | (simp only [World.size_alloc, World.size_setCell]; omega))]
    first | assumption | (simp [go_sem, c1_0_0, f1_0_0, c1_0_1, f1_0_1, hz1_0, ne0]; done)
  have f2_1_2 : w2.frozen? ⟨w1.heap.size, 2, none⟩ = false := by
    rw [hf2 _ _ (by first | omega | (simp only [World.size_alloc, World.size_setCell]; omega))]
    first | assumption | (simp [go_sem, c1_0_0, f1_0_0, c1_0_1, f1_0_1, hz1_0, ne0]; done)
  clear hc2 hf2 c1_0_0 f1_0_0 c1_0_1 f1_0_1
  obtain ⟨U1, hU1⟩ : ∃ U, U = w2.alloc (.cells #[.bool nY, .slice aY (ws XY).length cY, .int .i64 eY] 43) := ⟨_, rfl⟩
  have BU : Below w2.heap.size w2 U1 := by rw [hU1]; exact below_alloc w2 _
  have Z0 := show Sg w w2 w.heap.size w1.heap.size ph pl nX aX XX cX eX from ⟨S2.out, by omega, by omega, ⟨c2_0_0, c2_0_1, c2_1_0, c2_1_1, c2_1_2⟩, AX⟩
  have Z1 := Aside.intro (Z0.below BU)
  clear Z0 BU
  go_upto_region 3 with fail
  rw [← hU1]
  clear hU1 S2 AX AY c2_0_0 f2_0_0 c2_0_1 f2_0_1 c2_1_0 f2_1_0 c2_1_1 f2_1_1 c2_1_2 f2_1_2 hy1 hy2 hz1_0 hz2_0 hz2_1 ne0
  obtain ⟨h, hh⟩ : ∃ h, w1.heap.size = h := ⟨_, rfl⟩
  rw [hh] at Z1 ⊢
  clear hh
  obtain ⟨g, hg⟩ : ∃ g, w.heap.size = g := ⟨_, rfl⟩
  rw [hg] at Z1 ⊢
  clear hg
  go_cut [42] from 20 to 42 (fun v wx => v = .bool true ∧ Aside (Sg w wx g h ph pl nX aX XX cX eX))
  case first =>
    obtain ⟨k0, k1, k2, k3, k4⟩ := Z1.out.facts
    go_region_held3 (fun w' => w'.cell? ⟨g, 0, none⟩ = some (.float .f64 ph) ∧ w'.cell? ⟨g, 1, none⟩ = some (.float .f64 pl) ∧ w'.cell? ⟨h, 0, none⟩ = some (.bool nX) ∧ w'.cell? ⟨h, 1, none⟩ = some (.slice aX (ws XX).length cX) ∧ w'.cell? ⟨h, 2, none⟩ = some (.int .i64 eX)) (go_keep) (first
      | (go_at_call 26
         with_reducible refine (Calls.mono (HSm.out _)) ?_
         rintro r x2 ⟨rfl, hb⟩
         have hb1 : Below x1.heap.size x1 x2 := by first | exact hb | exact ((Below.refl _ x1).drew).trans (hb.mono (Nat.le_refl _)) | exact ((Below.refl _ x1).drew).drew.trans (hb.mono (Nat.le_refl _))
         have T2 := Aside.intro (T1.out.below hb1)
         obtain ⟨m2_0, m2_1, m2_2, m2_3, m2_4⟩ := T2.out.facts
         clear hb hb1)
      | (go_at_call 43
         with_reducible refine (Calls.mono (HPl.out _)) ?_
         rintro r x1 ⟨rfl, hb⟩
         have hb1 : Below U1.heap.size U1 x1 := by first | exact hb | exact ((Below.refl _ U1).drew).trans (hb.mono (Nat.le_refl _)) | exact ((Below.refl _ U1).drew).drew.trans (hb.mono (Nat.le_refl _))
         have T1 := Aside.intro (Z1.out.below hb1)
         obtain ⟨m1_0, m1_1, m1_2, m1_3, m1_4⟩ := T1.out.facts
         clear hb hb1))
    all_goals (
      go_wp2_with fail
      go_meet
      case rel => exact ⟨rfl, T2⟩)
  case rest =>
    obtain ⟨rfl, Z2⟩ := hcut
    obtain ⟨U2, hU⟩ : ∃ U, U = wc := ⟨_, rfl⟩
    subst hU
    clear Z1
    go_wp2
    exact bodyPost_ret (v := .bool false) (by simp [results, Try.results33, go_sem]) rfl ⟨rfl, Z2.out.bel⟩
set_option maxHeartbeats 16000000 in
theorem good_nil_f (ph pl : Nat) (nX nY : Bool) (XX XY : Nat) (eX eY : Int) (w : World) (lX : (ws XX).length ≤ 8192) (lY : (ws XY).length ≤ 8192) (z : Nat) (hm : ¬ 0 < (ws XX).length) (hm2 : ((((ws XX).length : Nat) : Int) == 0) = true) (nb : Bool)
    (HX : Hid (∀ u, Calls Try.prog 29 #[.float .f64 ph] u fun r w' => (∃ v, r = .returned (.tuple #[.agg #[.bool nX, v, .int .i64 eX], .bool true]) ∧ Nt u.heap.size w' v XX) ∧ Below u.heap.size u w'))
    (HY : Hid (∀ u, Calls Try.prog 29 #[.float .f64 pl] u fun r w' => (∃ v, r = .returned (.tuple #[.agg #[.bool nY, v, .int .i64 eY], .bool true]) ∧ Nt u.heap.size w' v XY) ∧ Below u.heap.size u w'))
    (HPl : Hid (∀ u, Calls Try.prog 43 #[.float .f64 ph, .float .f64 pl] u fun r w' => r = .returned (.float .f64 z) ∧ Below u.heap.size u w'))
    (HSm : Hid (∀ u, Calls Try.prog 26 #[.float .f64 z, .float .f64 ph] u fun r w' => r = .returned (.bool false) ∧ Below u.heap.size u w'))
    (HN : Hid (∀ u, Calls Try.prog 52 #[.float .f64 pl] u fun r w' => r = .returned (.bool nb) ∧ Below u.heap.size u w')) :
    Calls Try.prog 33 #[.agg #[.float .f64 ph, .float .f64 pl]] w fun r w' => r = .returned (.bool nb) ∧ Below w.heap.size w w' := by
  go_enter Try.func33, Try.ntmps33
  go_wp2_with fail
  refine (Calls.mono (HX.out _)) ?_
  rintro r w1 ⟨⟨v1, rfl, N1⟩, hb1⟩
  obtain ⟨aX, cX, rfl, AX⟩ := N1.arg (by omega)
  clear N1
  clear HX
  have hy1 : w.heap.size ≤ w1.heap.size := by
    have := hb1.size
    try simp only [World.size_alloc, World.size_setCell] at this
    omega
  have hz1_0 : w.heap.size < w1.heap.size := by
    have := hb1.size
    try simp only [World.size_alloc, World.size_setCell] at this
    omega
  have B1 := Aside.intro (Below.trans (B := w.heap.size) (a := w) (by repeat (first | exact Below.refl _ _ | assumption | exact Nat.le_refl _ | (simp only [World.size_alloc, World.size_setCell]; omega) | omega | refine Below.alloc ?_ ?_ _ | refine Below.setCell ?_ ?_ _ | refine Below.drew ?_)) (hb1.mono (by first | omega | (simp only [World.size_alloc, World.size_setCell]; omega))))
  have S1 := B1
  obtain ⟨hc1, hf1⟩ := bcell hb1
  clear hb1 B1
  have c1_0_0 : w1.cell? ⟨w.heap.size, 0, none⟩ = some (.float .f64 ph) := by
    rw [hc1 _ _ (by first | omega | (simp only [World.size_alloc, World.size_setCell]; omega))]
    first | assumption | (simp [go_sem]; done)
  have f1_0_0 : w1.frozen? ⟨w.heap.size, 0, none⟩ = false := by
    rw [hf1 _ _ (by first | omega | (simp only [World.size_alloc, World.size_setCell]; omega))]
    first | assumption | (simp [go_sem]; done)
  have c1_0_1 : w1.cell? ⟨w.heap.size, 1, none⟩ = some (.float .f64 pl) := by
    rw [hc1 _ _ (by first | omega | (simp only [World.size_alloc, World.size_setCell]; omega))]
    first | assumption | (simp [go_sem]; done)
  have f1_0_1 : w1.frozen? ⟨w.heap.size, 1, none⟩ = false := by
    rw [hf1 _ _ (by first | omega | (simp only [World.size_alloc, World.size_setCell]; omega))]
    first | assumption | (simp [go_sem]; done)
  clear hc1 hf1 
  have ne0 : w.heap.size ≠ w1.heap.size := by omega
  go_wp2_with fail
  refine (Calls.mono (HY.out _)) ?_
  rintro r w2 ⟨⟨v2, rfl, N2⟩, hb2⟩
  obtain ⟨aY, cY, rfl, AY⟩ := N2.arg (by omega)
  clear N2
  clear HY
  have hy2 : w1.heap.size ≤ w2.heap.size := by
    have := hb2.size
    try simp only [World.size_alloc, World.size_setCell] at this
    omega
  have hz2_0 : w.heap.size < w2.heap.size := by
    have := hb2.size
    try simp only [World.size_alloc, World.size_setCell] at this
    omega
  have hz2_1 : w1.heap.size < w2.heap.size := by
    have := hb2.size
    try simp only [World.size_alloc, World.size_setCell] at this
    omega
  have B2 := Aside.intro (Below.trans (B := w1.heap.size) (a := w1) (by repeat (first | exact Below.refl _ _ | assumption | exact Nat.le_refl _ | (simp only [World.size_alloc, World.size_setCell]; omega) | omega | refine Below.alloc ?_ ?_ _ | refine Below.setCell ?_ ?_ _ | refine Below.drew ?_)) (hb2.mono (by first | omega | (simp only [World.size_alloc, World.size_setCell]; omega))))
  have S2 := Aside.intro (S1.out.trans (B2.out.mono S1.out.size))
  clear S1
  replace AX := AX.below B2.out
  obtain ⟨hc2, hf2⟩ := bcell hb2
  clear hb2 B2
  have c2_0_0 : w2.cell? ⟨w.heap.size, 0, none⟩ = some (.float .f64 ph) := by
    rw [hc2 _ _ (by first | omega | (simp only [World.size_alloc, World.size_setCell]; omega))]
    first | assumption | (simp [go_sem, c1_0_0, f1_0_0, c1_0_1, f1_0_1, hz1_0, ne0]; done)
  have f2_0_0 : w2.frozen? ⟨w.heap.size, 0, none⟩ = false := by
    rw [hf2 _ _ (by first | omega | (simp only [World.size_alloc, World.size_setCell]; omega))]
    first | assumption | (simp [go_sem, c1_0_0, f1_0_0, c1_0_1, f1_0_1, hz1_0, ne0]; done)
  have c2_0_1 : w2.cell? ⟨w.heap.size, 1, none⟩ = some (.float .f64 pl) := by
    rw [hc2 _ _ (by first | omega | (simp only [World.size_alloc, World.size_setCell]; omega))]
    first | assumption | (simp [go_sem, c1_0_0, f1_0_0, c1_0_1, f1_0_1, hz1_0, ne0]; done)
  have f2_0_1 : w2.frozen? ⟨w.heap.size, 1, none⟩ = false := by
    rw [hf2 _ _ (by first | omega | (simp only [World.size_alloc, World.size_setCell]; omega))]
    first | assumption | (simp [go_sem, c1_0_0, f1_0_0, c1_0_1, f1_0_1, hz1_0, ne0]; done)
  have c2_1_0 : w2.cell? ⟨w1.heap.size, 0, none⟩ = some (.bool nX) := by
    rw [hc2 _ _ (by first | omega | (simp only [World.size_alloc, World.size_setCell]; omega))]
    first | assumption | (simp [go_sem, c1_0_0, f1_0_0, c1_0_1, f1_0_1, hz1_0, ne0]; done)
  have f2_1_0 : w2.frozen? ⟨w1.heap.size, 0, none⟩ = false := by
    rw [hf2 _ _ (by first | omega | (simp only [World.size_alloc, World.size_setCell]; omega))]
    first | assumption | (simp [go_sem, c1_0_0, f1_0_0, c1_0_1, f1_0_1, hz1_0, ne0]; done)
  have c2_1_1 : w2.cell? ⟨w1.heap.size, 1, none⟩ = some (.slice aX (ws XX).length cX) := by
    rw [hc2 _ _ (by first | omega | (simp only [World.size_alloc, World.size_setCell]; omega))]
    first | assumption | (simp [go_sem, c1_0_0, f1_0_0, c1_0_1, f1_0_1, hz1_0, ne0]; done)
  have f2_1_1 : w2.frozen? ⟨w1.heap.size, 1, none⟩ = false := by
    rw [hf2 _ _ (by first | omega | (simp only [World.size_alloc, World.size_setCell]; omega))]
    first | assumption | (simp [go_sem, c1_0_0, f1_0_0, c1_0_1, f1_0_1, hz1_0, ne0]; done)
  have c2_1_2 : w2.cell? ⟨w1.heap.size, 2, none⟩ = some (.int .i64 eX) := by
    rw [hc2 _ _ (by first | omega | (simp only [World.size_alloc, World.size_setCell]; omega))]
    first | assumption | (simp [go_sem, c1_0_0, f1_0_0, c1_0_1, f1_0_1, hz1_0, ne0]; done)
  have f2_1_2 : w2.frozen? ⟨w1.heap.size, 2, none⟩ = false := by
    rw [hf2 _ _ (by first | omega | (simp only [World.size_alloc, World.size_setCell]; omega))]
    first | assumption | (simp [go_sem, c1_0_0, f1_0_0, c1_0_1, f1_0_1, hz1_0, ne0]; done)
  clear hc2 hf2 c1_0_0 f1_0_0 c1_0_1 f1_0_1
  obtain ⟨U1, hU1⟩ : ∃ U, U = w2.alloc (.cells #[.bool nY, .slice aY (ws XY).length cY, .int .i64 eY] 43) := ⟨_, rfl⟩
  have BU : Below w2.heap.size w2 U1 := by rw [hU1]; exact below_alloc w2 _
  have Z0 := show Sg w w2 w.heap.size w1.heap.size ph pl nX aX XX cX eX from ⟨S2.out, by omega, by omega, ⟨c2_0_0, c2_0_1, c2_1_0, c2_1_1, c2_1_2⟩, AX⟩
  have Z1 := Aside.intro (Z0.below BU)
  clear Z0 BU
  go_upto_region 3 with fail
  rw [← hU1]
  clear hU1 S2 AX AY c2_0_0 f2_0_0 c2_0_1 f2_0_1 c2_1_0 f2_1_0 c2_1_1 f2_1_1 c2_1_2 f2_1_2 hy1 hy2 hz1_0 hz2_0 hz2_1 ne0
  obtain ⟨h, hh⟩ : ∃ h, w1.heap.size = h := ⟨_, rfl⟩
  rw [hh] at Z1 ⊢
  clear hh
  obtain ⟨g, hg⟩ : ∃ g, w.heap.size = g := ⟨_, rfl⟩
  rw [hg] at Z1 ⊢
  clear hg
  go_cut [42] from 20 to 42 (fun v wx => v = .bool false ∧ Aside (Sg w wx g h ph pl nX aX XX cX eX))
  case first =>
    obtain ⟨k0, k1, k2, k3, k4⟩ := Z1.out.facts
    go_region_held3 (fun w' => w'.cell? ⟨g, 0, none⟩ = some (.float .f64 ph) ∧ w'.cell? ⟨g, 1, none⟩ = some (.float .f64 pl) ∧ w'.cell? ⟨h, 0, none⟩ = some (.bool nX) ∧ w'.cell? ⟨h, 1, none⟩ = some (.slice aX (ws XX).length cX) ∧ w'.cell? ⟨h, 2, none⟩ = some (.int .i64 eX)) (go_keep) (first
      | (go_at_call 26
         with_reducible refine (Calls.mono (HSm.out _)) ?_
         rintro r x2 ⟨rfl, hb⟩
         have hb1 : Below x1.heap.size x1 x2 := by first | exact hb | exact ((Below.refl _ x1).drew).trans (hb.mono (Nat.le_refl _)) | exact ((Below.refl _ x1).drew).drew.trans (hb.mono (Nat.le_refl _))
         have T2 := Aside.intro (T1.out.below hb1)
         obtain ⟨m2_0, m2_1, m2_2, m2_3, m2_4⟩ := T2.out.facts
         clear hb hb1)
      | (go_at_call 43
         with_reducible refine (Calls.mono (HPl.out _)) ?_
         rintro r x1 ⟨rfl, hb⟩
         have hb1 : Below U1.heap.size U1 x1 := by first | exact hb | exact ((Below.refl _ U1).drew).trans (hb.mono (Nat.le_refl _)) | exact ((Below.refl _ U1).drew).drew.trans (hb.mono (Nat.le_refl _))
         have T1 := Aside.intro (Z1.out.below hb1)
         obtain ⟨m1_0, m1_1, m1_2, m1_3, m1_4⟩ := T1.out.facts
         clear hb hb1))
    all_goals (
      go_wp2_with fail
      go_meet
      case rel => exact ⟨rfl, T2⟩)
  case rest =>
    obtain ⟨rfl, Z2⟩ := hcut
    obtain ⟨U2, hU⟩ : ∃ U, U = wc := ⟨_, rfl⟩
    subst hU
    clear Z1
    obtain ⟨k0, k1, k2, k3, k4⟩ := Z2.out.facts
    go_wp2_with fail
    refine (Calls.mono (HN.out _)) ?_
    rintro r y1 ⟨rfl, hb⟩
    go_wp2
    exact bodyPost_ret (v := .bool nb) (by simp [results, Try.results33, go_sem]) rfl ⟨rfl, Z2.out.bel.trans (hb.mono Z2.out.bel.size)⟩
end Go.Proofs.Ythilnddhehbjiab

/- The law's good, of finite numbers: the sum is the first one. -/
namespace Go.Proofs.Ythilnddhehbjiab
open Go.RowKit J
set_option linter.unusedVariables false
set_option maxRecDepth 20000
set_option linter.unusedSimpArgs false
attribute [local go_sem] st_float

set_option maxHeartbeats 64000000 in
theorem good_same (ph pl : Nat) (nX nY : Bool) (XX XY : Nat) (eX eY : Int) (w : World) (lX : (ws XX).length ≤ 8192) (lY : (ws XY).length ≤ 8192) (z : Nat) (nb m : Bool) (cv : Int)
    (HX : Hid (∀ u, Calls Try.prog 29 #[.float .f64 ph] u fun r w' => (∃ v, r = .returned (.tuple #[.agg #[.bool nX, v, .int .i64 eX], .bool true]) ∧ Nt u.heap.size w' v XX) ∧ Below u.heap.size u w'))
    (HY : Hid (∀ u, Calls Try.prog 29 #[.float .f64 pl] u fun r w' => (∃ v, r = .returned (.tuple #[.agg #[.bool nY, v, .int .i64 eY], .bool true]) ∧ Nt u.heap.size w' v XY) ∧ Below u.heap.size u w'))
    (HPl : Hid (∀ u, Calls Try.prog 43 #[.float .f64 ph, .float .f64 pl] u fun r w' => r = .returned (.float .f64 z) ∧ Below u.heap.size u w'))
    (HSm : Hid (∀ u, Calls Try.prog 26 #[.float .f64 z, .float .f64 ph] u fun r w' => r = .returned (.bool true) ∧ Below u.heap.size u w'))
    (HN : Hid (∀ u, Calls Try.prog 52 #[.float .f64 pl] u fun r w' => r = .returned (.bool nb) ∧ Below u.heap.size u w'))
    (HW : Hid (∀ u a c, Arg u a (ws XX).length c (ws XX) → Calls Try.prog 47 #[.agg #[.bool nX, .slice a (ws XX).length c, .int .i64 eX], .int .i64 400] u fun r w' => r = .returned (.bool m) ∧ Below u.heap.size u w'))
    (HC : Hid (∀ u a b c d, Arg u a (ws XX).length c (ws XX) → Arg u b 1 d [1] → Calls Try.prog 49 #[.agg #[.bool false, .slice a (ws XX).length c, .int .i64 eX], .agg #[.bool false, .slice b 1 d, .int .i64 (-400)]] u fun r w' => r = .returned (.int .i64 cv) ∧ Below u.heap.size u w')) :
    Calls Try.prog 33 #[.agg #[.float .f64 ph, .float .f64 pl]] w fun r w' => r = .returned (.bool (if (ws XX).length = 0 then nb else m && decide (0 ≤ cv))) ∧ Below w.heap.size w w' := by
  obtain ⟨R, hR⟩ : ∃ R, (if (ws XX).length = 0 then nb else m && decide (0 ≤ cv)) = R := ⟨_, rfl⟩
  rw [hR]
  have HR := Aside.intro hR
  clear hR
  go_enter Try.func33, Try.ntmps33
  go_wp2_with fail
  refine (Calls.mono (HX.out _)) ?_
  rintro r w1 ⟨⟨v1, rfl, N1⟩, hb1⟩
  obtain ⟨aX, cX, rfl, AX⟩ := N1.arg (by omega)
  clear N1
  clear HX
  have hy1 : w.heap.size ≤ w1.heap.size := by
    have := hb1.size
    try simp only [World.size_alloc, World.size_setCell] at this
    omega
  have hz1_0 : w.heap.size < w1.heap.size := by
    have := hb1.size
    try simp only [World.size_alloc, World.size_setCell] at this
    omega
  have B1 := Aside.intro (Below.trans (B := w.heap.size) (a := w) (by repeat (first | exact Below.refl _ _ | assumption | exact Nat.le_refl _ | (simp only [World.size_alloc, World.size_setCell]; omega) | omega | refine Below.alloc ?_ ?_ _ | refine Below.setCell ?_ ?_ _ | refine Below.drew ?_)) (hb1.mono (by first | omega | (simp only [World.size_alloc, World.size_setCell]; omega))))
  have S1 := B1
  obtain ⟨hc1, hf1⟩ := bcell hb1
  clear hb1 B1
  have c1_0_0 : w1.cell? ⟨w.heap.size, 0, none⟩ = some (.float .f64 ph) := by
    rw [hc1 _ _ (by first | omega | (simp only [World.size_alloc, World.size_setCell]; omega))]
    first | assumption | (simp [go_sem]; done)
  have f1_0_0 : w1.frozen? ⟨w.heap.size, 0, none⟩ = false := by
    rw [hf1 _ _ (by first | omega | (simp only [World.size_alloc, World.size_setCell]; omega))]
    first | assumption | (simp [go_sem]; done)
  have c1_0_1 : w1.cell? ⟨w.heap.size, 1, none⟩ = some (.float .f64 pl) := by
    rw [hc1 _ _ (by first | omega | (simp only [World.size_alloc, World.size_setCell]; omega))]
    first | assumption | (simp [go_sem]; done)
  have f1_0_1 : w1.frozen? ⟨w.heap.size, 1, none⟩ = false := by
    rw [hf1 _ _ (by first | omega | (simp only [World.size_alloc, World.size_setCell]; omega))]
    first | assumption | (simp [go_sem]; done)
  clear hc1 hf1 
  have ne0 : w.heap.size ≠ w1.heap.size := by omega
  go_wp2_with fail
  refine (Calls.mono (HY.out _)) ?_
  rintro r w2 ⟨⟨v2, rfl, N2⟩, hb2⟩
  obtain ⟨aY, cY, rfl, AY⟩ := N2.arg (by omega)
  clear N2
  clear HY
  have hy2 : w1.heap.size ≤ w2.heap.size := by
    have := hb2.size
    try simp only [World.size_alloc, World.size_setCell] at this
    omega
  have hz2_0 : w.heap.size < w2.heap.size := by
    have := hb2.size
    try simp only [World.size_alloc, World.size_setCell] at this
    omega
  have hz2_1 : w1.heap.size < w2.heap.size := by
    have := hb2.size
    try simp only [World.size_alloc, World.size_setCell] at this
    omega
  have B2 := Aside.intro (Below.trans (B := w1.heap.size) (a := w1) (by repeat (first | exact Below.refl _ _ | assumption | exact Nat.le_refl _ | (simp only [World.size_alloc, World.size_setCell]; omega) | omega | refine Below.alloc ?_ ?_ _ | refine Below.setCell ?_ ?_ _ | refine Below.drew ?_)) (hb2.mono (by first | omega | (simp only [World.size_alloc, World.size_setCell]; omega))))
  have S2 := Aside.intro (S1.out.trans (B2.out.mono S1.out.size))
  clear S1
  replace AX := AX.below B2.out
  obtain ⟨hc2, hf2⟩ := bcell hb2
  clear hb2 B2
  have c2_0_0 : w2.cell? ⟨w.heap.size, 0, none⟩ = some (.float .f64 ph) := by
    rw [hc2 _ _ (by first | omega | (simp only [World.size_alloc, World.size_setCell]; omega))]
    first | assumption | (simp [go_sem, c1_0_0, f1_0_0, c1_0_1, f1_0_1, hz1_0, ne0]; done)
  have f2_0_0 : w2.frozen? ⟨w.heap.size, 0, none⟩ = false := by
    rw [hf2 _ _ (by first | omega | (simp only [World.size_alloc, World.size_setCell]; omega))]
    first | assumption | (simp [go_sem, c1_0_0, f1_0_0, c1_0_1, f1_0_1, hz1_0, ne0]; done)
  have c2_0_1 : w2.cell? ⟨w.heap.size, 1, none⟩ = some (.float .f64 pl) := by
    rw [hc2 _ _ (by first | omega | (simp only [World.size_alloc, World.size_setCell]; omega))]
    first | assumption | (simp [go_sem, c1_0_0, f1_0_0, c1_0_1, f1_0_1, hz1_0, ne0]; done)
  have f2_0_1 : w2.frozen? ⟨w.heap.size, 1, none⟩ = false := by
    rw [hf2 _ _ (by first | omega | (simp only [World.size_alloc, World.size_setCell]; omega))]
    first | assumption | (simp [go_sem, c1_0_0, f1_0_0, c1_0_1, f1_0_1, hz1_0, ne0]; done)
  have c2_1_0 : w2.cell? ⟨w1.heap.size, 0, none⟩ = some (.bool nX) := by
    rw [hc2 _ _ (by first | omega | (simp only [World.size_alloc, World.size_setCell]; omega))]
    first | assumption | (simp [go_sem, c1_0_0, f1_0_0, c1_0_1, f1_0_1, hz1_0, ne0]; done)
  have f2_1_0 : w2.frozen? ⟨w1.heap.size, 0, none⟩ = false := by
    rw [hf2 _ _ (by first | omega | (simp only [World.size_alloc, World.size_setCell]; omega))]
    first | assumption | (simp [go_sem, c1_0_0, f1_0_0, c1_0_1, f1_0_1, hz1_0, ne0]; done)
  have c2_1_1 : w2.cell? ⟨w1.heap.size, 1, none⟩ = some (.slice aX (ws XX).length cX) := by
    rw [hc2 _ _ (by first | omega | (simp only [World.size_alloc, World.size_setCell]; omega))]
    first | assumption | (simp [go_sem, c1_0_0, f1_0_0, c1_0_1, f1_0_1, hz1_0, ne0]; done)
  have f2_1_1 : w2.frozen? ⟨w1.heap.size, 1, none⟩ = false := by
    rw [hf2 _ _ (by first | omega | (simp only [World.size_alloc, World.size_setCell]; omega))]
    first | assumption | (simp [go_sem, c1_0_0, f1_0_0, c1_0_1, f1_0_1, hz1_0, ne0]; done)
  have c2_1_2 : w2.cell? ⟨w1.heap.size, 2, none⟩ = some (.int .i64 eX) := by
    rw [hc2 _ _ (by first | omega | (simp only [World.size_alloc, World.size_setCell]; omega))]
    first | assumption | (simp [go_sem, c1_0_0, f1_0_0, c1_0_1, f1_0_1, hz1_0, ne0]; done)
  have f2_1_2 : w2.frozen? ⟨w1.heap.size, 2, none⟩ = false := by
    rw [hf2 _ _ (by first | omega | (simp only [World.size_alloc, World.size_setCell]; omega))]
    first | assumption | (simp [go_sem, c1_0_0, f1_0_0, c1_0_1, f1_0_1, hz1_0, ne0]; done)
  clear hc2 hf2 c1_0_0 f1_0_0 c1_0_1 f1_0_1
  obtain ⟨U1, hU1⟩ : ∃ U, U = w2.alloc (.cells #[.bool nY, .slice aY (ws XY).length cY, .int .i64 eY] 43) := ⟨_, rfl⟩
  have BU : Below w2.heap.size w2 U1 := by rw [hU1]; exact below_alloc w2 _
  have Z0 := show Sg w w2 w.heap.size w1.heap.size ph pl nX aX XX cX eX from ⟨S2.out, by omega, by omega, ⟨c2_0_0, c2_0_1, c2_1_0, c2_1_1, c2_1_2⟩, AX⟩
  have Z1 := Aside.intro (Z0.below BU)
  clear Z0 BU
  go_upto_region 3 with fail
  rw [← hU1]
  clear hU1 S2 AX AY c2_0_0 f2_0_0 c2_0_1 f2_0_1 c2_1_0 f2_1_0 c2_1_1 f2_1_1 c2_1_2 f2_1_2 hy1 hy2 hz1_0 hz2_0 hz2_1 ne0
  obtain ⟨h, hh⟩ : ∃ h, w1.heap.size = h := ⟨_, rfl⟩
  rw [hh] at Z1 ⊢
  clear hh
  obtain ⟨g, hg⟩ : ∃ g, w.heap.size = g := ⟨_, rfl⟩
  rw [hg] at Z1 ⊢
  clear hg
  go_cut [42] from 20 to 42 (fun v wx => v = .bool false ∧ Aside (Sg w wx g h ph pl nX aX XX cX eX))
  case first =>
    clear HN HW HC HR lX lY
    obtain ⟨k0, k1, k2, k3, k4⟩ := Z1.out.facts
    refine wp_region_held_drew (S := (fun w' => w'.cell? ⟨g, 0, none⟩ = some (.float .f64 ph) ∧ w'.cell? ⟨g, 1, none⟩ = some (.float .f64 pl) ∧ w'.cell? ⟨h, 0, none⟩ = some (.bool nX) ∧ w'.cell? ⟨h, 1, none⟩ = some (.slice aX (ws XX).length cX) ∧ w'.cell? ⟨h, 2, none⟩ = some (.int .i64 eX))) (by kernel_rfl) ?hSa (fun hHeld => ?restA)
    case hSa => (try dsimp only); go_keep
    refine wpAnyH_take (i := 0) (oi := { dst := some 20, op := Go.Op.move (Go.Operand.tmp 4), type := 4, pos := "law.go:177", after := #[], guard := none }) (v := ?v0) rfl (by kernel_rfl) (by kernel_rfl) (by kernel_rfl) (fun _ _ _ h => h) (Or.inl ⟨by rfl, ?hy0⟩) (by assumption) ?rest0
    case hy0 => (intro w hSw; (try dsimp only at hSw); first | (go_simp; done) | (go_simp; with_reducible rfl))
    try simp only [Act.put, List.setIfInBounds_toArray, List.set_cons_zero, List.set_cons_succ]
    refine wpAnyH_take (i := 1) (oi := { dst := some 21, op := Go.Op.unOp Go.UnOp.not 4 (Go.Operand.tmp 20), type := 4, pos := "law.go:177", after := #[{ on := 0, ground := Go.Ground.data }], guard := none }) (v := ?v1) rfl (by kernel_rfl) (by kernel_rfl) (by kernel_rfl) (fun _ _ _ h => h) (Or.inl ⟨by rfl, ?hy1⟩) (by assumption) ?rest1
    case hy1 => (intro w hSw; (try dsimp only at hSw); first | (go_simp; done) | (go_simp; with_reducible rfl))
    try simp only [Act.put, List.setIfInBounds_toArray, List.set_cons_zero, List.set_cons_succ]
    refine wpAnyH_take (i := 2) (oi := { dst := some 22, op := Go.Op.move (Go.Operand.tmp 21), type := 4, pos := "law.go:177", after := #[{ on := 1, ground := Go.Ground.data }], guard := none }) (v := ?v2) rfl (by kernel_rfl) (by kernel_rfl) (by kernel_rfl) (fun _ _ _ h => h) (Or.inl ⟨by rfl, ?hy2⟩) (by assumption) ?rest2
    case hy2 => (intro w hSw; (try dsimp only at hSw); first | (go_simp; done) | (go_simp; with_reducible rfl))
    try simp only [Act.put, List.setIfInBounds_toArray, List.set_cons_zero, List.set_cons_succ]
    refine wpAnyH_take (i := 3) (oi := { dst := some 23, op := Go.Op.move (Go.Operand.tmp 6), type := 4, pos := "law.go:177", after := #[{ on := 2, ground := Go.Ground.guard }], guard := some (2, false) }) (v := ?v3) rfl (by kernel_rfl) (by kernel_rfl) (by kernel_rfl) (fun _ _ _ h => h) (Or.inl ⟨by rfl, ?hy3⟩) (by assumption) ?rest3
    case hy3 => (intro w hSw; (try dsimp only at hSw); first | (go_simp; done) | (go_simp; with_reducible rfl))
    try simp only [Act.put, List.setIfInBounds_toArray, List.set_cons_zero, List.set_cons_succ]
    refine wpAnyH_take (i := 4) (oi := { dst := some 24, op := Go.Op.unOp Go.UnOp.not 4 (Go.Operand.tmp 23), type := 4, pos := "law.go:177", after := #[{ on := 3, ground := Go.Ground.data }, { on := 2, ground := Go.Ground.guard }], guard := some (2, false) }) (v := ?v4) rfl (by kernel_rfl) (by kernel_rfl) (by kernel_rfl) (fun _ _ _ h => h) (Or.inl ⟨by rfl, ?hy4⟩) (by assumption) ?rest4
    case hy4 => (intro w hSw; (try dsimp only at hSw); first | (go_simp; done) | (go_simp; with_reducible rfl))
    try simp only [Act.put, List.setIfInBounds_toArray, List.set_cons_zero, List.set_cons_succ]
    refine wpAnyH_take (i := 5) (oi := { dst := some 25, op := Go.Op.pick (Go.Operand.tmp 22) (Go.Operand.const (Go.Value.bool true)) (Go.Operand.tmp 24), type := 4, pos := "law.go:177", after := #[{ on := 2, ground := Go.Ground.data }, { on := 4, ground := Go.Ground.data }], guard := none }) (v := ?v5) rfl (by kernel_rfl) (by kernel_rfl) (by kernel_rfl) (fun _ _ _ h => h) (Or.inl ⟨by rfl, ?hy5⟩) (by assumption) ?rest5
    case hy5 => (intro w hSw; (try dsimp only at hSw); first | (go_simp; done) | (go_simp; with_reducible rfl))
    try simp only [Act.put, List.setIfInBounds_toArray, List.set_cons_zero, List.set_cons_succ]
    refine wpAnyH_take (i := 6) (oi := { dst := some 26, op := Go.Op.move (Go.Operand.tmp 25), type := 4, pos := "law.go:177", after := #[{ on := 5, ground := Go.Ground.data }, { on := 2, ground := Go.Ground.chain }], guard := none }) (v := ?v6) rfl (by kernel_rfl) (by kernel_rfl) (by kernel_rfl) (fun _ _ _ h => h) (Or.inl ⟨by rfl, ?hy6⟩) (by assumption) ?rest6
    case hy6 => (intro w hSw; (try dsimp only at hSw); first | (go_simp; done) | (go_simp; with_reducible rfl))
    try simp only [Act.put, List.setIfInBounds_toArray, List.set_cons_zero, List.set_cons_succ]
    refine wpAnyH_take (i := 7) (oi := { dst := some 27, op := Go.Op.fieldAddr 30 (Go.Operand.tmp 1) 0, type := 0, pos := "law.go:177", after := #[{ on := 6, ground := Go.Ground.guard }], guard := some (6, false) }) (v := ?v7) rfl (by kernel_rfl) (by kernel_rfl) (by kernel_rfl) (fun _ _ _ h => h) (Or.inl ⟨by rfl, ?hy7⟩) (by assumption) ?rest7
    case hy7 => (intro w hSw; (try dsimp only at hSw); first | (go_simp; done) | (go_simp; with_reducible rfl))
    try simp only [Act.put, List.setIfInBounds_toArray, List.set_cons_zero, List.set_cons_succ]
    refine wpAnyH_take (i := 8) (oi := { dst := some 28, op := Go.Op.load 23 (Go.Operand.tmp 27), type := 23, pos := "law.go:177", after := #[{ on := 7, ground := Go.Ground.data }, { on := 6, ground := Go.Ground.guard }], guard := some (6, false) }) (v := ?v8) rfl (by kernel_rfl) (by kernel_rfl) (by kernel_rfl) (fun _ _ _ h => h) (Or.inl ⟨by rfl, ?hy8⟩) (by assumption) ?rest8
    case hy8 => (intro w hSw; (try dsimp only at hSw); first | (go_simp; done) | (go_simp; with_reducible rfl))
    try simp only [Act.put, List.setIfInBounds_toArray, List.set_cons_zero, List.set_cons_succ]
    refine wpAnyH_take (i := 9) (oi := { dst := some 29, op := Go.Op.fieldAddr 30 (Go.Operand.tmp 1) 1, type := 0, pos := "law.go:177", after := #[{ on := 6, ground := Go.Ground.guard }], guard := some (6, false) }) (v := ?v9) rfl (by kernel_rfl) (by kernel_rfl) (by kernel_rfl) (fun _ _ _ h => h) (Or.inl ⟨by rfl, ?hy9⟩) (by assumption) ?rest9
    case hy9 => (intro w hSw; (try dsimp only at hSw); first | (go_simp; done) | (go_simp; with_reducible rfl))
    try simp only [Act.put, List.setIfInBounds_toArray, List.set_cons_zero, List.set_cons_succ]
    refine wpAnyH_take (i := 10) (oi := { dst := some 30, op := Go.Op.load 23 (Go.Operand.tmp 29), type := 23, pos := "law.go:177", after := #[{ on := 9, ground := Go.Ground.data }, { on := 6, ground := Go.Ground.guard }], guard := some (6, false) }) (v := ?v10) rfl (by kernel_rfl) (by kernel_rfl) (by kernel_rfl) (fun _ _ _ h => h) (Or.inl ⟨by rfl, ?hy10⟩) (by assumption) ?rest10
    case hy10 => (intro w hSw; (try dsimp only at hSw); first | (go_simp; done) | (go_simp; with_reducible rfl))
    try simp only [Act.put, List.setIfInBounds_toArray, List.set_cons_zero, List.set_cons_succ]
    refine wpAnyH_take (i := 12) (oi := { dst := some 32, op := Go.Op.fieldAddr 30 (Go.Operand.tmp 1) 0, type := 0, pos := "law.go:177", after := #[{ on := 6, ground := Go.Ground.guard }], guard := some (6, false) }) (v := ?v12) rfl (by kernel_rfl) (by kernel_rfl) (by kernel_rfl) (fun _ _ _ h => h) (Or.inl ⟨by rfl, ?hy12⟩) (by assumption) ?rest12
    case hy12 => (intro w hSw; (try dsimp only at hSw); first | (go_simp; done) | (go_simp; with_reducible rfl))
    try simp only [Act.put, List.setIfInBounds_toArray, List.set_cons_zero, List.set_cons_succ]
    refine wpAnyH_take (i := 13) (oi := { dst := some 33, op := Go.Op.load 23 (Go.Operand.tmp 32), type := 23, pos := "law.go:177", after := #[{ on := 12, ground := Go.Ground.data }, { on := 6, ground := Go.Ground.guard }], guard := some (6, false) }) (v := ?v13) rfl (by kernel_rfl) (by kernel_rfl) (by kernel_rfl) (fun _ _ _ h => h) (Or.inl ⟨by rfl, ?hy13⟩) (by assumption) ?rest13
    case hy13 => (intro w hSw; (try dsimp only at hSw); first | (go_simp; done) | (go_simp; with_reducible rfl))
    try simp only [Act.put, List.setIfInBounds_toArray, List.set_cons_zero, List.set_cons_succ]
    refine wpAnyH_ready (rs := [11]) (by kernel_rfl) (by simp) ?_
    refine AllReadyH.cons (o := { dst := some 31, op := Go.Op.call { callee := Go.Callee.value (Go.Operand.func 43), args := #[Go.Operand.tmp 28, Go.Operand.tmp 30], argTypes := #[23, 23] }, type := 23, pos := "law.go:177", after := #[{ on := 8, ground := Go.Ground.data }, { on := 10, ground := Go.Ground.data }, { on := 6, ground := Go.Ground.chain }, { on := 6, ground := Go.Ground.guard }], guard := some (6, false) }) rfl (fun K hK => ?_) AllReadyH.nil
    go_simp
    go_at_call 43
    with_reducible refine (Calls.mono (HPl.out _)) ?_
    rintro r x1 ⟨rfl, hb1⟩
    have hc1 := Aside.intro (show Below U1.heap.size U1 x1 by first | exact hb1 | exact ((Below.refl _ U1).drew).trans (hb1.mono (Nat.le_refl _)))
    obtain ⟨m0, m1, m2, m3, m4⟩ := (Z1.out.below hc1.out).facts
    clear hb1
    go_wp2_with fail
    refine hK.out _ _ ?hS11 (fun hHeld11 => ?rest11)
    case hS11 => (try dsimp only); go_keep
    clear hK K
    try simp only [Act.put, List.setIfInBounds_toArray, List.set_cons_zero, List.set_cons_succ]
    refine wpAnyH_ready (rs := [14]) (by kernel_rfl) (by simp) ?_
    refine AllReadyH.cons (o := { dst := some 34, op := Go.Op.call { callee := Go.Callee.value (Go.Operand.func 26), args := #[Go.Operand.tmp 31, Go.Operand.tmp 33], argTypes := #[23, 23] }, type := 4, pos := "law.go:177", after := #[{ on := 11, ground := Go.Ground.data }, { on := 13, ground := Go.Ground.data }, { on := 11, ground := Go.Ground.chain }, { on := 6, ground := Go.Ground.guard }], guard := some (6, false) }) rfl (fun K hK => ?_) AllReadyH.nil
    go_simp
    go_at_call 26
    with_reducible refine (Calls.mono (HSm.out _)) ?_
    rintro r x2 ⟨rfl, hb2⟩
    have hc2 := Aside.intro ((Z1.out.below hc1.out).below (by first | exact hb2 | exact ((Below.refl _ _).drew).trans (hb2.mono (Nat.le_refl _))))
    obtain ⟨n0, n1, n2, n3, n4⟩ := hc2.out.facts
    clear hb2
    go_wp2_with fail
    refine hK.out _ _ ?hS14 (fun hHeld14 => ?rest14)
    case hS14 => (try dsimp only); go_keep
    clear hK K
    try simp only [Act.put, List.setIfInBounds_toArray, List.set_cons_zero, List.set_cons_succ]
    refine wpAnyH_take (i := 15) (oi := { dst := some 35, op := Go.Op.unOp Go.UnOp.not 4 (Go.Operand.tmp 34), type := 4, pos := "law.go:177", after := #[{ on := 14, ground := Go.Ground.data }, { on := 6, ground := Go.Ground.guard }], guard := some (6, false) }) (v := ?v15) rfl (by kernel_rfl) (by kernel_rfl) (by kernel_rfl) (fun _ _ _ h => h) (Or.inl ⟨by rfl, ?hy15⟩) (by assumption) ?rest15
    case hy15 => (intro w hSw; (try dsimp only at hSw); first | (go_simp; done) | (go_simp; with_reducible rfl))
    try simp only [Act.put, List.setIfInBounds_toArray, List.set_cons_zero, List.set_cons_succ]
    refine wpAnyH_take (i := 16) (oi := { dst := some 36, op := Go.Op.move (Go.Operand.tmp 35), type := 4, pos := "law.go:177", after := #[{ on := 15, ground := Go.Ground.data }, { on := 14, ground := Go.Ground.chain }, { on := 6, ground := Go.Ground.guard }], guard := some (6, false) }) (v := ?v16) rfl (by kernel_rfl) (by kernel_rfl) (by kernel_rfl) (fun _ _ _ h => h) (Or.inl ⟨by rfl, ?hy16⟩) (by assumption) ?rest16
    case hy16 => (intro w hSw; (try dsimp only at hSw); first | (go_simp; done) | (go_simp; with_reducible rfl))
    try simp only [Act.put, List.setIfInBounds_toArray, List.set_cons_zero, List.set_cons_succ]
    refine wpAnyH_take (i := 17) (oi := { dst := some 37, op := Go.Op.fieldAddr 43 (Go.Operand.tmp 3) 1, type := 0, pos := "law.go:177", after := #[{ on := 16, ground := Go.Ground.guard }], guard := some (16, true) }) (v := undef) rfl (by kernel_rfl) (by kernel_rfl) (by kernel_rfl) (fun _ _ _ h => h) (Or.inr ⟨by rfl, rfl⟩) (by assumption) ?rest17
    try simp only [Act.put, List.setIfInBounds_toArray, List.set_cons_zero, List.set_cons_succ]
    refine wpAnyH_take (i := 18) (oi := { dst := some 38, op := Go.Op.load 41 (Go.Operand.tmp 37), type := 41, pos := "law.go:177", after := #[{ on := 17, ground := Go.Ground.data }, { on := 16, ground := Go.Ground.guard }], guard := some (16, true) }) (v := undef) rfl (by kernel_rfl) (by kernel_rfl) (by kernel_rfl) (fun _ _ _ h => h) (Or.inr ⟨by rfl, rfl⟩) (by assumption) ?rest18
    try simp only [Act.put, List.setIfInBounds_toArray, List.set_cons_zero, List.set_cons_succ]
    refine wpAnyH_take (i := 19) (oi := { dst := some 39, op := Go.Op.call { callee := Go.Callee.builtin Go.Builtin.len, args := #[Go.Operand.tmp 38], argTypes := #[41] }, type := 3, pos := "law.go:177", after := #[{ on := 18, ground := Go.Ground.data }, { on := 16, ground := Go.Ground.guard }], guard := some (16, true) }) (v := undef) rfl (by kernel_rfl) (by kernel_rfl) (by kernel_rfl) (fun _ _ _ h => h) (Or.inr ⟨by rfl, rfl⟩) (by assumption) ?rest19
    try simp only [Act.put, List.setIfInBounds_toArray, List.set_cons_zero, List.set_cons_succ]
    refine wpAnyH_take (i := 20) (oi := { dst := some 40, op := Go.Op.binOp Go.BinOp.gtr 3 (Go.Operand.tmp 39) (Go.Operand.const (Go.Value.int Go.IntKind.i64 0)) 3, type := 4, pos := "law.go:177", after := #[{ on := 19, ground := Go.Ground.data }, { on := 16, ground := Go.Ground.guard }], guard := some (16, true) }) (v := undef) rfl (by kernel_rfl) (by kernel_rfl) (by kernel_rfl) (fun _ _ _ h => h) (Or.inr ⟨by rfl, rfl⟩) (by assumption) ?rest20
    try simp only [Act.put, List.setIfInBounds_toArray, List.set_cons_zero, List.set_cons_succ]
    refine wpAnyH_take (i := 21) (oi := { dst := some 41, op := Go.Op.pick (Go.Operand.tmp 36) (Go.Operand.tmp 40) (Go.Operand.const (Go.Value.bool false)), type := 4, pos := "law.go:177", after := #[{ on := 16, ground := Go.Ground.data }, { on := 20, ground := Go.Ground.data }, { on := 6, ground := Go.Ground.guard }], guard := some (6, false) }) (v := ?v21) rfl (by kernel_rfl) (by kernel_rfl) (by kernel_rfl) (fun _ _ _ h => h) (Or.inl ⟨by rfl, ?hy21⟩) (by assumption) ?rest21
    case hy21 => (intro w hSw; (try dsimp only at hSw); first | (go_simp; done) | (go_simp; with_reducible rfl))
    try simp only [Act.put, List.setIfInBounds_toArray, List.set_cons_zero, List.set_cons_succ]
    refine wpAnyH_take (i := 22) (oi := { dst := some 42, op := Go.Op.pick (Go.Operand.tmp 26) (Go.Operand.const (Go.Value.bool true)) (Go.Operand.tmp 41), type := 4, pos := "law.go:177", after := #[{ on := 6, ground := Go.Ground.data }, { on := 21, ground := Go.Ground.data }], guard := none }) (v := ?v22) rfl (by kernel_rfl) (by kernel_rfl) (by kernel_rfl) (fun _ _ _ h => h) (Or.inl ⟨by rfl, ?hy22⟩) (by assumption) ?rest22
    case hy22 => (intro w hSw; (try dsimp only at hSw); first | (go_simp; done) | (go_simp; with_reducible rfl))
    try simp only [Act.put, List.setIfInBounds_toArray, List.set_cons_zero, List.set_cons_succ]
    refine wpAnyH_done (by kernel_rfl) ?_ _
    go_wp2_with fail
    go_meet
    case rel => exact ⟨rfl, hc2⟩
  case rest =>
    obtain ⟨rfl, Z2⟩ := hcut
    obtain ⟨U2, hU⟩ : ∃ U, U = wc := ⟨_, rfl⟩
    subst hU
    clear Z1
    obtain ⟨k0, k1, k2, k3, k4⟩ := Z2.out.facts
    by_cases hl : (ws XX).length = 0
    · have hm2 : ((((ws XX).length : Nat) : Int) == 0) = true := by rw [hl]; rfl
      have hR := HR.out
      rw [if_pos hl] at hR
      clear hl HR
      subst hR
      go_wp2_with fail
      refine (Calls.mono (HN.out _)) ?_
      rintro r y1 ⟨rfl, hb⟩
      go_wp2
      exact bodyPost_ret (v := .bool nb) (by simp [results, Try.results33, go_sem]) rfl ⟨rfl, Z2.out.bel.trans (hb.mono Z2.out.bel.size)⟩
    · have hm2 : ((((ws XX).length : Nat) : Int) == 0) = false := beq_eq_false_iff_ne.2 (by omega)
      have hR := HR.out
      rw [if_neg hl] at hR
      clear hl HR
      go_wp2_with fail
      refine (Calls.mono (HW.out _ _ _ Z2.out.AX)) ?_
      rintro r y1 ⟨rfl, hb⟩
      have Z3 := Aside.intro (Z2.out.below hb)
      clear hb k0 k1 k2 k3 k4 Z2
      obtain ⟨k0, k1, k2, k3, k4⟩ := Z3.out.facts
      cases m
      · rw [Bool.false_and] at hR
        subst hR
        go_wp2
        exact bodyPost_ret (v := .bool false) (by simp [results, Try.results33, go_sem]) rfl ⟨rfl, Z3.out.bel⟩
      · rw [Bool.true_and] at hR
        go_wp2_with fail
        refine (Calls.mono (size_law _ _ _ _ _ _)) ?_
        rintro r y2 ⟨rfl, hb⟩
        have Z4 := Aside.intro (Z3.out.below hb)
        clear hb k0 k1 k2 k3 k4 Z3
        go_wp2_with fail
        refine (Calls.mono (HC.out _ _ _ _ _ (Z4.out.AX.below (below_alloc y2 _)) (lit_arg y2 1 (by omega)))) ?_
        rintro r y3 ⟨rfl, hb⟩
        have F := Z4.out.bel.trans (((below_alloc y2 _).trans (hb.mono (by simp))).mono Z4.out.bel.size)
        go_wp2
        exact bodyPost_ret (v := .bool R) (by simp [results, Try.results33, go_sem, hR]) rfl ⟨rfl, F⟩
end Go.Proofs.Ythilnddhehbjiab

