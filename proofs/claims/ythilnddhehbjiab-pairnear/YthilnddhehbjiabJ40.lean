/- The law's near. -/
import Derived.Deep.RegionWith
import Derived.Test.YthilnddhehbjiabJ37x
import Derived.BigQuiet
import Derived.Deep.CutRange
import Derived.Deep.RegionHeld3
namespace Go.Proofs.Ythilnddhehbjiab
open Go.RowKit J
set_option linter.unusedVariables false
set_option maxRecDepth 20000
set_option linter.unusedSimpArgs false
attribute [local go_sem] st_float

structure Sf (w v : World) (g h : Nat) (by0 : Int) (nX nO : Bool) (aX aO : Option Addr) (XX cX XO cO : Nat) (eX eO : Int) : Prop where
  bel : Below w.heap.size w v
  lt0 : g < v.heap.size
  lt1 : h < v.heap.size
  facts : v.cell? ⟨g, 0, none⟩ = some (.bool nX) ∧ v.cell? ⟨g, 1, none⟩ = some (.slice aX (ws XX).length cX) ∧ v.cell? ⟨g, 2, none⟩ = some (.int .i64 eX) ∧ v.cell? ⟨h, 0, none⟩ = some (.bool false) ∧ v.cell? ⟨h, 1, none⟩ = some (.slice aO (ws XO).length cO) ∧ v.cell? ⟨h, 2, none⟩ = some (.int .i64 (eO + by0))
  AX : Arg v aX (ws XX).length cX (ws XX)
  AO : Arg v aO (ws XO).length cO (ws XO)
theorem Sf.below {w v y : World} {g h : Nat} {by0 : Int} {nX nO : Bool} {aX aO : Option Addr} {XX cX XO cO : Nat} {eX eO : Int} (t : Sf w v g h by0 nX nO aX aO XX cX XO cO eX eO) (hb : Below v.heap.size v y) : Sf w y g h by0 nX nO aX aO XX cX XO cO eX eO := by
  obtain ⟨f0, f1, f2, f3, f4, f5⟩ := t.facts
  obtain ⟨hc, _⟩ := bcell hb
  have hs := hb.size
  exact ⟨t.bel.trans (hb.mono t.bel.size), Nat.lt_of_lt_of_le t.lt0 hs, Nat.lt_of_lt_of_le t.lt1 hs, ⟨by rw [hc _ _ t.lt0]; exact f0, by rw [hc _ _ t.lt0]; exact f1, by rw [hc _ _ t.lt0]; exact f2, by rw [hc _ _ t.lt1]; exact f3, by rw [hc _ _ t.lt1]; exact f4, by rw [hc _ _ t.lt1]; exact f5⟩, t.AX.below hb, t.AO.below hb⟩
set_option maxHeartbeats 16000000 in
theorem near_nil (ph pl : Nat) (nX nS nO : Bool) (aX : Option Addr) (XX cX XS XO : Nat) (eX eS eO by0 : Int) (w : World) (AX : Arg w aX (ws XX).length cX (ws XX)) (lX : (ws XX).length ≤ 8192) (lS : (ws XS).length ≤ 8192) (lO : (ws XO).length ≤ 8192) (hw : IntKind.i64.wrap (eO + by0) = eO + by0) (hm2 : ((((ws XO).length : Nat) : Int) == 0) = true)
    (HW : Hid (∀ u, Calls Try.prog 34 #[.agg #[.float .f64 ph, .float .f64 pl]] u fun r w' => (∃ v, r = .returned (.tuple #[.agg #[.bool nS, v, .int .i64 eS], .bool true]) ∧ Nt u.heap.size w' v XS) ∧ Below u.heap.size u w'))
    (HS : Hid (∀ u a b c d, Arg u a (ws XS).length c (ws XS) → Arg u b (ws XX).length d (ws XX) → Calls Try.prog 60 #[.agg #[.bool nS, .slice a (ws XS).length c, .int .i64 eS], .agg #[.bool nX, .slice b (ws XX).length d, .int .i64 eX]] u fun r w' => (∃ v, r = .returned (.tuple #[.agg #[.bool nO, v, .int .i64 eO], .int .i64 0]) ∧ Nt u.heap.size w' v XO) ∧ Below u.heap.size u w')) :
    Calls Try.prog 37 #[.agg #[.float .f64 ph, .float .f64 pl], .agg #[.bool nX, .slice aX (ws XX).length cX, .int .i64 eX], .int .i64 by0] w fun r w' => r = .returned (.bool true) ∧ Below w.heap.size w w' := by
  go_enter Try.func37, Try.ntmps37
  go_wp2_with fail
  refine (Calls.mono (HW.out _)) ?_
  rintro r w1 ⟨⟨v1, rfl, N1⟩, hb1⟩
  obtain ⟨aS, cS, rfl, AS⟩ := N1.arg (by omega)
  clear N1
  clear HW
  have hy1 : w.heap.size ≤ w1.heap.size := by
    have := hb1.size
    try simp only [World.size_alloc, World.size_setCell] at this
    omega
  have hz1_0 : w.heap.size < w1.heap.size := by
    have := hb1.size
    try simp only [World.size_alloc, World.size_setCell] at this
    omega
  have hz1_1 : w.heap.size + 1 < w1.heap.size := by
    have := hb1.size
    try simp only [World.size_alloc, World.size_setCell] at this
    omega
  have B1 := Aside.intro (Below.trans (B := w.heap.size) (a := w) (by repeat (first | exact Below.refl _ _ | assumption | exact Nat.le_refl _ | (simp only [World.size_alloc, World.size_setCell]; omega) | omega | refine Below.alloc ?_ ?_ _ | refine Below.setCell ?_ ?_ _ | refine Below.drew ?_)) (hb1.mono (by first | omega | (simp only [World.size_alloc, World.size_setCell]; omega))))
  have S1 := B1
  replace AX := AX.below B1.out
  obtain ⟨hc1, hf1⟩ := bcell hb1
  clear hb1 B1
  have c1_0_0 : w1.cell? ⟨w.heap.size, 0, none⟩ = some (.float .f64 ph) := by
    rw [hc1 _ _ (by first | omega | (simp only [World.size_alloc, World.size_setCell]; omega))]
    first | assumption | (simp [go_sem]; done)
  have f1_0_0 : w1.frozen? ⟨w.heap.size, 0, none⟩ = false := by
    rw [hf1 _ _ (by first | omega | (simp only [World.size_alloc, World.size_setCell]; omega))]
    first | assumption | (simp [go_sem]; done)
  have c1_0_1 : w1.cell? ⟨w.heap.size, 1, none⟩ = some (.float .f64 pl) := by
    rw [hc1 _ _ (by first | omega | (simp only [World.size_alloc, World.size_setCell]; omega))]
    first | assumption | (simp [go_sem]; done)
  have f1_0_1 : w1.frozen? ⟨w.heap.size, 1, none⟩ = false := by
    rw [hf1 _ _ (by first | omega | (simp only [World.size_alloc, World.size_setCell]; omega))]
    first | assumption | (simp [go_sem]; done)
  have c1_1_0 : w1.cell? ⟨w.heap.size + 1, 0, none⟩ = some (.bool nX) := by
    rw [hc1 _ _ (by first | omega | (simp only [World.size_alloc, World.size_setCell]; omega))]
    first | assumption | (simp [go_sem]; done)
  have f1_1_0 : w1.frozen? ⟨w.heap.size + 1, 0, none⟩ = false := by
    rw [hf1 _ _ (by first | omega | (simp only [World.size_alloc, World.size_setCell]; omega))]
    first | assumption | (simp [go_sem]; done)
  have c1_1_1 : w1.cell? ⟨w.heap.size + 1, 1, none⟩ = some (.slice aX (ws XX).length cX) := by
    rw [hc1 _ _ (by first | omega | (simp only [World.size_alloc, World.size_setCell]; omega))]
    first | assumption | (simp [go_sem]; done)
  have f1_1_1 : w1.frozen? ⟨w.heap.size + 1, 1, none⟩ = false := by
    rw [hf1 _ _ (by first | omega | (simp only [World.size_alloc, World.size_setCell]; omega))]
    first | assumption | (simp [go_sem]; done)
  have c1_1_2 : w1.cell? ⟨w.heap.size + 1, 2, none⟩ = some (.int .i64 eX) := by
    rw [hc1 _ _ (by first | omega | (simp only [World.size_alloc, World.size_setCell]; omega))]
    first | assumption | (simp [go_sem]; done)
  have f1_1_2 : w1.frozen? ⟨w.heap.size + 1, 2, none⟩ = false := by
    rw [hf1 _ _ (by first | omega | (simp only [World.size_alloc, World.size_setCell]; omega))]
    first | assumption | (simp [go_sem]; done)
  clear hc1 hf1 
  have ne0 : w.heap.size ≠ w1.heap.size := by omega
  have ne1 : w.heap.size + 1 ≠ w1.heap.size := by omega
  go_wp2_with fail
  refine (Calls.mono (HS.out _ _ _ _ _ (AS.below (by repeat (first | exact Below.refl _ _ | assumption | exact Nat.le_refl _ | (simp only [World.size_alloc, World.size_setCell]; omega) | omega | refine Below.alloc ?_ ?_ _ | refine Below.setCell ?_ ?_ _ | refine Below.drew ?_))) (AX.below (by repeat (first | exact Below.refl _ _ | assumption | exact Nat.le_refl _ | (simp only [World.size_alloc, World.size_setCell]; omega) | omega | refine Below.alloc ?_ ?_ _ | refine Below.setCell ?_ ?_ _ | refine Below.drew ?_))))) ?_
  rintro r w2 ⟨⟨v2, rfl, N2⟩, hb2⟩
  obtain ⟨aO, cO, rfl, AO⟩ := N2.arg (by omega)
  clear N2
  clear HS
  have hy2 : w1.heap.size ≤ w2.heap.size := by
    have := hb2.size
    try simp only [World.size_alloc, World.size_setCell] at this
    omega
  have hz2_0 : w.heap.size < w2.heap.size := by
    have := hb2.size
    try simp only [World.size_alloc, World.size_setCell] at this
    omega
  have hz2_1 : w.heap.size + 1 < w2.heap.size := by
    have := hb2.size
    try simp only [World.size_alloc, World.size_setCell] at this
    omega
  have hz2_2 : w1.heap.size < w2.heap.size := by
    have := hb2.size
    try simp only [World.size_alloc, World.size_setCell] at this
    omega
  have B2 := Aside.intro (Below.trans (B := w1.heap.size) (a := w1) (by repeat (first | exact Below.refl _ _ | assumption | exact Nat.le_refl _ | (simp only [World.size_alloc, World.size_setCell]; omega) | omega | refine Below.alloc ?_ ?_ _ | refine Below.setCell ?_ ?_ _ | refine Below.drew ?_)) (hb2.mono (by first | omega | (simp only [World.size_alloc, World.size_setCell]; omega))))
  have S2 := Aside.intro (S1.out.trans (B2.out.mono S1.out.size))
  clear S1
  replace AX := AX.below B2.out
  replace AS := AS.below B2.out
  obtain ⟨hc2, hf2⟩ := bcell hb2
  clear hb2 B2
  have c2_0_0 : w2.cell? ⟨w.heap.size, 0, none⟩ = some (.float .f64 ph) := by
    rw [hc2 _ _ (by first | omega | (simp only [World.size_alloc, World.size_setCell]; omega))]
    first | assumption | (simp [go_sem, c1_0_0, f1_0_0, c1_0_1, f1_0_1, c1_1_0, f1_1_0, c1_1_1, f1_1_1, c1_1_2, f1_1_2, hz1_0, hz1_1, ne0, ne1]; done)
  have f2_0_0 : w2.frozen? ⟨w.heap.size, 0, none⟩ = false := by
    rw [hf2 _ _ (by first | omega | (simp only [World.size_alloc, World.size_setCell]; omega))]
    first | assumption | (simp [go_sem, c1_0_0, f1_0_0, c1_0_1, f1_0_1, c1_1_0, f1_1_0, c1_1_1, f1_1_1, c1_1_2, f1_1_2, hz1_0, hz1_1, ne0, ne1]; done)
  have c2_0_1 : w2.cell? ⟨w.heap.size, 1, none⟩ = some (.float .f64 pl) := by
    rw [hc2 _ _ (by first | omega | (simp only [World.size_alloc, World.size_setCell]; omega))]
    first | assumption | (simp [go_sem, c1_0_0, f1_0_0, c1_0_1, f1_0_1, c1_1_0, f1_1_0, c1_1_1, f1_1_1, c1_1_2, f1_1_2, hz1_0, hz1_1, ne0, ne1]; done)
  have f2_0_1 : w2.frozen? ⟨w.heap.size, 1, none⟩ = false := by
    rw [hf2 _ _ (by first | omega | (simp only [World.size_alloc, World.size_setCell]; omega))]
    first | assumption | (simp [go_sem, c1_0_0, f1_0_0, c1_0_1, f1_0_1, c1_1_0, f1_1_0, c1_1_1, f1_1_1, c1_1_2, f1_1_2, hz1_0, hz1_1, ne0, ne1]; done)
  have c2_1_0 : w2.cell? ⟨w.heap.size + 1, 0, none⟩ = some (.bool nX) := by
    rw [hc2 _ _ (by first | omega | (simp only [World.size_alloc, World.size_setCell]; omega))]
    first | assumption | (simp [go_sem, c1_0_0, f1_0_0, c1_0_1, f1_0_1, c1_1_0, f1_1_0, c1_1_1, f1_1_1, c1_1_2, f1_1_2, hz1_0, hz1_1, ne0, ne1]; done)
  have f2_1_0 : w2.frozen? ⟨w.heap.size + 1, 0, none⟩ = false := by
    rw [hf2 _ _ (by first | omega | (simp only [World.size_alloc, World.size_setCell]; omega))]
    first | assumption | (simp [go_sem, c1_0_0, f1_0_0, c1_0_1, f1_0_1, c1_1_0, f1_1_0, c1_1_1, f1_1_1, c1_1_2, f1_1_2, hz1_0, hz1_1, ne0, ne1]; done)
  have c2_1_1 : w2.cell? ⟨w.heap.size + 1, 1, none⟩ = some (.slice aX (ws XX).length cX) := by
    rw [hc2 _ _ (by first | omega | (simp only [World.size_alloc, World.size_setCell]; omega))]
    first | assumption | (simp [go_sem, c1_0_0, f1_0_0, c1_0_1, f1_0_1, c1_1_0, f1_1_0, c1_1_1, f1_1_1, c1_1_2, f1_1_2, hz1_0, hz1_1, ne0, ne1]; done)
  have f2_1_1 : w2.frozen? ⟨w.heap.size + 1, 1, none⟩ = false := by
    rw [hf2 _ _ (by first | omega | (simp only [World.size_alloc, World.size_setCell]; omega))]
    first | assumption | (simp [go_sem, c1_0_0, f1_0_0, c1_0_1, f1_0_1, c1_1_0, f1_1_0, c1_1_1, f1_1_1, c1_1_2, f1_1_2, hz1_0, hz1_1, ne0, ne1]; done)
  have c2_1_2 : w2.cell? ⟨w.heap.size + 1, 2, none⟩ = some (.int .i64 eX) := by
    rw [hc2 _ _ (by first | omega | (simp only [World.size_alloc, World.size_setCell]; omega))]
    first | assumption | (simp [go_sem, c1_0_0, f1_0_0, c1_0_1, f1_0_1, c1_1_0, f1_1_0, c1_1_1, f1_1_1, c1_1_2, f1_1_2, hz1_0, hz1_1, ne0, ne1]; done)
  have f2_1_2 : w2.frozen? ⟨w.heap.size + 1, 2, none⟩ = false := by
    rw [hf2 _ _ (by first | omega | (simp only [World.size_alloc, World.size_setCell]; omega))]
    first | assumption | (simp [go_sem, c1_0_0, f1_0_0, c1_0_1, f1_0_1, c1_1_0, f1_1_0, c1_1_1, f1_1_1, c1_1_2, f1_1_2, hz1_0, hz1_1, ne0, ne1]; done)
  have c2_2_0 : w2.cell? ⟨w1.heap.size, 0, none⟩ = some (.bool nS) := by
    rw [hc2 _ _ (by first | omega | (simp only [World.size_alloc, World.size_setCell]; omega))]
    first | assumption | (simp [go_sem, c1_0_0, f1_0_0, c1_0_1, f1_0_1, c1_1_0, f1_1_0, c1_1_1, f1_1_1, c1_1_2, f1_1_2, hz1_0, hz1_1, ne0, ne1]; done)
  have f2_2_0 : w2.frozen? ⟨w1.heap.size, 0, none⟩ = false := by
    rw [hf2 _ _ (by first | omega | (simp only [World.size_alloc, World.size_setCell]; omega))]
    first | assumption | (simp [go_sem, c1_0_0, f1_0_0, c1_0_1, f1_0_1, c1_1_0, f1_1_0, c1_1_1, f1_1_1, c1_1_2, f1_1_2, hz1_0, hz1_1, ne0, ne1]; done)
  have c2_2_1 : w2.cell? ⟨w1.heap.size, 1, none⟩ = some (.slice aS (ws XS).length cS) := by
    rw [hc2 _ _ (by first | omega | (simp only [World.size_alloc, World.size_setCell]; omega))]
    first | assumption | (simp [go_sem, c1_0_0, f1_0_0, c1_0_1, f1_0_1, c1_1_0, f1_1_0, c1_1_1, f1_1_1, c1_1_2, f1_1_2, hz1_0, hz1_1, ne0, ne1]; done)
  have f2_2_1 : w2.frozen? ⟨w1.heap.size, 1, none⟩ = false := by
    rw [hf2 _ _ (by first | omega | (simp only [World.size_alloc, World.size_setCell]; omega))]
    first | assumption | (simp [go_sem, c1_0_0, f1_0_0, c1_0_1, f1_0_1, c1_1_0, f1_1_0, c1_1_1, f1_1_1, c1_1_2, f1_1_2, hz1_0, hz1_1, ne0, ne1]; done)
  have c2_2_2 : w2.cell? ⟨w1.heap.size, 2, none⟩ = some (.int .i64 eS) := by
    rw [hc2 _ _ (by first | omega | (simp only [World.size_alloc, World.size_setCell]; omega))]
    first | assumption | (simp [go_sem, c1_0_0, f1_0_0, c1_0_1, f1_0_1, c1_1_0, f1_1_0, c1_1_1, f1_1_1, c1_1_2, f1_1_2, hz1_0, hz1_1, ne0, ne1]; done)
  have f2_2_2 : w2.frozen? ⟨w1.heap.size, 2, none⟩ = false := by
    rw [hf2 _ _ (by first | omega | (simp only [World.size_alloc, World.size_setCell]; omega))]
    first | assumption | (simp [go_sem, c1_0_0, f1_0_0, c1_0_1, f1_0_1, c1_1_0, f1_1_0, c1_1_1, f1_1_1, c1_1_2, f1_1_2, hz1_0, hz1_1, ne0, ne1]; done)
  clear hc2 hf2 c1_0_0 f1_0_0 c1_0_1 f1_0_1 c1_1_0 f1_1_0 c1_1_1 f1_1_1 c1_1_2 f1_1_2
  go_wp2
  have SS := S2.out
  exact bodyPost_ret (v := .bool true) (by simp [results, Try.results37, go_sem, c2_0_0, f2_0_0, c2_0_1, f2_0_1, c2_1_0, f2_1_0, c2_1_1, f2_1_1, c2_1_2, f2_1_2, c2_2_0, f2_2_0, c2_2_1, f2_2_1, c2_2_2, f2_2_2, hz2_0, hz2_1, hz2_2, ne0, ne1]) rfl ⟨rfl, (by repeat (first | exact Below.refl _ _ | assumption | exact Nat.le_refl _ | (simp only [World.size_alloc, World.size_setCell]; omega) | omega | refine Below.alloc ?_ ?_ _ | refine Below.setCell ?_ ?_ _ | refine Below.drew ?_))⟩
set_option maxHeartbeats 16000000 in
theorem near_off (ph pl : Nat) (nX nS nO : Bool) (aX : Option Addr) (XX cX XS XO : Nat) (eX eS eO by0 : Int) (w : World) (AX : Arg w aX (ws XX).length cX (ws XX)) (lX : (ws XX).length ≤ 8192) (lS : (ws XS).length ≤ 8192) (lO : (ws XO).length ≤ 8192) (hw : IntKind.i64.wrap (eO + by0) = eO + by0) (hm2 : ((((ws XO).length : Nat) : Int) == 0) = false) (cv : Int) (hcv : decide (cv ≤ 0) = true)
    (HW : Hid (∀ u, Calls Try.prog 34 #[.agg #[.float .f64 ph, .float .f64 pl]] u fun r w' => (∃ v, r = .returned (.tuple #[.agg #[.bool nS, v, .int .i64 eS], .bool true]) ∧ Nt u.heap.size w' v XS) ∧ Below u.heap.size u w'))
    (HS : Hid (∀ u a b c d, Arg u a (ws XS).length c (ws XS) → Arg u b (ws XX).length d (ws XX) → Calls Try.prog 60 #[.agg #[.bool nS, .slice a (ws XS).length c, .int .i64 eS], .agg #[.bool nX, .slice b (ws XX).length d, .int .i64 eX]] u fun r w' => (∃ v, r = .returned (.tuple #[.agg #[.bool nO, v, .int .i64 eO], .int .i64 0]) ∧ Nt u.heap.size w' v XO) ∧ Below u.heap.size u w'))
    (HC : Hid (∀ u a b c d, Arg u a (ws XO).length c (ws XO) → Arg u b (ws XX).length d (ws XX) → Calls Try.prog 49 #[.agg #[.bool false, .slice a (ws XO).length c, .int .i64 (eO + by0)], .agg #[.bool false, .slice b (ws XX).length d, .int .i64 eX]] u fun r w' => r = .returned (.int .i64 cv) ∧ Below u.heap.size u w')) :
    Calls Try.prog 37 #[.agg #[.float .f64 ph, .float .f64 pl], .agg #[.bool nX, .slice aX (ws XX).length cX, .int .i64 eX], .int .i64 by0] w fun r w' => r = .returned (.bool true) ∧ Below w.heap.size w w' := by
  go_enter Try.func37, Try.ntmps37
  go_wp2_with fail
  refine (Calls.mono (HW.out _)) ?_
  rintro r w1 ⟨⟨v1, rfl, N1⟩, hb1⟩
  obtain ⟨aS, cS, rfl, AS⟩ := N1.arg (by omega)
  clear N1
  clear HW
  have hy1 : w.heap.size ≤ w1.heap.size := by
    have := hb1.size
    try simp only [World.size_alloc, World.size_setCell] at this
    omega
  have hz1_0 : w.heap.size < w1.heap.size := by
    have := hb1.size
    try simp only [World.size_alloc, World.size_setCell] at this
    omega
  have hz1_1 : w.heap.size + 1 < w1.heap.size := by
    have := hb1.size
    try simp only [World.size_alloc, World.size_setCell] at this
    omega
  have B1 := Aside.intro (Below.trans (B := w.heap.size) (a := w) (by repeat (first | exact Below.refl _ _ | assumption | exact Nat.le_refl _ | (simp only [World.size_alloc, World.size_setCell]; omega) | omega | refine Below.alloc ?_ ?_ _ | refine Below.setCell ?_ ?_ _ | refine Below.drew ?_)) (hb1.mono (by first | omega | (simp only [World.size_alloc, World.size_setCell]; omega))))
  have S1 := B1
  replace AX := AX.below B1.out
  obtain ⟨hc1, hf1⟩ := bcell hb1
  clear hb1 B1
  have c1_0_0 : w1.cell? ⟨w.heap.size, 0, none⟩ = some (.float .f64 ph) := by
    rw [hc1 _ _ (by first | omega | (simp only [World.size_alloc, World.size_setCell]; omega))]
    first | assumption | (simp [go_sem]; done)
  have f1_0_0 : w1.frozen? ⟨w.heap.size, 0, none⟩ = false := by
    rw [hf1 _ _ (by first | omega | (simp only [World.size_alloc, World.size_setCell]; omega))]
    first | assumption | (simp [go_sem]; done)
  have c1_0_1 : w1.cell? ⟨w.heap.size, 1, none⟩ = some (.float .f64 pl) := by
    rw [hc1 _ _ (by first | omega | (simp only [World.size_alloc, World.size_setCell]; omega))]
    first | assumption | (simp [go_sem]; done)
  have f1_0_1 : w1.frozen? ⟨w.heap.size, 1, none⟩ = false := by
    rw [hf1 _ _ (by first | omega | (simp only [World.size_alloc, World.size_setCell]; omega))]
    first | assumption | (simp [go_sem]; done)
  have c1_1_0 : w1.cell? ⟨w.heap.size + 1, 0, none⟩ = some (.bool nX) := by
    rw [hc1 _ _ (by first | omega | (simp only [World.size_alloc, World.size_setCell]; omega))]
    first | assumption | (simp [go_sem]; done)
  have f1_1_0 : w1.frozen? ⟨w.heap.size + 1, 0, none⟩ = false := by
    rw [hf1 _ _ (by first | omega | (simp only [World.size_alloc, World.size_setCell]; omega))]
    first | assumption | (simp [go_sem]; done)
  have c1_1_1 : w1.cell? ⟨w.heap.size + 1, 1, none⟩ = some (.slice aX (ws XX).length cX) := by
    rw [hc1 _ _ (by first | omega | (simp only [World.size_alloc, World.size_setCell]; omega))]
    first | assumption | (simp [go_sem]; done)
  have f1_1_1 : w1.frozen? ⟨w.heap.size + 1, 1, none⟩ = false := by
    rw [hf1 _ _ (by first | omega | (simp only [World.size_alloc, World.size_setCell]; omega))]
    first | assumption | (simp [go_sem]; done)
  have c1_1_2 : w1.cell? ⟨w.heap.size + 1, 2, none⟩ = some (.int .i64 eX) := by
    rw [hc1 _ _ (by first | omega | (simp only [World.size_alloc, World.size_setCell]; omega))]
    first | assumption | (simp [go_sem]; done)
  have f1_1_2 : w1.frozen? ⟨w.heap.size + 1, 2, none⟩ = false := by
    rw [hf1 _ _ (by first | omega | (simp only [World.size_alloc, World.size_setCell]; omega))]
    first | assumption | (simp [go_sem]; done)
  clear hc1 hf1 
  have ne0 : w.heap.size ≠ w1.heap.size := by omega
  have ne1 : w.heap.size + 1 ≠ w1.heap.size := by omega
  go_wp2_with fail
  refine (Calls.mono (HS.out _ _ _ _ _ (AS.below (by repeat (first | exact Below.refl _ _ | assumption | exact Nat.le_refl _ | (simp only [World.size_alloc, World.size_setCell]; omega) | omega | refine Below.alloc ?_ ?_ _ | refine Below.setCell ?_ ?_ _ | refine Below.drew ?_))) (AX.below (by repeat (first | exact Below.refl _ _ | assumption | exact Nat.le_refl _ | (simp only [World.size_alloc, World.size_setCell]; omega) | omega | refine Below.alloc ?_ ?_ _ | refine Below.setCell ?_ ?_ _ | refine Below.drew ?_))))) ?_
  rintro r w2 ⟨⟨v2, rfl, N2⟩, hb2⟩
  obtain ⟨aO, cO, rfl, AO⟩ := N2.arg (by omega)
  clear N2
  clear HS
  have hy2 : w1.heap.size ≤ w2.heap.size := by
    have := hb2.size
    try simp only [World.size_alloc, World.size_setCell] at this
    omega
  have hz2_0 : w.heap.size < w2.heap.size := by
    have := hb2.size
    try simp only [World.size_alloc, World.size_setCell] at this
    omega
  have hz2_1 : w.heap.size + 1 < w2.heap.size := by
    have := hb2.size
    try simp only [World.size_alloc, World.size_setCell] at this
    omega
  have hz2_2 : w1.heap.size < w2.heap.size := by
    have := hb2.size
    try simp only [World.size_alloc, World.size_setCell] at this
    omega
  have B2 := Aside.intro (Below.trans (B := w1.heap.size) (a := w1) (by repeat (first | exact Below.refl _ _ | assumption | exact Nat.le_refl _ | (simp only [World.size_alloc, World.size_setCell]; omega) | omega | refine Below.alloc ?_ ?_ _ | refine Below.setCell ?_ ?_ _ | refine Below.drew ?_)) (hb2.mono (by first | omega | (simp only [World.size_alloc, World.size_setCell]; omega))))
  have S2 := Aside.intro (S1.out.trans (B2.out.mono S1.out.size))
  clear S1
  replace AX := AX.below B2.out
  replace AS := AS.below B2.out
  obtain ⟨hc2, hf2⟩ := bcell hb2
  clear hb2 B2
  have c2_0_0 : w2.cell? ⟨w.heap.size, 0, none⟩ = some (.float .f64 ph) := by
    rw [hc2 _ _ (by first | omega | (simp only [World.size_alloc, World.size_setCell]; omega))]
    first | assumption | (simp [go_sem, c1_0_0, f1_0_0, c1_0_1, f1_0_1, c1_1_0, f1_1_0, c1_1_1, f1_1_1, c1_1_2, f1_1_2, hz1_0, hz1_1, ne0, ne1]; done)
  have f2_0_0 : w2.frozen? ⟨w.heap.size, 0, none⟩ = false := by
    rw [hf2 _ _ (by first | omega | (simp only [World.size_alloc, World.size_setCell]; omega))]
    first | assumption | (simp [go_sem, c1_0_0, f1_0_0, c1_0_1, f1_0_1, c1_1_0, f1_1_0, c1_1_1, f1_1_1, c1_1_2, f1_1_2, hz1_0, hz1_1, ne0, ne1]; done)
  have c2_0_1 : w2.cell? ⟨w.heap.size, 1, none⟩ = some (.float .f64 pl) := by
    rw [hc2 _ _ (by first | omega | (simp only [World.size_alloc, World.size_setCell]; omega))]
    first | assumption | (simp [go_sem, c1_0_0, f1_0_0, c1_0_1, f1_0_1, c1_1_0, f1_1_0, c1_1_1, f1_1_1, c1_1_2, f1_1_2, hz1_0, hz1_1, ne0, ne1]; done)
  have f2_0_1 : w2.frozen? ⟨w.heap.size, 1, none⟩ = false := by
    rw [hf2 _ _ (by first | omega | (simp only [World.size_alloc, World.size_setCell]; omega))]
    first | assumption | (simp [go_sem, c1_0_0, f1_0_0, c1_0_1, f1_0_1, c1_1_0, f1_1_0, c1_1_1, f1_1_1, c1_1_2, f1_1_2, hz1_0, hz1_1, ne0, ne1]; done)
  have c2_1_0 : w2.cell? ⟨w.heap.size + 1, 0, none⟩ = some (.bool nX) := by
    rw [hc2 _ _ (by first | omega | (simp only [World.size_alloc, World.size_setCell]; omega))]
    first | assumption | (simp [go_sem, c1_0_0, f1_0_0, c1_0_1, f1_0_1, c1_1_0, f1_1_0, c1_1_1, f1_1_1, c1_1_2, f1_1_2, hz1_0, hz1_1, ne0, ne1]; done)
  have f2_1_0 : w2.frozen? ⟨w.heap.size + 1, 0, none⟩ = false := by
    rw [hf2 _ _ (by first | omega | (simp only [World.size_alloc, World.size_setCell]; omega))]
    first | assumption | (simp [go_sem, c1_0_0, f1_0_0, c1_0_1, f1_0_1, c1_1_0, f1_1_0, c1_1_1, f1_1_1, c1_1_2, f1_1_2, hz1_0, hz1_1, ne0, ne1]; done)
  have c2_1_1 : w2.cell? ⟨w.heap.size + 1, 1, none⟩ = some (.slice aX (ws XX).length cX) := by
    rw [hc2 _ _ (by first | omega | (simp only [World.size_alloc, World.size_setCell]; omega))]
    first | assumption | (simp [go_sem, c1_0_0, f1_0_0, c1_0_1, f1_0_1, c1_1_0, f1_1_0, c1_1_1, f1_1_1, c1_1_2, f1_1_2, hz1_0, hz1_1, ne0, ne1]; done)
  have f2_1_1 : w2.frozen? ⟨w.heap.size + 1, 1, none⟩ = false := by
    rw [hf2 _ _ (by first | omega | (simp only [World.size_alloc, World.size_setCell]; omega))]
    first | assumption | (simp [go_sem, c1_0_0, f1_0_0, c1_0_1, f1_0_1, c1_1_0, f1_1_0, c1_1_1, f1_1_1, c1_1_2, f1_1_2, hz1_0, hz1_1, ne0, ne1]; done)
  have c2_1_2 : w2.cell? ⟨w.heap.size + 1, 2, none⟩ = some (.int .i64 eX) := by
    rw [hc2 _ _ (by first | omega | (simp only [World.size_alloc, World.size_setCell]; omega))]
    first | assumption | (simp [go_sem, c1_0_0, f1_0_0, c1_0_1, f1_0_1, c1_1_0, f1_1_0, c1_1_1, f1_1_1, c1_1_2, f1_1_2, hz1_0, hz1_1, ne0, ne1]; done)
  have f2_1_2 : w2.frozen? ⟨w.heap.size + 1, 2, none⟩ = false := by
    rw [hf2 _ _ (by first | omega | (simp only [World.size_alloc, World.size_setCell]; omega))]
    first | assumption | (simp [go_sem, c1_0_0, f1_0_0, c1_0_1, f1_0_1, c1_1_0, f1_1_0, c1_1_1, f1_1_1, c1_1_2, f1_1_2, hz1_0, hz1_1, ne0, ne1]; done)
  have c2_2_0 : w2.cell? ⟨w1.heap.size, 0, none⟩ = some (.bool nS) := by
    rw [hc2 _ _ (by first | omega | (simp only [World.size_alloc, World.size_setCell]; omega))]
    first | assumption | (simp [go_sem, c1_0_0, f1_0_0, c1_0_1, f1_0_1, c1_1_0, f1_1_0, c1_1_1, f1_1_1, c1_1_2, f1_1_2, hz1_0, hz1_1, ne0, ne1]; done)
  have f2_2_0 : w2.frozen? ⟨w1.heap.size, 0, none⟩ = false := by
    rw [hf2 _ _ (by first | omega | (simp only [World.size_alloc, World.size_setCell]; omega))]
    first | assumption | (simp [go_sem, c1_0_0, f1_0_0, c1_0_1, f1_0_1, c1_1_0, f1_1_0, c1_1_1, f1_1_1, c1_1_2, f1_1_2, hz1_0, hz1_1, ne0, ne1]; done)
  have c2_2_1 : w2.cell? ⟨w1.heap.size, 1, none⟩ = some (.slice aS (ws XS).length cS) := by
    rw [hc2 _ _ (by first | omega | (simp only [World.size_alloc, World.size_setCell]; omega))]
    first | assumption | (simp [go_sem, c1_0_0, f1_0_0, c1_0_1, f1_0_1, c1_1_0, f1_1_0, c1_1_1, f1_1_1, c1_1_2, f1_1_2, hz1_0, hz1_1, ne0, ne1]; done)
  have f2_2_1 : w2.frozen? ⟨w1.heap.size, 1, none⟩ = false := by
    rw [hf2 _ _ (by first | omega | (simp only [World.size_alloc, World.size_setCell]; omega))]
    first | assumption | (simp [go_sem, c1_0_0, f1_0_0, c1_0_1, f1_0_1, c1_1_0, f1_1_0, c1_1_1, f1_1_1, c1_1_2, f1_1_2, hz1_0, hz1_1, ne0, ne1]; done)
  have c2_2_2 : w2.cell? ⟨w1.heap.size, 2, none⟩ = some (.int .i64 eS) := by
    rw [hc2 _ _ (by first | omega | (simp only [World.size_alloc, World.size_setCell]; omega))]
    first | assumption | (simp [go_sem, c1_0_0, f1_0_0, c1_0_1, f1_0_1, c1_1_0, f1_1_0, c1_1_1, f1_1_1, c1_1_2, f1_1_2, hz1_0, hz1_1, ne0, ne1]; done)
  have f2_2_2 : w2.frozen? ⟨w1.heap.size, 2, none⟩ = false := by
    rw [hf2 _ _ (by first | omega | (simp only [World.size_alloc, World.size_setCell]; omega))]
    first | assumption | (simp [go_sem, c1_0_0, f1_0_0, c1_0_1, f1_0_1, c1_1_0, f1_1_0, c1_1_1, f1_1_1, c1_1_2, f1_1_2, hz1_0, hz1_1, ne0, ne1]; done)
  clear hc2 hf2 c1_0_0 f1_0_0 c1_0_1 f1_0_1 c1_1_0 f1_1_0 c1_1_1 f1_1_1 c1_1_2 f1_1_2
  obtain ⟨U1, hU1⟩ : ∃ U, U = (w2.alloc (.cells #[.bool nO, .slice aO (ws XO).length cO, .int .i64 eO] 43)).alloc (.cells #[.bool false, .slice aO (ws XO).length cO, .int .i64 (eO + by0)] 43) := ⟨_, rfl⟩
  have BU : Below w2.heap.size w2 U1 := by rw [hU1]; exact (below_alloc w2 _).alloc (by simp) _
  have hsU : U1.heap.size = w2.heap.size + 2 := by rw [hU1]; simp
  have Z1 := Aside.intro (show Sf w U1 (w.heap.size + 1) (w2.heap.size + 1) by0 nX nO aX aO XX cX XO cO eX eO from ⟨S2.out.trans (BU.mono S2.out.size), by omega, by omega, ⟨by rw [(bcell BU).1 _ _ (by omega)]; exact c2_1_0, by rw [(bcell BU).1 _ _ (by omega)]; exact c2_1_1, by rw [(bcell BU).1 _ _ (by omega)]; exact c2_1_2, by rw [hU1]; simp [go_sem], by rw [hU1]; simp [go_sem], by rw [hU1]; simp [go_sem]⟩, AX.below BU, AO.below BU⟩)
  clear BU hsU
  go_upto_region 6 with fail
  rw [← hU1]
  clear hU1 S2 AX AS AO c2_0_0 f2_0_0 c2_0_1 f2_0_1 c2_1_0 f2_1_0 c2_1_1 f2_1_1 c2_1_2 f2_1_2 c2_2_0 f2_2_0 c2_2_1 f2_2_1 c2_2_2 f2_2_2 hy1 hy2 hz1_0 hz1_1 hz2_0 hz2_1 hz2_2 ne0 ne1
  obtain ⟨h, hh⟩ : ∃ h, w2.heap.size + 1 = h := ⟨_, rfl⟩
  rw [hh] at Z1 ⊢
  clear hh
  obtain ⟨g, hg⟩ : ∃ g, w.heap.size + 1 = g := ⟨_, rfl⟩
  rw [hg] at Z1 ⊢
  clear hg
  go_cut [6] from 39 to 50 (fun v wx => v = .bool true ∧ Aside (Sf w wx g h by0 nX nO aX aO XX cX XO cO eX eO))
  case first =>
    obtain ⟨k0, k1, k2, k3, k4, k5⟩ := Z1.out.facts
    go_region_held3 (fun w' => w'.cell? ⟨g, 0, none⟩ = some (.bool nX) ∧ w'.cell? ⟨g, 1, none⟩ = some (.slice aX (ws XX).length cX) ∧ w'.cell? ⟨g, 2, none⟩ = some (.int .i64 eX) ∧ w'.cell? ⟨h, 0, none⟩ = some (.bool false) ∧ w'.cell? ⟨h, 1, none⟩ = some (.slice aO (ws XO).length cO) ∧ w'.cell? ⟨h, 2, none⟩ = some (.int .i64 (eO + by0))) (go_keep) (first
      | (go_at_call 49
         first | with_reducible refine (Calls.mono (HC.out _ aO aX cO cX T1.out.AO T1.out.AX)) ?_ | with_reducible refine (Calls.mono (HC.out _ aO aX cO cX (T1.out.AO.below ((Below.refl _ _).drew)) (T1.out.AX.below ((Below.refl _ _).drew)))) ?_
         rintro r x2 ⟨rfl, hb⟩
         have hb1 : Below x1.heap.size x1 x2 := by first | exact hb | exact ((Below.refl _ x1).drew).trans (hb.mono (Nat.le_refl _)) | exact ((Below.refl _ x1).drew).drew.trans (hb.mono (Nat.le_refl _))
         have T2 := Aside.intro (T1.out.below hb1)
         obtain ⟨m2_0, m2_1, m2_2, m2_3, m2_4, m2_5⟩ := T2.out.facts
         clear hb hb1)
      | (go_at_call 50
         with_reducible refine (Calls.mono (size_law _ _ _ _ _ _)) ?_
         rintro r x1 ⟨rfl, hb⟩
         have hb1 : Below U1.heap.size U1 x1 := by first | exact hb | exact ((Below.refl _ U1).drew).trans (hb.mono (Nat.le_refl _)) | exact ((Below.refl _ U1).drew).drew.trans (hb.mono (Nat.le_refl _))
         have T1 := Aside.intro (Z1.out.below hb1)
         obtain ⟨m1_0, m1_1, m1_2, m1_3, m1_4, m1_5⟩ := T1.out.facts
         clear hb hb1))
    all_goals (
      go_wp2_with fail
      go_meet
      case rel => exact ⟨rfl, T2⟩)
  case rest =>
    obtain ⟨rfl, Z2⟩ := hcut
    obtain ⟨U2, hU⟩ : ∃ U, U = wc := ⟨_, rfl⟩
    subst hU
    clear Z1
    go_wp2
    exact bodyPost_ret (v := .bool true) (by simp [results, Try.results37, go_sem]) rfl ⟨rfl, Z2.out.bel⟩
end Go.Proofs.Ythilnddhehbjiab
