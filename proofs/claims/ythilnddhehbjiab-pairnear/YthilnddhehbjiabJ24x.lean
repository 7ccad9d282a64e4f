/- The law's sums: P5.6 of Sum, Quick. -/
import Derived.Test.YthilnddhehbjiabJ37x
import Derived.BigQuiet
import Derived.Deep.CutRange
import Derived.Deep.RegionHeld3
namespace Go.Proofs.Ythilnddhehbjiab
open Go.RowKit J
set_option linter.unusedVariables false
set_option maxRecDepth 20000
set_option linter.unusedSimpArgs false
attribute [local go_sem] st_float

/-- Three Dyads in blocks of their own, and what they stand for. -/
structure Tr (w v : World) (g h : Nat) (nX nY nS : Bool) (aX aY aS : Option Addr) (XX XY XS cX cY cS : Nat) (eX eY eS : Int) : Prop where
  bel : Below w.heap.size w v
  lt1 : g + 1 < v.heap.size
  lt2 : h < v.heap.size
  facts : v.cell? ⟨g, 0, none⟩ = some (.bool nX) ∧ v.cell? ⟨g, 1, none⟩ = some (.slice aX (ws XX).length cX) ∧ v.cell? ⟨g, 2, none⟩ = some (.int .i64 eX) ∧ v.cell? ⟨g + 1, 0, none⟩ = some (.bool nY) ∧ v.cell? ⟨g + 1, 1, none⟩ = some (.slice aY (ws XY).length cY) ∧ v.cell? ⟨g + 1, 2, none⟩ = some (.int .i64 eY) ∧ v.cell? ⟨h, 0, none⟩ = some (.bool nS) ∧ v.cell? ⟨h, 1, none⟩ = some (.slice aS (ws XS).length cS) ∧ v.cell? ⟨h, 2, none⟩ = some (.int .i64 eS)
  aX : Arg v aX (ws XX).length cX (ws XX)
  aY : Arg v aY (ws XY).length cY (ws XY)
  aS : Arg v aS (ws XS).length cS (ws XS)
theorem Tr.below {w v y : World} {g h : Nat} {nX nY nS : Bool} {aX aY aS : Option Addr} {XX XY XS cX cY cS : Nat} {eX eY eS : Int} (t : Tr w v g h nX nY nS aX aY aS XX XY XS cX cY cS eX eY eS) (hb : Below v.heap.size v y) : Tr w y g h nX nY nS aX aY aS XX XY XS cX cY cS eX eY eS := by
  have h1 := t.lt1
  have h2 := t.lt2
  obtain ⟨f0, f1, f2, f3, f4, f5, f6, f7, f8⟩ := t.facts
  obtain ⟨hc, _⟩ := bcell hb
  have q1 : g < v.heap.size := by omega
  have hs := hb.size
  exact ⟨t.bel.trans (hb.mono t.bel.size), by omega, by omega, ⟨by rw [hc _ _ q1]; exact f0, by rw [hc _ _ q1]; exact f1, by rw [hc _ _ q1]; exact f2, by rw [hc _ _ h1]; exact f3, by rw [hc _ _ h1]; exact f4, by rw [hc _ _ h1]; exact f5, by rw [hc _ _ h2]; exact f6, by rw [hc _ _ h2]; exact f7, by rw [hc _ _ h2]; exact f8⟩, t.aX.below hb, t.aY.below hb, t.aS.below hb⟩
theorem Tr.begin {w v : World} {g h : Nat} {nX nY nS : Bool} {aX aY aS : Option Addr} {XX XY XS cX cY cS : Nat} {eX eY eS : Int} (U : World) (hb : Below w.heap.size w v) (hh : v.heap.size = h) (hg : g + 1 < h)
    (f : v.cell? ⟨g, 0, none⟩ = some (.bool nX) ∧ v.cell? ⟨g, 1, none⟩ = some (.slice aX (ws XX).length cX) ∧ v.cell? ⟨g, 2, none⟩ = some (.int .i64 eX) ∧ v.cell? ⟨g + 1, 0, none⟩ = some (.bool nY) ∧ v.cell? ⟨g + 1, 1, none⟩ = some (.slice aY (ws XY).length cY) ∧ v.cell? ⟨g + 1, 2, none⟩ = some (.int .i64 eY))
    (AX : Arg v aX (ws XX).length cX (ws XX)) (AY : Arg v aY (ws XY).length cY (ws XY)) (AS : Arg v aS (ws XS).length cS (ws XS)) (hU : U = v.alloc (.cells #[.bool nS, .slice aS (ws XS).length cS, .int .i64 eS] 43)) : Tr w U g h nX nY nS aX aY aS XX XY XS cX cY cS eX eY eS := by
  have B : Below v.heap.size v U := by rw [hU]; exact below_alloc v _
  obtain ⟨hc, _⟩ := bcell B
  obtain ⟨f0, f1, f2, f3, f4, f5⟩ := f
  have q0 : g < v.heap.size := by omega
  have q1 : g + 1 < v.heap.size := by omega
  have hs : U.heap.size = h + 1 := by rw [hU, ← hh]; simp
  refine ⟨hb.trans (B.mono hb.size), by omega, by omega, ⟨by rw [hc _ _ q0]; exact f0, by rw [hc _ _ q0]; exact f1, by rw [hc _ _ q0]; exact f2, by rw [hc _ _ q1]; exact f3, by rw [hc _ _ q1]; exact f4, by rw [hc _ _ q1]; exact f5, ?_, ?_, ?_⟩, AX.below B, AY.below B, AS.below B⟩
  · rw [hU, ← hh]; simp [go_sem]
  · rw [hU, ← hh]; simp [go_sem]
  · rw [hU, ← hh]; simp [go_sem]

set_option maxHeartbeats 4000000 in
theorem sums_off_ff (fa fb : Nat) (nX nY : Bool) (aX aY : Option Addr) (XX XY cX cY : Nat) (eX eY : Int) (w : World) (AX : Arg w aX (ws XX).length cX (ws XX)) (AY : Arg w aY (ws XY).length cY (ws XY)) (lX : (ws XX).length ≤ 8192) (lY : (ws XY).length ≤ 8192)
    (H1 : Hid (∀ u a c, Arg u a (ws XX).length c (ws XX) → Calls Try.prog 47 #[.agg #[.bool nX, .slice a (ws XX).length c, .int .i64 eX], .int .i64 1022] u fun r w' => r = .returned (.bool false) ∧ Below u.heap.size u w'))
    (H2 : Hid (∀ u a c, Arg u a (ws XY).length c (ws XY) → Calls Try.prog 47 #[.agg #[.bool nY, .slice a (ws XY).length c, .int .i64 eY], .int .i64 1022] u fun r w' => r = .returned (.bool false) ∧ Below u.heap.size u w')) :
    Calls Try.prog 30 #[.float .f64 fa, .float .f64 fb, .agg #[.bool nX, .slice aX (ws XX).length cX, .int .i64 eX], .agg #[.bool nY, .slice aY (ws XY).length cY, .int .i64 eY]] w fun r w' => r = .returned (.bool true) ∧ Below w.heap.size w w' := by
  go_enter Try.func30, Try.ntmps30
  go_wp2_with fail
  refine (Calls.mono (H1.out _ _ _ (AX.below (by repeat (first | exact Below.refl _ _ | assumption | exact Nat.le_refl _ | (simp only [World.size_alloc, World.size_setCell]; omega) | omega | refine Below.alloc ?_ ?_ _ | refine Below.setCell ?_ ?_ _ | refine Below.drew ?_))))) ?_
  rintro r w1 ⟨rfl, hb1⟩
  clear H1
  have hy1 : w.heap.size ≤ w1.heap.size := by
    have := hb1.size
    try simp only [World.size_alloc, World.size_setCell] at this
    omega
  have hz1_0 : w.heap.size < w1.heap.size := by
    have := hb1.size
    try simp only [World.size_alloc, World.size_setCell] at this
    omega
  have hz1_1 : w.heap.size + 1 < w1.heap.size := by
    have := hb1.size
    try simp only [World.size_alloc, World.size_setCell] at this
    omega
  have B1 := Aside.intro (Below.trans (B := w.heap.size) (a := w) (by repeat (first | exact Below.refl _ _ | assumption | exact Nat.le_refl _ | (simp only [World.size_alloc, World.size_setCell]; omega) | omega | refine Below.alloc ?_ ?_ _ | refine Below.setCell ?_ ?_ _ | refine Below.drew ?_)) (hb1.mono (by first | omega | (simp only [World.size_alloc, World.size_setCell]; omega))))
  have S1 := B1
  replace AX := AX.below B1.out
  replace AY := AY.below B1.out
  obtain ⟨hc1, hf1⟩ := bcell hb1
  clear hb1 B1
  have c1_0_0 : w1.cell? ⟨w.heap.size, 0, none⟩ = some (.bool nX) := by
    rw [hc1 _ _ (by first | omega | (simp only [World.size_alloc, World.size_setCell]; omega))]
    first | assumption | (simp [go_sem]; done)
  have f1_0_0 : w1.frozen? ⟨w.heap.size, 0, none⟩ = false := by
    rw [hf1 _ _ (by first | omega | (simp only [World.size_alloc, World.size_setCell]; omega))]
    first | assumption | (simp [go_sem]; done)
  have c1_0_1 : w1.cell? ⟨w.heap.size, 1, none⟩ = some (.slice aX (ws XX).length cX) := by
    rw [hc1 _ _ (by first | omega | (simp only [World.size_alloc, World.size_setCell]; omega))]
    first | assumption | (simp [go_sem]; done)
  have f1_0_1 : w1.frozen? ⟨w.heap.size, 1, none⟩ = false := by
    rw [hf1 _ _ (by first | omega | (simp only [World.size_alloc, World.size_setCell]; omega))]
    first | assumption | (simp [go_sem]; done)
  have c1_0_2 : w1.cell? ⟨w.heap.size, 2, none⟩ = some (.int .i64 eX) := by
    rw [hc1 _ _ (by first | omega | (simp only [World.size_alloc, World.size_setCell]; omega))]
    first | assumption | (simp [go_sem]; done)
  have f1_0_2 : w1.frozen? ⟨w.heap.size, 2, none⟩ = false := by
    rw [hf1 _ _ (by first | omega | (simp only [World.size_alloc, World.size_setCell]; omega))]
    first | assumption | (simp [go_sem]; done)
  have c1_1_0 : w1.cell? ⟨w.heap.size + 1, 0, none⟩ = some (.bool nY) := by
    rw [hc1 _ _ (by first | omega | (simp only [World.size_alloc, World.size_setCell]; omega))]
    first | assumption | (simp [go_sem]; done)
  have f1_1_0 : w1.frozen? ⟨w.heap.size + 1, 0, none⟩ = false := by
    rw [hf1 _ _ (by first | omega | (simp only [World.size_alloc, World.size_setCell]; omega))]
    first | assumption | (simp [go_sem]; done)
  have c1_1_1 : w1.cell? ⟨w.heap.size + 1, 1, none⟩ = some (.slice aY (ws XY).length cY) := by
    rw [hc1 _ _ (by first | omega | (simp only [World.size_alloc, World.size_setCell]; omega))]
    first | assumption | (simp [go_sem]; done)
  have f1_1_1 : w1.frozen? ⟨w.heap.size + 1, 1, none⟩ = false := by
    rw [hf1 _ _ (by first | omega | (simp only [World.size_alloc, World.size_setCell]; omega))]
    first | assumption | (simp [go_sem]; done)
  have c1_1_2 : w1.cell? ⟨w.heap.size + 1, 2, none⟩ = some (.int .i64 eY) := by
    rw [hc1 _ _ (by first | omega | (simp only [World.size_alloc, World.size_setCell]; omega))]
    first | assumption | (simp [go_sem]; done)
  have f1_1_2 : w1.frozen? ⟨w.heap.size + 1, 2, none⟩ = false := by
    rw [hf1 _ _ (by first | omega | (simp only [World.size_alloc, World.size_setCell]; omega))]
    first | assumption | (simp [go_sem]; done)
  clear hc1 hf1 
  go_wp2_with fail
  refine (Calls.mono (H2.out _ _ _ (AY.below (by repeat (first | exact Below.refl _ _ | assumption | exact Nat.le_refl _ | (simp only [World.size_alloc, World.size_setCell]; omega) | omega | refine Below.alloc ?_ ?_ _ | refine Below.setCell ?_ ?_ _ | refine Below.drew ?_))))) ?_
  rintro r w2 ⟨rfl, hb2⟩
  clear H2
  have hy2 : w1.heap.size ≤ w2.heap.size := by
    have := hb2.size
    try simp only [World.size_alloc, World.size_setCell] at this
    omega
  have hz2_0 : w.heap.size < w2.heap.size := by
    have := hb2.size
    try simp only [World.size_alloc, World.size_setCell] at this
    omega
  have hz2_1 : w.heap.size + 1 < w2.heap.size := by
    have := hb2.size
    try simp only [World.size_alloc, World.size_setCell] at this
    omega
  have B2 := Aside.intro (Below.trans (B := w1.heap.size) (a := w1) (by repeat (first | exact Below.refl _ _ | assumption | exact Nat.le_refl _ | (simp only [World.size_alloc, World.size_setCell]; omega) | omega | refine Below.alloc ?_ ?_ _ | refine Below.setCell ?_ ?_ _ | refine Below.drew ?_)) (hb2.mono (by first | omega | (simp only [World.size_alloc, World.size_setCell]; omega))))
  have S2 := Aside.intro (S1.out.trans (B2.out.mono S1.out.size))
  clear S1
  replace AX := AX.below B2.out
  replace AY := AY.below B2.out
  obtain ⟨hc2, hf2⟩ := bcell hb2
  clear hb2 B2
  have c2_0_0 : w2.cell? ⟨w.heap.size, 0, none⟩ = some (.bool nX) := by
    rw [hc2 _ _ (by first | omega | (simp only [World.size_alloc, World.size_setCell]; omega))]
    first | assumption | (simp [go_sem, c1_0_0, f1_0_0, c1_0_1, f1_0_1, c1_0_2, f1_0_2, c1_1_0, f1_1_0, c1_1_1, f1_1_1, c1_1_2, f1_1_2, hz1_0, hz1_1]; done)
  have f2_0_0 : w2.frozen? ⟨w.heap.size, 0, none⟩ = false := by
    rw [hf2 _ _ (by first | omega | (simp only [World.size_alloc, World.size_setCell]; omega))]
    first | assumption | (simp [go_sem, c1_0_0, f1_0_0, c1_0_1, f1_0_1, c1_0_2, f1_0_2, c1_1_0, f1_1_0, c1_1_1, f1_1_1, c1_1_2, f1_1_2, hz1_0, hz1_1]; done)
  have c2_0_1 : w2.cell? ⟨w.heap.size, 1, none⟩ = some (.slice aX (ws XX).length cX) := by
    rw [hc2 _ _ (by first | omega | (simp only [World.size_alloc, World.size_setCell]; omega))]
    first | assumption | (simp [go_sem, c1_0_0, f1_0_0, c1_0_1, f1_0_1, c1_0_2, f1_0_2, c1_1_0, f1_1_0, c1_1_1, f1_1_1, c1_1_2, f1_1_2, hz1_0, hz1_1]; done)
  have f2_0_1 : w2.frozen? ⟨w.heap.size, 1, none⟩ = false := by
    rw [hf2 _ _ (by first | omega | (simp only [World.size_alloc, World.size_setCell]; omega))]
    first | assumption | (simp [go_sem, c1_0_0, f1_0_0, c1_0_1, f1_0_1, c1_0_2, f1_0_2, c1_1_0, f1_1_0, c1_1_1, f1_1_1, c1_1_2, f1_1_2, hz1_0, hz1_1]; done)
  have c2_0_2 : w2.cell? ⟨w.heap.size, 2, none⟩ = some (.int .i64 eX) := by
    rw [hc2 _ _ (by first | omega | (simp only [World.size_alloc, World.size_setCell]; omega))]
    first | assumption | (simp [go_sem, c1_0_0, f1_0_0, c1_0_1, f1_0_1, c1_0_2, f1_0_2, c1_1_0, f1_1_0, c1_1_1, f1_1_1, c1_1_2, f1_1_2, hz1_0, hz1_1]; done)
  have f2_0_2 : w2.frozen? ⟨w.heap.size, 2, none⟩ = false := by
    rw [hf2 _ _ (by first | omega | (simp only [World.size_alloc, World.size_setCell]; omega))]
    first | assumption | (simp [go_sem, c1_0_0, f1_0_0, c1_0_1, f1_0_1, c1_0_2, f1_0_2, c1_1_0, f1_1_0, c1_1_1, f1_1_1, c1_1_2, f1_1_2, hz1_0, hz1_1]; done)
  have c2_1_0 : w2.cell? ⟨w.heap.size + 1, 0, none⟩ = some (.bool nY) := by
    rw [hc2 _ _ (by first | omega | (simp only [World.size_alloc, World.size_setCell]; omega))]
    first | assumption | (simp [go_sem, c1_0_0, f1_0_0, c1_0_1, f1_0_1, c1_0_2, f1_0_2, c1_1_0, f1_1_0, c1_1_1, f1_1_1, c1_1_2, f1_1_2, hz1_0, hz1_1]; done)
  have f2_1_0 : w2.frozen? ⟨w.heap.size + 1, 0, none⟩ = false := by
    rw [hf2 _ _ (by first | omega | (simp only [World.size_alloc, World.size_setCell]; omega))]
    first | assumption | (simp [go_sem, c1_0_0, f1_0_0, c1_0_1, f1_0_1, c1_0_2, f1_0_2, c1_1_0, f1_1_0, c1_1_1, f1_1_1, c1_1_2, f1_1_2, hz1_0, hz1_1]; done)
  have c2_1_1 : w2.cell? ⟨w.heap.size + 1, 1, none⟩ = some (.slice aY (ws XY).length cY) := by
    rw [hc2 _ _ (by first | omega | (simp only [World.size_alloc, World.size_setCell]; omega))]
    first | assumption | (simp [go_sem, c1_0_0, f1_0_0, c1_0_1, f1_0_1, c1_0_2, f1_0_2, c1_1_0, f1_1_0, c1_1_1, f1_1_1, c1_1_2, f1_1_2, hz1_0, hz1_1]; done)
  have f2_1_1 : w2.frozen? ⟨w.heap.size + 1, 1, none⟩ = false := by
    rw [hf2 _ _ (by first | omega | (simp only [World.size_alloc, World.size_setCell]; omega))]
    first | assumption | (simp [go_sem, c1_0_0, f1_0_0, c1_0_1, f1_0_1, c1_0_2, f1_0_2, c1_1_0, f1_1_0, c1_1_1, f1_1_1, c1_1_2, f1_1_2, hz1_0, hz1_1]; done)
  have c2_1_2 : w2.cell? ⟨w.heap.size + 1, 2, none⟩ = some (.int .i64 eY) := by
    rw [hc2 _ _ (by first | omega | (simp only [World.size_alloc, World.size_setCell]; omega))]
    first | assumption | (simp [go_sem, c1_0_0, f1_0_0, c1_0_1, f1_0_1, c1_0_2, f1_0_2, c1_1_0, f1_1_0, c1_1_1, f1_1_1, c1_1_2, f1_1_2, hz1_0, hz1_1]; done)
  have f2_1_2 : w2.frozen? ⟨w.heap.size + 1, 2, none⟩ = false := by
    rw [hf2 _ _ (by first | omega | (simp only [World.size_alloc, World.size_setCell]; omega))]
    first | assumption | (simp [go_sem, c1_0_0, f1_0_0, c1_0_1, f1_0_1, c1_0_2, f1_0_2, c1_1_0, f1_1_0, c1_1_1, f1_1_1, c1_1_2, f1_1_2, hz1_0, hz1_1]; done)
  clear hc2 hf2 c1_0_0 f1_0_0 c1_0_1 f1_0_1 c1_0_2 f1_0_2 c1_1_0 f1_1_0 c1_1_1 f1_1_1 c1_1_2 f1_1_2
  go_wp2
  have SS := S2.out
  exact bodyPost_ret (v := .bool true) (by simp [results, Try.results30, go_sem, c2_0_0, f2_0_0, c2_0_1, f2_0_1, c2_0_2, f2_0_2, c2_1_0, f2_1_0, c2_1_1, f2_1_1, c2_1_2, f2_1_2, hz2_0, hz2_1]) rfl ⟨rfl, (by repeat (first | exact Below.refl _ _ | assumption | exact Nat.le_refl _ | (simp only [World.size_alloc, World.size_setCell]; omega) | omega | refine Below.alloc ?_ ?_ _ | refine Below.setCell ?_ ?_ _ | refine Below.drew ?_))⟩
set_option maxHeartbeats 4000000 in
theorem sums_off_ft (fa fb : Nat) (nX nY : Bool) (aX aY : Option Addr) (XX XY cX cY : Nat) (eX eY : Int) (w : World) (AX : Arg w aX (ws XX).length cX (ws XX)) (AY : Arg w aY (ws XY).length cY (ws XY)) (lX : (ws XX).length ≤ 8192) (lY : (ws XY).length ≤ 8192)
    (H1 : Hid (∀ u a c, Arg u a (ws XX).length c (ws XX) → Calls Try.prog 47 #[.agg #[.bool nX, .slice a (ws XX).length c, .int .i64 eX], .int .i64 1022] u fun r w' => r = .returned (.bool false) ∧ Below u.heap.size u w'))
    (H2 : Hid (∀ u a c, Arg u a (ws XY).length c (ws XY) → Calls Try.prog 47 #[.agg #[.bool nY, .slice a (ws XY).length c, .int .i64 eY], .int .i64 1022] u fun r w' => r = .returned (.bool true) ∧ Below u.heap.size u w')) :
    Calls Try.prog 30 #[.float .f64 fa, .float .f64 fb, .agg #[.bool nX, .slice aX (ws XX).length cX, .int .i64 eX], .agg #[.bool nY, .slice aY (ws XY).length cY, .int .i64 eY]] w fun r w' => r = .returned (.bool true) ∧ Below w.heap.size w w' := by
  go_enter Try.func30, Try.ntmps30
  go_wp2_with fail
  refine (Calls.mono (H1.out _ _ _ (AX.below (by repeat (first | exact Below.refl _ _ | assumption | exact Nat.le_refl _ | (simp only [World.size_alloc, World.size_setCell]; omega) | omega | refine Below.alloc ?_ ?_ _ | refine Below.setCell ?_ ?_ _ | refine Below.drew ?_))))) ?_
  rintro r w1 ⟨rfl, hb1⟩
  clear H1
  have hy1 : w.heap.size ≤ w1.heap.size := by
    have := hb1.size
    try simp only [World.size_alloc, World.size_setCell] at this
    omega
  have hz1_0 : w.heap.size < w1.heap.size := by
    have := hb1.size
    try simp only [World.size_alloc, World.size_setCell] at this
    omega
  have hz1_1 : w.heap.size + 1 < w1.heap.size := by
    have := hb1.size
    try simp only [World.size_alloc, World.size_setCell] at this
    omega
  have B1 := Aside.intro (Below.trans (B := w.heap.size) (a := w) (by repeat (first | exact Below.refl _ _ | assumption | exact Nat.le_refl _ | (simp only [World.size_alloc, World.size_setCell]; omega) | omega | refine Below.alloc ?_ ?_ _ | refine Below.setCell ?_ ?_ _ | refine Below.drew ?_)) (hb1.mono (by first | omega | (simp only [World.size_alloc, World.size_setCell]; omega))))
  have S1 := B1
  replace AX := AX.below B1.out
  replace AY := AY.below B1.out
  obtain ⟨hc1, hf1⟩ := bcell hb1
  clear hb1 B1
  have c1_0_0 : w1.cell? ⟨w.heap.size, 0, none⟩ = some (.bool nX) := by
    rw [hc1 _ _ (by first | omega | (simp only [World.size_alloc, World.size_setCell]; omega))]
    first | assumption | (simp [go_sem]; done)
  have f1_0_0 : w1.frozen? ⟨w.heap.size, 0, none⟩ = false := by
    rw [hf1 _ _ (by first | omega | (simp only [World.size_alloc, World.size_setCell]; omega))]
    first | assumption | (simp [go_sem]; done)
  have c1_0_1 : w1.cell? ⟨w.heap.size, 1, none⟩ = some (.slice aX (ws XX).length cX) := by
    rw [hc1 _ _ (by first | omega | (simp only [World.size_alloc, World.size_setCell]; omega))]
    first | assumption | (simp [go_sem]; done)
  have f1_0_1 : w1.frozen? ⟨w.heap.size, 1, none⟩ = false := by
    rw [hf1 _ _ (by first | omega | (simp only [World.size_alloc, World.size_setCell]; omega))]
    first | assumption | (simp [go_sem]; done)
  have c1_0_2 : w1.cell? ⟨w.heap.size, 2, none⟩ = some (.int .i64 eX) := by
    rw [hc1 _ _ (by first | omega | (simp only [World.size_alloc, World.size_setCell]; omega))]
    first | assumption | (simp [go_sem]; done)
  have f1_0_2 : w1.frozen? ⟨w.heap.size, 2, none⟩ = false := by
    rw [hf1 _ _ (by first | omega | (simp only [World.size_alloc, World.size_setCell]; omega))]
    first | assumption | (simp [go_sem]; done)
  have c1_1_0 : w1.cell? ⟨w.heap.size + 1, 0, none⟩ = some (.bool nY) := by
    rw [hc1 _ _ (by first | omega | (simp only [World.size_alloc, World.size_setCell]; omega))]
    first | assumption | (simp [go_sem]; done)
  have f1_1_0 : w1.frozen? ⟨w.heap.size + 1, 0, none⟩ = false := by
    rw [hf1 _ _ (by first | omega | (simp only [World.size_alloc, World.size_setCell]; omega))]
    first | assumption | (simp [go_sem]; done)
  have c1_1_1 : w1.cell? ⟨w.heap.size + 1, 1, none⟩ = some (.slice aY (ws XY).length cY) := by
    rw [hc1 _ _ (by first | omega | (simp only [World.size_alloc, World.size_setCell]; omega))]
    first | assumption | (simp [go_sem]; done)
  have f1_1_1 : w1.frozen? ⟨w.heap.size + 1, 1, none⟩ = false := by
    rw [hf1 _ _ (by first | omega | (simp only [World.size_alloc, World.size_setCell]; omega))]
    first | assumption | (simp [go_sem]; done)
  have c1_1_2 : w1.cell? ⟨w.heap.size + 1, 2, none⟩ = some (.int .i64 eY) := by
    rw [hc1 _ _ (by first | omega | (simp only [World.size_alloc, World.size_setCell]; omega))]
    first | assumption | (simp [go_sem]; done)
  have f1_1_2 : w1.frozen? ⟨w.heap.size + 1, 2, none⟩ = false := by
    rw [hf1 _ _ (by first | omega | (simp only [World.size_alloc, World.size_setCell]; omega))]
    first | assumption | (simp [go_sem]; done)
  clear hc1 hf1 
  go_wp2_with fail
  refine (Calls.mono (H2.out _ _ _ (AY.below (by repeat (first | exact Below.refl _ _ | assumption | exact Nat.le_refl _ | (simp only [World.size_alloc, World.size_setCell]; omega) | omega | refine Below.alloc ?_ ?_ _ | refine Below.setCell ?_ ?_ _ | refine Below.drew ?_))))) ?_
  rintro r w2 ⟨rfl, hb2⟩
  clear H2
  have hy2 : w1.heap.size ≤ w2.heap.size := by
    have := hb2.size
    try simp only [World.size_alloc, World.size_setCell] at this
    omega
  have hz2_0 : w.heap.size < w2.heap.size := by
    have := hb2.size
    try simp only [World.size_alloc, World.size_setCell] at this
    omega
  have hz2_1 : w.heap.size + 1 < w2.heap.size := by
    have := hb2.size
    try simp only [World.size_alloc, World.size_setCell] at this
    omega
  have B2 := Aside.intro (Below.trans (B := w1.heap.size) (a := w1) (by repeat (first | exact Below.refl _ _ | assumption | exact Nat.le_refl _ | (simp only [World.size_alloc, World.size_setCell]; omega) | omega | refine Below.alloc ?_ ?_ _ | refine Below.setCell ?_ ?_ _ | refine Below.drew ?_)) (hb2.mono (by first | omega | (simp only [World.size_alloc, World.size_setCell]; omega))))
  have S2 := Aside.intro (S1.out.trans (B2.out.mono S1.out.size))
  clear S1
  replace AX := AX.below B2.out
  replace AY := AY.below B2.out
  obtain ⟨hc2, hf2⟩ := bcell hb2
  clear hb2 B2
  have c2_0_0 : w2.cell? ⟨w.heap.size, 0, none⟩ = some (.bool nX) := by
    rw [hc2 _ _ (by first | omega | (simp only [World.size_alloc, World.size_setCell]; omega))]
    first | assumption | (simp [go_sem, c1_0_0, f1_0_0, c1_0_1, f1_0_1, c1_0_2, f1_0_2, c1_1_0, f1_1_0, c1_1_1, f1_1_1, c1_1_2, f1_1_2, hz1_0, hz1_1]; done)
  have f2_0_0 : w2.frozen? ⟨w.heap.size, 0, none⟩ = false := by
    rw [hf2 _ _ (by first | omega | (simp only [World.size_alloc, World.size_setCell]; omega))]
    first | assumption | (simp [go_sem, c1_0_0, f1_0_0, c1_0_1, f1_0_1, c1_0_2, f1_0_2, c1_1_0, f1_1_0, c1_1_1, f1_1_1, c1_1_2, f1_1_2, hz1_0, hz1_1]; done)
  have c2_0_1 : w2.cell? ⟨w.heap.size, 1, none⟩ = some (.slice aX (ws XX).length cX) := by
    rw [hc2 _ _ (by first | omega | (simp only [World.size_alloc, World.size_setCell]; omega))]
    first | assumption | (simp [go_sem, c1_0_0, f1_0_0, c1_0_1, f1_0_1, c1_0_2, f1_0_2, c1_1_0, f1_1_0, c1_1_1, f1_1_1, c1_1_2, f1_1_2, hz1_0, hz1_1]; done)
  have f2_0_1 : w2.frozen? ⟨w.heap.size, 1, none⟩ = false := by
    rw [hf2 _ _ (by first | omega | (simp only [World.size_alloc, World.size_setCell]; omega))]
    first | assumption | (simp [go_sem, c1_0_0, f1_0_0, c1_0_1, f1_0_1, c1_0_2, f1_0_2, c1_1_0, f1_1_0, c1_1_1, f1_1_1, c1_1_2, f1_1_2, hz1_0, hz1_1]; done)
  have c2_0_2 : w2.cell? ⟨w.heap.size, 2, none⟩ = some (.int .i64 eX) := by
    rw [hc2 _ _ (by first | omega | (simp only [World.size_alloc, World.size_setCell]; omega))]
    first | assumption | (simp [go_sem, c1_0_0, f1_0_0, c1_0_1, f1_0_1, c1_0_2, f1_0_2, c1_1_0, f1_1_0, c1_1_1, f1_1_1, c1_1_2, f1_1_2, hz1_0, hz1_1]; done)
  have f2_0_2 : w2.frozen? ⟨w.heap.size, 2, none⟩ = false := by
    rw [hf2 _ _ (by first | omega | (simp only [World.size_alloc, World.size_setCell]; omega))]
    first | assumption | (simp [go_sem, c1_0_0, f1_0_0, c1_0_1, f1_0_1, c1_0_2, f1_0_2, c1_1_0, f1_1_0, c1_1_1, f1_1_1, c1_1_2, f1_1_2, hz1_0, hz1_1]; done)
  have c2_1_0 : w2.cell? ⟨w.heap.size + 1, 0, none⟩ = some (.bool nY) := by
    rw [hc2 _ _ (by first | omega | (simp only [World.size_alloc, World.size_setCell]; omega))]
    first | assumption | (simp [go_sem, c1_0_0, f1_0_0, c1_0_1, f1_0_1, c1_0_2, f1_0_2, c1_1_0, f1_1_0, c1_1_1, f1_1_1, c1_1_2, f1_1_2, hz1_0, hz1_1]; done)
  have f2_1_0 : w2.frozen? ⟨w.heap.size + 1, 0, none⟩ = false := by
    rw [hf2 _ _ (by first | omega | (simp only [World.size_alloc, World.size_setCell]; omega))]
    first | assumption | (simp [go_sem, c1_0_0, f1_0_0, c1_0_1, f1_0_1, c1_0_2, f1_0_2, c1_1_0, f1_1_0, c1_1_1, f1_1_1, c1_1_2, f1_1_2, hz1_0, hz1_1]; done)
  have c2_1_1 : w2.cell? ⟨w.heap.size + 1, 1, none⟩ = some (.slice aY (ws XY).length cY) := by
    rw [hc2 _ _ (by first | omega | (simp only [World.size_alloc, World.size_setCell]; omega))]
    first | assumption | (simp [go_sem, c1_0_0, f1_0_0, c1_0_1, f1_0_1, c1_0_2, f1_0_2, c1_1_0, f1_1_0, c1_1_1, f1_1_1, c1_1_2, f1_1_2, hz1_0, hz1_1]; done)
  have f2_1_1 : w2.frozen? ⟨w.heap.size + 1, 1, none⟩ = false := by
    rw [hf2 _ _ (by first | omega | (simp only [World.size_alloc, World.size_setCell]; omega))]
    first | assumption | (simp [go_sem, c1_0_0, f1_0_0, c1_0_1, f1_0_1, c1_0_2, f1_0_2, c1_1_0, f1_1_0, c1_1_1, f1_1_1, c1_1_2, f1_1_2, hz1_0, hz1_1]; done)
  have c2_1_2 : w2.cell? ⟨w.heap.size + 1, 2, none⟩ = some (.int .i64 eY) := by
    rw [hc2 _ _ (by first | omega | (simp only [World.size_alloc, World.size_setCell]; omega))]
    first | assumption | (simp [go_sem, c1_0_0, f1_0_0, c1_0_1, f1_0_1, c1_0_2, f1_0_2, c1_1_0, f1_1_0, c1_1_1, f1_1_1, c1_1_2, f1_1_2, hz1_0, hz1_1]; done)
  have f2_1_2 : w2.frozen? ⟨w.heap.size + 1, 2, none⟩ = false := by
    rw [hf2 _ _ (by first | omega | (simp only [World.size_alloc, World.size_setCell]; omega))]
    first | assumption | (simp [go_sem, c1_0_0, f1_0_0, c1_0_1, f1_0_1, c1_0_2, f1_0_2, c1_1_0, f1_1_0, c1_1_1, f1_1_1, c1_1_2, f1_1_2, hz1_0, hz1_1]; done)
  clear hc2 hf2 c1_0_0 f1_0_0 c1_0_1 f1_0_1 c1_0_2 f1_0_2 c1_1_0 f1_1_0 c1_1_1 f1_1_1 c1_1_2 f1_1_2
  go_wp2
  have SS := S2.out
  exact bodyPost_ret (v := .bool true) (by simp [results, Try.results30, go_sem, c2_0_0, f2_0_0, c2_0_1, f2_0_1, c2_0_2, f2_0_2, c2_1_0, f2_1_0, c2_1_1, f2_1_1, c2_1_2, f2_1_2, hz2_0, hz2_1]) rfl ⟨rfl, (by repeat (first | exact Below.refl _ _ | assumption | exact Nat.le_refl _ | (simp only [World.size_alloc, World.size_setCell]; omega) | omega | refine Below.alloc ?_ ?_ _ | refine Below.setCell ?_ ?_ _ | refine Below.drew ?_))⟩
set_option maxHeartbeats 4000000 in
theorem sums_off_tf (fa fb : Nat) (nX nY : Bool) (aX aY : Option Addr) (XX XY cX cY : Nat) (eX eY : Int) (w : World) (AX : Arg w aX (ws XX).length cX (ws XX)) (AY : Arg w aY (ws XY).length cY (ws XY)) (lX : (ws XX).length ≤ 8192) (lY : (ws XY).length ≤ 8192)
    (H1 : Hid (∀ u a c, Arg u a (ws XX).length c (ws XX) → Calls Try.prog 47 #[.agg #[.bool nX, .slice a (ws XX).length c, .int .i64 eX], .int .i64 1022] u fun r w' => r = .returned (.bool true) ∧ Below u.heap.size u w'))
    (H2 : Hid (∀ u a c, Arg u a (ws XY).length c (ws XY) → Calls Try.prog 47 #[.agg #[.bool nY, .slice a (ws XY).length c, .int .i64 eY], .int .i64 1022] u fun r w' => r = .returned (.bool false) ∧ Below u.heap.size u w')) :
    Calls Try.prog 30 #[.float .f64 fa, .float .f64 fb, .agg #[.bool nX, .slice aX (ws XX).length cX, .int .i64 eX], .agg #[.bool nY, .slice aY (ws XY).length cY, .int .i64 eY]] w fun r w' => r = .returned (.bool true) ∧ Below w.heap.size w w' := by
  go_enter Try.func30, Try.ntmps30
  go_wp2_with fail
  refine (Calls.mono (H1.out _ _ _ (AX.below (by repeat (first | exact Below.refl _ _ | assumption | exact Nat.le_refl _ | (simp only [World.size_alloc, World.size_setCell]; omega) | omega | refine Below.alloc ?_ ?_ _ | refine Below.setCell ?_ ?_ _ | refine Below.drew ?_))))) ?_
  rintro r w1 ⟨rfl, hb1⟩
  clear H1
  have hy1 : w.heap.size ≤ w1.heap.size := by
    have := hb1.size
    try simp only [World.size_alloc, World.size_setCell] at this
    omega
  have hz1_0 : w.heap.size < w1.heap.size := by
    have := hb1.size
    try simp only [World.size_alloc, World.size_setCell] at this
    omega
  have hz1_1 : w.heap.size + 1 < w1.heap.size := by
    have := hb1.size
    try simp only [World.size_alloc, World.size_setCell] at this
    omega
  have B1 := Aside.intro (Below.trans (B := w.heap.size) (a := w) (by repeat (first | exact Below.refl _ _ | assumption | exact Nat.le_refl _ | (simp only [World.size_alloc, World.size_setCell]; omega) | omega | refine Below.alloc ?_ ?_ _ | refine Below.setCell ?_ ?_ _ | refine Below.drew ?_)) (hb1.mono (by first | omega | (simp only [World.size_alloc, World.size_setCell]; omega))))
  have S1 := B1
  replace AX := AX.below B1.out
  replace AY := AY.below B1.out
  obtain ⟨hc1, hf1⟩ := bcell hb1
  clear hb1 B1
  have c1_0_0 : w1.cell? ⟨w.heap.size, 0, none⟩ = some (.bool nX) := by
    rw [hc1 _ _ (by first | omega | (simp only [World.size_alloc, World.size_setCell]; omega))]
    first | assumption | (simp [go_sem]; done)
  have f1_0_0 : w1.frozen? ⟨w.heap.size, 0, none⟩ = false := by
    rw [hf1 _ _ (by first | omega | (simp only [World.size_alloc, World.size_setCell]; omega))]
    first | assumption | (simp [go_sem]; done)
  have c1_0_1 : w1.cell? ⟨w.heap.size, 1, none⟩ = some (.slice aX (ws XX).length cX) := by
    rw [hc1 _ _ (by first | omega | (simp only [World.size_alloc, World.size_setCell]; omega))]
    first | assumption | (simp [go_sem]; done)
  have f1_0_1 : w1.frozen? ⟨w.heap.size, 1, none⟩ = false := by
    rw [hf1 _ _ (by first | omega | (simp only [World.size_alloc, World.size_setCell]; omega))]
    first | assumption | (simp [go_sem]; done)
  have c1_0_2 : w1.cell? ⟨w.heap.size, 2, none⟩ = some (.int .i64 eX) := by
    rw [hc1 _ _ (by first | omega | (simp only [World.size_alloc, World.size_setCell]; omega))]
    first | assumption | (simp [go_sem]; done)
  have f1_0_2 : w1.frozen? ⟨w.heap.size, 2, none⟩ = false := by
    rw [hf1 _ _ (by first | omega | (simp only [World.size_alloc, World.size_setCell]; omega))]
    first | assumption | (simp [go_sem]; done)
  have c1_1_0 : w1.cell? ⟨w.heap.size + 1, 0, none⟩ = some (.bool nY) := by
    rw [hc1 _ _ (by first | omega | (simp only [World.size_alloc, World.size_setCell]; omega))]
    first | assumption | (simp [go_sem]; done)
  have f1_1_0 : w1.frozen? ⟨w.heap.size + 1, 0, none⟩ = false := by
    rw [hf1 _ _ (by first | omega | (simp only [World.size_alloc, World.size_setCell]; omega))]
    first | assumption | (simp [go_sem]; done)
  have c1_1_1 : w1.cell? ⟨w.heap.size + 1, 1, none⟩ = some (.slice aY (ws XY).length cY) := by
    rw [hc1 _ _ (by first | omega | (simp only [World.size_alloc, World.size_setCell]; omega))]
    first | assumption | (simp [go_sem]; done)
  have f1_1_1 : w1.frozen? ⟨w.heap.size + 1, 1, none⟩ = false := by
    rw [hf1 _ _ (by first | omega | (simp only [World.size_alloc, World.size_setCell]; omega))]
    first | assumption | (simp [go_sem]; done)
  have c1_1_2 : w1.cell? ⟨w.heap.size + 1, 2, none⟩ = some (.int .i64 eY) := by
    rw [hc1 _ _ (by first | omega | (simp only [World.size_alloc, World.size_setCell]; omega))]
    first | assumption | (simp [go_sem]; done)
  have f1_1_2 : w1.frozen? ⟨w.heap.size + 1, 2, none⟩ = false := by
    rw [hf1 _ _ (by first | omega | (simp only [World.size_alloc, World.size_setCell]; omega))]
    first | assumption | (simp [go_sem]; done)
  clear hc1 hf1 
  go_wp2_with fail
  refine (Calls.mono (H2.out _ _ _ (AY.below (by repeat (first | exact Below.refl _ _ | assumption | exact Nat.le_refl _ | (simp only [World.size_alloc, World.size_setCell]; omega) | omega | refine Below.alloc ?_ ?_ _ | refine Below.setCell ?_ ?_ _ | refine Below.drew ?_))))) ?_
  rintro r w2 ⟨rfl, hb2⟩
  clear H2
  have hy2 : w1.heap.size ≤ w2.heap.size := by
    have := hb2.size
    try simp only [World.size_alloc, World.size_setCell] at this
    omega
  have hz2_0 : w.heap.size < w2.heap.size := by
    have := hb2.size
    try simp only [World.size_alloc, World.size_setCell] at this
    omega
  have hz2_1 : w.heap.size + 1 < w2.heap.size := by
    have := hb2.size
    try simp only [World.size_alloc, World.size_setCell] at this
    omega
  have B2 := Aside.intro (Below.trans (B := w1.heap.size) (a := w1) (by repeat (first | exact Below.refl _ _ | assumption | exact Nat.le_refl _ | (simp only [World.size_alloc, World.size_setCell]; omega) | omega | refine Below.alloc ?_ ?_ _ | refine Below.setCell ?_ ?_ _ | refine Below.drew ?_)) (hb2.mono (by first | omega | (simp only [World.size_alloc, World.size_setCell]; omega))))
  have S2 := Aside.intro (S1.out.trans (B2.out.mono S1.out.size))
  clear S1
  replace AX := AX.below B2.out
  replace AY := AY.below B2.out
  obtain ⟨hc2, hf2⟩ := bcell hb2
  clear hb2 B2
  have c2_0_0 : w2.cell? ⟨w.heap.size, 0, none⟩ = some (.bool nX) := by
    rw [hc2 _ _ (by first | omega | (simp only [World.size_alloc, World.size_setCell]; omega))]
    first | assumption | (simp [go_sem, c1_0_0, f1_0_0, c1_0_1, f1_0_1, c1_0_2, f1_0_2, c1_1_0, f1_1_0, c1_1_1, f1_1_1, c1_1_2, f1_1_2, hz1_0, hz1_1]; done)
  have f2_0_0 : w2.frozen? ⟨w.heap.size, 0, none⟩ = false := by
    rw [hf2 _ _ (by first | omega | (simp only [World.size_alloc, World.size_setCell]; omega))]
    first | assumption | (simp [go_sem, c1_0_0, f1_0_0, c1_0_1, f1_0_1, c1_0_2, f1_0_2, c1_1_0, f1_1_0, c1_1_1, f1_1_1, c1_1_2, f1_1_2, hz1_0, hz1_1]; done)
  have c2_0_1 : w2.cell? ⟨w.heap.size, 1, none⟩ = some (.slice aX (ws XX).length cX) := by
    rw [hc2 _ _ (by first | omega | (simp only [World.size_alloc, World.size_setCell]; omega))]
    first | assumption | (simp [go_sem, c1_0_0, f1_0_0, c1_0_1, f1_0_1, c1_0_2, f1_0_2, c1_1_0, f1_1_0, c1_1_1, f1_1_1, c1_1_2, f1_1_2, hz1_0, hz1_1]; done)
  have f2_0_1 : w2.frozen? ⟨w.heap.size, 1, none⟩ = false := by
    rw [hf2 _ _ (by first | omega | (simp only [World.size_alloc, World.size_setCell]; omega))]
    first | assumption | (simp [go_sem, c1_0_0, f1_0_0, c1_0_1, f1_0_1, c1_0_2, f1_0_2, c1_1_0, f1_1_0, c1_1_1, f1_1_1, c1_1_2, f1_1_2, hz1_0, hz1_1]; done)
  have c2_0_2 : w2.cell? ⟨w.heap.size, 2, none⟩ = some (.int .i64 eX) := by
    rw [hc2 _ _ (by first | omega | (simp only [World.size_alloc, World.size_setCell]; omega))]
    first | assumption | (simp [go_sem, c1_0_0, f1_0_0, c1_0_1, f1_0_1, c1_0_2, f1_0_2, c1_1_0, f1_1_0, c1_1_1, f1_1_1, c1_1_2, f1_1_2, hz1_0, hz1_1]; done)
  have f2_0_2 : w2.frozen? ⟨w.heap.size, 2, none⟩ = false := by
    rw [hf2 _ _ (by first | omega | (simp only [World.size_alloc, World.size_setCell]; omega))]
    first | assumption | (simp [go_sem, c1_0_0, f1_0_0, c1_0_1, f1_0_1, c1_0_2, f1_0_2, c1_1_0, f1_1_0, c1_1_1, f1_1_1, c1_1_2, f1_1_2, hz1_0, hz1_1]; done)
  have c2_1_0 : w2.cell? ⟨w.heap.size + 1, 0, none⟩ = some (.bool nY) := by
    rw [hc2 _ _ (by first | omega | (simp only [World.size_alloc, World.size_setCell]; omega))]
    first | assumption | (simp [go_sem, c1_0_0, f1_0_0, c1_0_1, f1_0_1, c1_0_2, f1_0_2, c1_1_0, f1_1_0, c1_1_1, f1_1_1, c1_1_2, f1_1_2, hz1_0, hz1_1]; done)
  have f2_1_0 : w2.frozen? ⟨w.heap.size + 1, 0, none⟩ = false := by
    rw [hf2 _ _ (by first | omega | (simp only [World.size_alloc, World.size_setCell]; omega))]
    first | assumption | (simp [go_sem, c1_0_0, f1_0_0, c1_0_1, f1_0_1, c1_0_2, f1_0_2, c1_1_0, f1_1_0, c1_1_1, f1_1_1, c1_1_2, f1_1_2, hz1_0, hz1_1]; done)
  have c2_1_1 : w2.cell? ⟨w.heap.size + 1, 1, none⟩ = some (.slice aY (ws XY).length cY) := by
    rw [hc2 _ _ (by first | omega | (simp only [World.size_alloc, World.size_setCell]; omega))]
    first | assumption | (simp [go_sem, c1_0_0, f1_0_0, c1_0_1, f1_0_1, c1_0_2, f1_0_2, c1_1_0, f1_1_0, c1_1_1, f1_1_1, c1_1_2, f1_1_2, hz1_0, hz1_1]; done)
  have f2_1_1 : w2.frozen? ⟨w.heap.size + 1, 1, none⟩ = false := by
    rw [hf2 _ _ (by first | omega | (simp only [World.size_alloc, World.size_setCell]; omega))]
    first | assumption | (simp [go_sem, c1_0_0, f1_0_0, c1_0_1, f1_0_1, c1_0_2, f1_0_2, c1_1_0, f1_1_0, c1_1_1, f1_1_1, c1_1_2, f1_1_2, hz1_0, hz1_1]; done)
  have c2_1_2 : w2.cell? ⟨w.heap.size + 1, 2, none⟩ = some (.int .i64 eY) := by
    rw [hc2 _ _ (by first | omega | (simp only [World.size_alloc, World.size_setCell]; omega))]
    first | assumption | (simp [go_sem, c1_0_0, f1_0_0, c1_0_1, f1_0_1, c1_0_2, f1_0_2, c1_1_0, f1_1_0, c1_1_1, f1_1_1, c1_1_2, f1_1_2, hz1_0, hz1_1]; done)
  have f2_1_2 : w2.frozen? ⟨w.heap.size + 1, 2, none⟩ = false := by
    rw [hf2 _ _ (by first | omega | (simp only [World.size_alloc, World.size_setCell]; omega))]
    first | assumption | (simp [go_sem, c1_0_0, f1_0_0, c1_0_1, f1_0_1, c1_0_2, f1_0_2, c1_1_0, f1_1_0, c1_1_1, f1_1_1, c1_1_2, f1_1_2, hz1_0, hz1_1]; done)
  clear hc2 hf2 c1_0_0 f1_0_0 c1_0_1 f1_0_1 c1_0_2 f1_0_2 c1_1_0 f1_1_0 c1_1_1 f1_1_1 c1_1_2 f1_1_2
  go_wp2
  have SS := S2.out
  exact bodyPost_ret (v := .bool true) (by simp [results, Try.results30, go_sem, c2_0_0, f2_0_0, c2_0_1, f2_0_1, c2_0_2, f2_0_2, c2_1_0, f2_1_0, c2_1_1, f2_1_1, c2_1_2, f2_1_2, hz2_0, hz2_1]) rfl ⟨rfl, (by repeat (first | exact Below.refl _ _ | assumption | exact Nat.le_refl _ | (simp only [World.size_alloc, World.size_setCell]; omega) | omega | refine Below.alloc ?_ ?_ _ | refine Below.setCell ?_ ?_ _ | refine Below.drew ?_))⟩
end Go.Proofs.Ythilnddhehbjiab

/- The law's sums, where something is said. -/
namespace Go.Proofs.Ythilnddhehbjiab
open Go.RowKit J
set_option linter.unusedVariables false
set_option maxRecDepth 20000
set_option linter.unusedSimpArgs false
attribute [local go_sem] st_float

set_option maxHeartbeats 16000000 in
theorem sums_on_f (fa fb : Nat) (nX nY : Bool) (aX aY : Option Addr) (XX XY cX cY : Nat) (eX eY : Int) (w : World) (AX : Arg w aX (ws XX).length cX (ws XX)) (AY : Arg w aY (ws XY).length cY (ws XY)) (lX : (ws XX).length ≤ 8192) (lY : (ws XY).length ≤ 8192) (nS : Bool) (XS : Nat) (eS cv : Int) (s1 s2 q1 q2 : Nat) (lS : (ws XS).length ≤ 8192) (hq : decide (0 ≤ cv) = false)
    (H1 : Hid (∀ u a c, Arg u a (ws XX).length c (ws XX) → Calls Try.prog 47 #[.agg #[.bool nX, .slice a (ws XX).length c, .int .i64 eX], .int .i64 1022] u fun r w' => r = .returned (.bool true) ∧ Below u.heap.size u w'))
    (H2 : Hid (∀ u a c, Arg u a (ws XY).length c (ws XY) → Calls Try.prog 47 #[.agg #[.bool nY, .slice a (ws XY).length c, .int .i64 eY], .int .i64 1022] u fun r w' => r = .returned (.bool true) ∧ Below u.heap.size u w'))
    (HA : Hid (∀ u a b c d, Arg u a (ws XX).length c (ws XX) → Arg u b (ws XY).length d (ws XY) → Calls Try.prog 35 #[.agg #[.bool nX, .slice a (ws XX).length c, .int .i64 eX], .agg #[.bool nY, .slice b (ws XY).length d, .int .i64 eY]] u fun r w' => (∃ v, r = .returned (.tuple #[.agg #[.bool nS, v, .int .i64 eS], .int .i64 0]) ∧ Nt u.heap.size w' v XS) ∧ Below u.heap.size u w'))
    (HS : Hid (∀ u, Calls Try.prog 12 #[.float .f64 fa, .float .f64 fb] u fun r w' => r = .returned (.agg #[.float .f64 s1, .float .f64 s2]) ∧ Below u.heap.size u w'))
    (HJ : Hid (∀ u a c, Arg u a (ws XS).length c (ws XS) → Calls Try.prog 48 #[.agg #[.float .f64 s1, .float .f64 s2], .agg #[.bool nS, .slice a (ws XS).length c, .int .i64 eS]] u fun r w' => r = .returned (.bool true) ∧ Below u.heap.size u w'))
    (HC : Hid (∀ u a b c d, Arg u a (ws XX).length c (ws XX) → Arg u b (ws XY).length d (ws XY) → Calls Try.prog 49 #[.agg #[.bool false, .slice a (ws XX).length c, .int .i64 eX], .agg #[.bool false, .slice b (ws XY).length d, .int .i64 eY]] u fun r w' => r = .returned (.int .i64 cv) ∧ Below u.heap.size u w')) :
    Calls Try.prog 30 #[.float .f64 fa, .float .f64 fb, .agg #[.bool nX, .slice aX (ws XX).length cX, .int .i64 eX], .agg #[.bool nY, .slice aY (ws XY).length cY, .int .i64 eY]] w fun r w' => r = .returned (.bool true) ∧ Below w.heap.size w w' := by
  go_enter Try.func30, Try.ntmps30
  go_wp2_with fail
  refine (Calls.mono (H1.out _ _ _ (AX.below (by repeat (first | exact Below.refl _ _ | assumption | exact Nat.le_refl _ | (simp only [World.size_alloc, World.size_setCell]; omega) | omega | refine Below.alloc ?_ ?_ _ | refine Below.setCell ?_ ?_ _ | refine Below.drew ?_))))) ?_
  rintro r w1 ⟨rfl, hb1⟩
  clear H1
  have hy1 : w.heap.size ≤ w1.heap.size := by
    have := hb1.size
    try simp only [World.size_alloc, World.size_setCell] at this
    omega
  have hz1_0 : w.heap.size < w1.heap.size := by
    have := hb1.size
    try simp only [World.size_alloc, World.size_setCell] at this
    omega
  have hz1_1 : w.heap.size + 1 < w1.heap.size := by
    have := hb1.size
    try simp only [World.size_alloc, World.size_setCell] at this
    omega
  have B1 := Aside.intro (Below.trans (B := w.heap.size) (a := w) (by repeat (first | exact Below.refl _ _ | assumption | exact Nat.le_refl _ | (simp only [World.size_alloc, World.size_setCell]; omega) | omega | refine Below.alloc ?_ ?_ _ | refine Below.setCell ?_ ?_ _ | refine Below.drew ?_)) (hb1.mono (by first | omega | (simp only [World.size_alloc, World.size_setCell]; omega))))
  have S1 := B1
  replace AX := AX.below B1.out
  replace AY := AY.below B1.out
  obtain ⟨hc1, hf1⟩ := bcell hb1
  clear hb1 B1
  have c1_0_0 : w1.cell? ⟨w.heap.size, 0, none⟩ = some (.bool nX) := by
    rw [hc1 _ _ (by first | omega | (simp only [World.size_alloc, World.size_setCell]; omega))]
    first | assumption | (simp [go_sem]; done)
  have f1_0_0 : w1.frozen? ⟨w.heap.size, 0, none⟩ = false := by
    rw [hf1 _ _ (by first | omega | (simp only [World.size_alloc, World.size_setCell]; omega))]
    first | assumption | (simp [go_sem]; done)
  have c1_0_1 : w1.cell? ⟨w.heap.size, 1, none⟩ = some (.slice aX (ws XX).length cX) := by
    rw [hc1 _ _ (by first | omega | (simp only [World.size_alloc, World.size_setCell]; omega))]
    first | assumption | (simp [go_sem]; done)
  have f1_0_1 : w1.frozen? ⟨w.heap.size, 1, none⟩ = false := by
    rw [hf1 _ _ (by first | omega | (simp only [World.size_alloc, World.size_setCell]; omega))]
    first | assumption | (simp [go_sem]; done)
  have c1_0_2 : w1.cell? ⟨w.heap.size, 2, none⟩ = some (.int .i64 eX) := by
    rw [hc1 _ _ (by first | omega | (simp only [World.size_alloc, World.size_setCell]; omega))]
    first | assumption | (simp [go_sem]; done)
  have f1_0_2 : w1.frozen? ⟨w.heap.size, 2, none⟩ = false := by
    rw [hf1 _ _ (by first | omega | (simp only [World.size_alloc, World.size_setCell]; omega))]
    first | assumption | (simp [go_sem]; done)
  have c1_1_0 : w1.cell? ⟨w.heap.size + 1, 0, none⟩ = some (.bool nY) := by
    rw [hc1 _ _ (by first | omega | (simp only [World.size_alloc, World.size_setCell]; omega))]
    first | assumption | (simp [go_sem]; done)
  have f1_1_0 : w1.frozen? ⟨w.heap.size + 1, 0, none⟩ = false := by
    rw [hf1 _ _ (by first | omega | (simp only [World.size_alloc, World.size_setCell]; omega))]
    first | assumption | (simp [go_sem]; done)
  have c1_1_1 : w1.cell? ⟨w.heap.size + 1, 1, none⟩ = some (.slice aY (ws XY).length cY) := by
    rw [hc1 _ _ (by first | omega | (simp only [World.size_alloc, World.size_setCell]; omega))]
    first | assumption | (simp [go_sem]; done)
  have f1_1_1 : w1.frozen? ⟨w.heap.size + 1, 1, none⟩ = false := by
    rw [hf1 _ _ (by first | omega | (simp only [World.size_alloc, World.size_setCell]; omega))]
    first | assumption | (simp [go_sem]; done)
  have c1_1_2 : w1.cell? ⟨w.heap.size + 1, 2, none⟩ = some (.int .i64 eY) := by
    rw [hc1 _ _ (by first | omega | (simp only [World.size_alloc, World.size_setCell]; omega))]
    first | assumption | (simp [go_sem]; done)
  have f1_1_2 : w1.frozen? ⟨w.heap.size + 1, 2, none⟩ = false := by
    rw [hf1 _ _ (by first | omega | (simp only [World.size_alloc, World.size_setCell]; omega))]
    first | assumption | (simp [go_sem]; done)
  clear hc1 hf1 
  go_wp2_with fail
  refine (Calls.mono (H2.out _ _ _ (AY.below (by repeat (first | exact Below.refl _ _ | assumption | exact Nat.le_refl _ | (simp only [World.size_alloc, World.size_setCell]; omega) | omega | refine Below.alloc ?_ ?_ _ | refine Below.setCell ?_ ?_ _ | refine Below.drew ?_))))) ?_
  rintro r w2 ⟨rfl, hb2⟩
  clear H2
  have hy2 : w1.heap.size ≤ w2.heap.size := by
    have := hb2.size
    try simp only [World.size_alloc, World.size_setCell] at this
    omega
  have hz2_0 : w.heap.size < w2.heap.size := by
    have := hb2.size
    try simp only [World.size_alloc, World.size_setCell] at this
    omega
  have hz2_1 : w.heap.size + 1 < w2.heap.size := by
    have := hb2.size
    try simp only [World.size_alloc, World.size_setCell] at this
    omega
  have B2 := Aside.intro (Below.trans (B := w1.heap.size) (a := w1) (by repeat (first | exact Below.refl _ _ | assumption | exact Nat.le_refl _ | (simp only [World.size_alloc, World.size_setCell]; omega) | omega | refine Below.alloc ?_ ?_ _ | refine Below.setCell ?_ ?_ _ | refine Below.drew ?_)) (hb2.mono (by first | omega | (simp only [World.size_alloc, World.size_setCell]; omega))))
  have S2 := Aside.intro (S1.out.trans (B2.out.mono S1.out.size))
  clear S1
  replace AX := AX.below B2.out
  replace AY := AY.below B2.out
  obtain ⟨hc2, hf2⟩ := bcell hb2
  clear hb2 B2
  have c2_0_0 : w2.cell? ⟨w.heap.size, 0, none⟩ = some (.bool nX) := by
    rw [hc2 _ _ (by first | omega | (simp only [World.size_alloc, World.size_setCell]; omega))]
    first | assumption | (simp [go_sem, c1_0_0, f1_0_0, c1_0_1, f1_0_1, c1_0_2, f1_0_2, c1_1_0, f1_1_0, c1_1_1, f1_1_1, c1_1_2, f1_1_2, hz1_0, hz1_1]; done)
  have f2_0_0 : w2.frozen? ⟨w.heap.size, 0, none⟩ = false := by
    rw [hf2 _ _ (by first | omega | (simp only [World.size_alloc, World.size_setCell]; omega))]
    first | assumption | (simp [go_sem, c1_0_0, f1_0_0, c1_0_1, f1_0_1, c1_0_2, f1_0_2, c1_1_0, f1_1_0, c1_1_1, f1_1_1, c1_1_2, f1_1_2, hz1_0, hz1_1]; done)
  have c2_0_1 : w2.cell? ⟨w.heap.size, 1, none⟩ = some (.slice aX (ws XX).length cX) := by
    rw [hc2 _ _ (by first | omega | (simp only [World.size_alloc, World.size_setCell]; omega))]
    first | assumption | (simp [go_sem, c1_0_0, f1_0_0, c1_0_1, f1_0_1, c1_0_2, f1_0_2, c1_1_0, f1_1_0, c1_1_1, f1_1_1, c1_1_2, f1_1_2, hz1_0, hz1_1]; done)
  have f2_0_1 : w2.frozen? ⟨w.heap.size, 1, none⟩ = false := by
    rw [hf2 _ _ (by first | omega | (simp only [World.size_alloc, World.size_setCell]; omega))]
    first | assumption | (simp [go_sem, c1_0_0, f1_0_0, c1_0_1, f1_0_1, c1_0_2, f1_0_2, c1_1_0, f1_1_0, c1_1_1, f1_1_1, c1_1_2, f1_1_2, hz1_0, hz1_1]; done)
  have c2_0_2 : w2.cell? ⟨w.heap.size, 2, none⟩ = some (.int .i64 eX) := by
    rw [hc2 _ _ (by first | omega | (simp only [World.size_alloc, World.size_setCell]; omega))]
    first | assumption | (simp [go_sem, c1_0_0, f1_0_0, c1_0_1, f1_0_1, c1_0_2, f1_0_2, c1_1_0, f1_1_0, c1_1_1, f1_1_1, c1_1_2, f1_1_2, hz1_0, hz1_1]; done)
  have f2_0_2 : w2.frozen? ⟨w.heap.size, 2, none⟩ = false := by
    rw [hf2 _ _ (by first | omega | (simp only [World.size_alloc, World.size_setCell]; omega))]
    first | assumption | (simp [go_sem, c1_0_0, f1_0_0, c1_0_1, f1_0_1, c1_0_2, f1_0_2, c1_1_0, f1_1_0, c1_1_1, f1_1_1, c1_1_2, f1_1_2, hz1_0, hz1_1]; done)
  have c2_1_0 : w2.cell? ⟨w.heap.size + 1, 0, none⟩ = some (.bool nY) := by
    rw [hc2 _ _ (by first | omega | (simp only [World.size_alloc, World.size_setCell]; omega))]
    first | assumption | (simp [go_sem, c1_0_0, f1_0_0, c1_0_1, f1_0_1, c1_0_2, f1_0_2, c1_1_0, f1_1_0, c1_1_1, f1_1_1, c1_1_2, f1_1_2, hz1_0, hz1_1]; done)
  have f2_1_0 : w2.frozen? ⟨w.heap.size + 1, 0, none⟩ = false := by
    rw [hf2 _ _ (by first | omega | (simp only [World.size_alloc, World.size_setCell]; omega))]
    first | assumption | (simp [go_sem, c1_0_0, f1_0_0, c1_0_1, f1_0_1, c1_0_2, f1_0_2, c1_1_0, f1_1_0, c1_1_1, f1_1_1, c1_1_2, f1_1_2, hz1_0, hz1_1]; done)
  have c2_1_1 : w2.cell? ⟨w.heap.size + 1, 1, none⟩ = some (.slice aY (ws XY).length cY) := by
    rw [hc2 _ _ (by first | omega | (simp only [World.size_alloc, World.size_setCell]; omega))]
    first | assumption | (simp [go_sem, c1_0_0, f1_0_0, c1_0_1, f1_0_1, c1_0_2, f1_0_2, c1_1_0, f1_1_0, c1_1_1, f1_1_1, c1_1_2, f1_1_2, hz1_0, hz1_1]; done)
  have f2_1_1 : w2.frozen? ⟨w.heap.size + 1, 1, none⟩ = false := by
    rw [hf2 _ _ (by first | omega | (simp only [World.size_alloc, World.size_setCell]; omega))]
    first | assumption | (simp [go_sem, c1_0_0, f1_0_0, c1_0_1, f1_0_1, c1_0_2, f1_0_2, c1_1_0, f1_1_0, c1_1_1, f1_1_1, c1_1_2, f1_1_2, hz1_0, hz1_1]; done)
  have c2_1_2 : w2.cell? ⟨w.heap.size + 1, 2, none⟩ = some (.int .i64 eY) := by
    rw [hc2 _ _ (by first | omega | (simp only [World.size_alloc, World.size_setCell]; omega))]
    first | assumption | (simp [go_sem, c1_0_0, f1_0_0, c1_0_1, f1_0_1, c1_0_2, f1_0_2, c1_1_0, f1_1_0, c1_1_1, f1_1_1, c1_1_2, f1_1_2, hz1_0, hz1_1]; done)
  have f2_1_2 : w2.frozen? ⟨w.heap.size + 1, 2, none⟩ = false := by
    rw [hf2 _ _ (by first | omega | (simp only [World.size_alloc, World.size_setCell]; omega))]
    first | assumption | (simp [go_sem, c1_0_0, f1_0_0, c1_0_1, f1_0_1, c1_0_2, f1_0_2, c1_1_0, f1_1_0, c1_1_1, f1_1_1, c1_1_2, f1_1_2, hz1_0, hz1_1]; done)
  clear hc2 hf2 c1_0_0 f1_0_0 c1_0_1 f1_0_1 c1_0_2 f1_0_2 c1_1_0 f1_1_0 c1_1_1 f1_1_1 c1_1_2 f1_1_2
  go_wp2_with fail
  refine (Calls.mono (HA.out _ _ _ _ _ (AX.below (by repeat (first | exact Below.refl _ _ | assumption | exact Nat.le_refl _ | (simp only [World.size_alloc, World.size_setCell]; omega) | omega | refine Below.alloc ?_ ?_ _ | refine Below.setCell ?_ ?_ _ | refine Below.drew ?_))) (AY.below (by repeat (first | exact Below.refl _ _ | assumption | exact Nat.le_refl _ | (simp only [World.size_alloc, World.size_setCell]; omega) | omega | refine Below.alloc ?_ ?_ _ | refine Below.setCell ?_ ?_ _ | refine Below.drew ?_))))) ?_
  rintro r w3 ⟨⟨v3, rfl, N3⟩, hb3⟩
  obtain ⟨aS, cS, rfl, AS⟩ := N3.arg (by omega)
  clear N3
  clear HA
  have hy3 : w2.heap.size ≤ w3.heap.size := by
    have := hb3.size
    try simp only [World.size_alloc, World.size_setCell] at this
    omega
  have hz3_0 : w.heap.size < w3.heap.size := by
    have := hb3.size
    try simp only [World.size_alloc, World.size_setCell] at this
    omega
  have hz3_1 : w.heap.size + 1 < w3.heap.size := by
    have := hb3.size
    try simp only [World.size_alloc, World.size_setCell] at this
    omega
  have B3 := Aside.intro (Below.trans (B := w2.heap.size) (a := w2) (by repeat (first | exact Below.refl _ _ | assumption | exact Nat.le_refl _ | (simp only [World.size_alloc, World.size_setCell]; omega) | omega | refine Below.alloc ?_ ?_ _ | refine Below.setCell ?_ ?_ _ | refine Below.drew ?_)) (hb3.mono (by first | omega | (simp only [World.size_alloc, World.size_setCell]; omega))))
  have S3 := Aside.intro (S2.out.trans (B3.out.mono S2.out.size))
  clear S2
  replace AX := AX.below B3.out
  replace AY := AY.below B3.out
  obtain ⟨hc3, hf3⟩ := bcell hb3
  clear hb3 B3
  have c3_0_0 : w3.cell? ⟨w.heap.size, 0, none⟩ = some (.bool nX) := by
    rw [hc3 _ _ (by first | omega | (simp only [World.size_alloc, World.size_setCell]; omega))]
    first | assumption | (simp [go_sem, c2_0_0, f2_0_0, c2_0_1, f2_0_1, c2_0_2, f2_0_2, c2_1_0, f2_1_0, c2_1_1, f2_1_1, c2_1_2, f2_1_2, hz2_0, hz2_1]; done)
  have f3_0_0 : w3.frozen? ⟨w.heap.size, 0, none⟩ = false := by
    rw [hf3 _ _ (by first | omega | (simp only [World.size_alloc, World.size_setCell]; omega))]
    first | assumption | (simp [go_sem, c2_0_0, f2_0_0, c2_0_1, f2_0_1, c2_0_2, f2_0_2, c2_1_0, f2_1_0, c2_1_1, f2_1_1, c2_1_2, f2_1_2, hz2_0, hz2_1]; done)
  have c3_0_1 : w3.cell? ⟨w.heap.size, 1, none⟩ = some (.slice aX (ws XX).length cX) := by
    rw [hc3 _ _ (by first | omega | (simp only [World.size_alloc, World.size_setCell]; omega))]
    first | assumption | (simp [go_sem, c2_0_0, f2_0_0, c2_0_1, f2_0_1, c2_0_2, f2_0_2, c2_1_0, f2_1_0, c2_1_1, f2_1_1, c2_1_2, f2_1_2, hz2_0, hz2_1]; done)
  have f3_0_1 : w3.frozen? ⟨w.heap.size, 1, none⟩ = false := by
    rw [hf3 _ _ (by first | omega | (simp only [World.size_alloc, World.size_setCell]; omega))]
    first | assumption | (simp [go_sem, c2_0_0, f2_0_0, c2_0_1, f2_0_1, c2_0_2, f2_0_2, c2_1_0, f2_1_0, c2_1_1, f2_1_1, c2_1_2, f2_1_2, hz2_0, hz2_1]; done)
  have c3_0_2 : w3.cell? ⟨w.heap.size, 2, none⟩ = some (.int .i64 eX) := by
    rw [hc3 _ _ (by first | omega | (simp only [World.size_alloc, World.size_setCell]; omega))]
    first | assumption | (simp [go_sem, c2_0_0, f2_0_0, c2_0_1, f2_0_1, c2_0_2, f2_0_2, c2_1_0, f2_1_0, c2_1_1, f2_1_1, c2_1_2, f2_1_2, hz2_0, hz2_1]; done)
  have f3_0_2 : w3.frozen? ⟨w.heap.size, 2, none⟩ = false := by
    rw [hf3 _ _ (by first | omega | (simp only [World.size_alloc, World.size_setCell]; omega))]
    first | assumption | (simp [go_sem, c2_0_0, f2_0_0, c2_0_1, f2_0_1, c2_0_2, f2_0_2, c2_1_0, f2_1_0, c2_1_1, f2_1_1, c2_1_2, f2_1_2, hz2_0, hz2_1]; done)
  have c3_1_0 : w3.cell? ⟨w.heap.size + 1, 0, none⟩ = some (.bool nY) := by
    rw [hc3 _ _ (by first | omega | (simp only [World.size_alloc, World.size_setCell]; omega))]
    first | assumption | (simp [go_sem, c2_0_0, f2_0_0, c2_0_1, f2_0_1, c2_0_2, f2_0_2, c2_1_0, f2_1_0, c2_1_1, f2_1_1, c2_1_2, f2_1_2, hz2_0, hz2_1]; done)
  have f3_1_0 : w3.frozen? ⟨w.heap.size + 1, 0, none⟩ = false := by
    rw [hf3 _ _ (by first | omega | (simp only [World.size_alloc, World.size_setCell]; omega))]
    first | assumption | (simp [go_sem, c2_0_0, f2_0_0, c2_0_1, f2_0_1, c2_0_2, f2_0_2, c2_1_0, f2_1_0, c2_1_1, f2_1_1, c2_1_2, f2_1_2, hz2_0, hz2_1]; done)
  have c3_1_1 : w3.cell? ⟨w.heap.size + 1, 1, none⟩ = some (.slice aY (ws XY).length cY) := by
    rw [hc3 _ _ (by first | omega | (simp only [World.size_alloc, World.size_setCell]; omega))]
    first | assumption | (simp [go_sem, c2_0_0, f2_0_0, c2_0_1, f2_0_1, c2_0_2, f2_0_2, c2_1_0, f2_1_0, c2_1_1, f2_1_1, c2_1_2, f2_1_2, hz2_0, hz2_1]; done)
  have f3_1_1 : w3.frozen? ⟨w.heap.size + 1, 1, none⟩ = false := by
    rw [hf3 _ _ (by first | omega | (simp only [World.size_alloc, World.size_setCell]; omega))]
    first | assumption | (simp [go_sem, c2_0_0, f2_0_0, c2_0_1, f2_0_1, c2_0_2, f2_0_2, c2_1_0, f2_1_0, c2_1_1, f2_1_1, c2_1_2, f2_1_2, hz2_0, hz2_1]; done)
  have c3_1_2 : w3.cell? ⟨w.heap.size + 1, 2, none⟩ = some (.int .i64 eY) := by
    rw [hc3 _ _ (by first | omega | (simp only [World.size_alloc, World.size_setCell]; omega))]
    first | assumption | (simp [go_sem, c2_0_0, f2_0_0, c2_0_1, f2_0_1, c2_0_2, f2_0_2, c2_1_0, f2_1_0, c2_1_1, f2_1_1, c2_1_2, f2_1_2, hz2_0, hz2_1]; done)
  have f3_1_2 : w3.frozen? ⟨w.heap.size + 1, 2, none⟩ = false := by
    rw [hf3 _ _ (by first | omega | (simp only [World.size_alloc, World.size_setCell]; omega))]
    first | assumption | (simp [go_sem, c2_0_0, f2_0_0, c2_0_1, f2_0_1, c2_0_2, f2_0_2, c2_1_0, f2_1_0, c2_1_1, f2_1_1, c2_1_2, f2_1_2, hz2_0, hz2_1]; done)
  clear hc3 hf3 c2_0_0 f2_0_0 c2_0_1 f2_0_1 c2_0_2 f2_0_2 c2_1_0 f2_1_0 c2_1_1 f2_1_1 c2_1_2 f2_1_2
  obtain ⟨U1, hU1⟩ : ∃ U, U = w3.alloc (.cells #[.bool nS, .slice aS (ws XS).length cS, .int .i64 eS] 43) := ⟨_, rfl⟩
  have Z1 := Aside.intro (Tr.begin U1 S3.out rfl (by omega) ⟨c3_0_0, c3_0_1, c3_0_2, c3_1_0, c3_1_1, c3_1_2⟩ AX AY AS hU1)
  clear S3 AX AY AS c3_0_0 f3_0_0 c3_0_1 f3_0_1 c3_0_2 f3_0_2 c3_1_0 f3_1_0 c3_1_1 f3_1_1 c3_1_2 f3_1_2 hy1 hy2 hy3 hz1_0 hz1_1 hz2_0 hz2_1 hz3_0 hz3_1
  go_upto_region 6 with fail
  rw [← hU1]
  clear hU1
  obtain ⟨h, hh⟩ : ∃ h, w3.heap.size = h := ⟨_, rfl⟩
  rw [hh] at Z1 ⊢
  clear hh
  obtain ⟨g, hg⟩ : ∃ g, w.heap.size = g := ⟨_, rfl⟩
  rw [hg] at Z1 ⊢
  clear hg
  go_cut [13] from 31 to 35 (fun v wx => v = .bool true ∧ Aside (Tr w wx g h nX nY nS aX aY aS XX XY XS cX cY cS eX eY eS))
  case first =>
    obtain ⟨k0, k1, k2, k3, k4, k5, k6, k7, k8⟩ := Z1.out.facts
    go_region_held3 (fun w' => w'.cell? ⟨g, 0, none⟩ = some (.bool nX) ∧ w'.cell? ⟨g, 1, none⟩ = some (.slice aX (ws XX).length cX) ∧ w'.cell? ⟨g, 2, none⟩ = some (.int .i64 eX) ∧ w'.cell? ⟨g + 1, 0, none⟩ = some (.bool nY) ∧ w'.cell? ⟨g + 1, 1, none⟩ = some (.slice aY (ws XY).length cY) ∧ w'.cell? ⟨g + 1, 2, none⟩ = some (.int .i64 eY) ∧ w'.cell? ⟨h, 0, none⟩ = some (.bool nS) ∧ w'.cell? ⟨h, 1, none⟩ = some (.slice aS (ws XS).length cS) ∧ w'.cell? ⟨h, 2, none⟩ = some (.int .i64 eS)) (go_keep) (first
      | (go_at_call 48
         first | with_reducible refine (Calls.mono (HJ.out _ aS cS T1.out.aS)) ?_ | with_reducible refine (Calls.mono (HJ.out _ aS cS (T1.out.aS.below ((Below.refl _ _).drew)))) ?_
         rintro r x2 ⟨rfl, hb⟩
         have hb1 : Below x1.heap.size x1 x2 := by first | exact hb | exact ((Below.refl _ x1).drew).trans (hb.mono (Nat.le_refl _)) | exact ((Below.refl _ x1).drew).drew.trans (hb.mono (Nat.le_refl _))
         have T2 := Aside.intro (T1.out.below hb1)
         obtain ⟨m2_0, m2_1, m2_2, m2_3, m2_4, m2_5, m2_6, m2_7, m2_8⟩ := T2.out.facts
         clear hb hb1)
      | (go_at_call 12
         with_reducible refine (Calls.mono (HS.out _)) ?_
         rintro r x1 ⟨rfl, hb⟩
         have hb1 : Below U1.heap.size U1 x1 := by first | exact hb | exact ((Below.refl _ U1).drew).trans (hb.mono (Nat.le_refl _)) | exact ((Below.refl _ U1).drew).drew.trans (hb.mono (Nat.le_refl _))
         have T1 := Aside.intro (Z1.out.below hb1)
         obtain ⟨m1_0, m1_1, m1_2, m1_3, m1_4, m1_5, m1_6, m1_7, m1_8⟩ := T1.out.facts
         clear hb hb1))
    all_goals (
      go_wp2_with fail
      go_meet
      case rel => exact ⟨rfl, T2⟩)
  case rest =>
    obtain ⟨rfl, Z2⟩ := hcut
    obtain ⟨U2, hU⟩ : ∃ U, U = wc := ⟨_, rfl⟩
    subst hU
    clear Z1
    go_upto_region 7 with fail
    go_cut [41] from 36 to 41 (fun v wx => v = .bool false ∧ Aside (Tr w wx g h nX nY nS aX aY aS XX XY XS cX cY cS eX eY eS))
    case first =>
      obtain ⟨k0, k1, k2, k3, k4, k5, k6, k7, k8⟩ := Z2.out.facts
      go_region_held3 (fun w' => w'.cell? ⟨g, 0, none⟩ = some (.bool nX) ∧ w'.cell? ⟨g, 1, none⟩ = some (.slice aX (ws XX).length cX) ∧ w'.cell? ⟨g, 2, none⟩ = some (.int .i64 eX) ∧ w'.cell? ⟨g + 1, 0, none⟩ = some (.bool nY) ∧ w'.cell? ⟨g + 1, 1, none⟩ = some (.slice aY (ws XY).length cY) ∧ w'.cell? ⟨g + 1, 2, none⟩ = some (.int .i64 eY) ∧ w'.cell? ⟨h, 0, none⟩ = some (.bool nS) ∧ w'.cell? ⟨h, 1, none⟩ = some (.slice aS (ws XS).length cS) ∧ w'.cell? ⟨h, 2, none⟩ = some (.int .i64 eS)) (go_keep) (first
        | (go_at_call 49
           first | with_reducible refine (Calls.mono (HC.out _ aX aY cX cY T2.out.aX T2.out.aY)) ?_ | with_reducible refine (Calls.mono (HC.out _ aX aY cX cY (T2.out.aX.below ((Below.refl _ _).drew)) (T2.out.aY.below ((Below.refl _ _).drew)))) ?_
           rintro r x3 ⟨rfl, hb⟩
           have hb1 : Below x2.heap.size x2 x3 := by first | exact hb | exact ((Below.refl _ x2).drew).trans (hb.mono (Nat.le_refl _)) | exact ((Below.refl _ x2).drew).drew.trans (hb.mono (Nat.le_refl _))
           have T3 := Aside.intro (T2.out.below hb1)
           obtain ⟨m3_0, m3_1, m3_2, m3_3, m3_4, m3_5, m3_6, m3_7, m3_8⟩ := T3.out.facts
           clear hb hb1)
        | (go_at_call 50
           with_reducible refine (Calls.mono (size_law _ _ _ _ _ _)) ?_
           rintro r x2 ⟨rfl, hb⟩
           have hb1 : Below x1.heap.size x1 x2 := by first | exact hb | exact ((Below.refl _ x1).drew).trans (hb.mono (Nat.le_refl _)) | exact ((Below.refl _ x1).drew).drew.trans (hb.mono (Nat.le_refl _))
           have T2 := Aside.intro (T1.out.below hb1)
           obtain ⟨m2_0, m2_1, m2_2, m2_3, m2_4, m2_5, m2_6, m2_7, m2_8⟩ := T2.out.facts
           clear hb hb1)
        | (go_at_call 50
           with_reducible refine (Calls.mono (size_law _ _ _ _ _ _)) ?_
           rintro r x1 ⟨rfl, hb⟩
           have hb1 : Below U2.heap.size U2 x1 := by first | exact hb | exact ((Below.refl _ U2).drew).trans (hb.mono (Nat.le_refl _)) | exact ((Below.refl _ U2).drew).drew.trans (hb.mono (Nat.le_refl _))
           have T1 := Aside.intro (Z2.out.below hb1)
           obtain ⟨m1_0, m1_1, m1_2, m1_3, m1_4, m1_5, m1_6, m1_7, m1_8⟩ := T1.out.facts
           clear hb hb1))
      all_goals (
        go_wp2_with fail
        go_meet
        case rel => exact ⟨rfl, T3⟩)
    case rest =>
      obtain ⟨rfl, Z3⟩ := hcut
      obtain ⟨U3, hU⟩ : ∃ U, U = wc := ⟨_, rfl⟩
      subst hU
      clear Z2
      go_wp2
      exact bodyPost_ret (v := .bool true) (by simp [results, Try.results30, go_sem]) rfl ⟨rfl, Z3.out.bel⟩
set_option maxHeartbeats 16000000 in
theorem sums_on_t (fa fb : Nat) (nX nY : Bool) (aX aY : Option Addr) (XX XY cX cY : Nat) (eX eY : Int) (w : World) (AX : Arg w aX (ws XX).length cX (ws XX)) (AY : Arg w aY (ws XY).length cY (ws XY)) (lX : (ws XX).length ≤ 8192) (lY : (ws XY).length ≤ 8192) (nS : Bool) (XS : Nat) (eS cv : Int) (s1 s2 q1 q2 : Nat) (lS : (ws XS).length ≤ 8192) (hq : decide (0 ≤ cv) = true)
    (H1 : Hid (∀ u a c, Arg u a (ws XX).length c (ws XX) → Calls Try.prog 47 #[.agg #[.bool nX, .slice a (ws XX).length c, .int .i64 eX], .int .i64 1022] u fun r w' => r = .returned (.bool true) ∧ Below u.heap.size u w'))
    (H2 : Hid (∀ u a c, Arg u a (ws XY).length c (ws XY) → Calls Try.prog 47 #[.agg #[.bool nY, .slice a (ws XY).length c, .int .i64 eY], .int .i64 1022] u fun r w' => r = .returned (.bool true) ∧ Below u.heap.size u w'))
    (HA : Hid (∀ u a b c d, Arg u a (ws XX).length c (ws XX) → Arg u b (ws XY).length d (ws XY) → Calls Try.prog 35 #[.agg #[.bool nX, .slice a (ws XX).length c, .int .i64 eX], .agg #[.bool nY, .slice b (ws XY).length d, .int .i64 eY]] u fun r w' => (∃ v, r = .returned (.tuple #[.agg #[.bool nS, v, .int .i64 eS], .int .i64 0]) ∧ Nt u.heap.size w' v XS) ∧ Below u.heap.size u w'))
    (HS : Hid (∀ u, Calls Try.prog 12 #[.float .f64 fa, .float .f64 fb] u fun r w' => r = .returned (.agg #[.float .f64 s1, .float .f64 s2]) ∧ Below u.heap.size u w'))
    (HJ : Hid (∀ u a c, Arg u a (ws XS).length c (ws XS) → Calls Try.prog 48 #[.agg #[.float .f64 s1, .float .f64 s2], .agg #[.bool nS, .slice a (ws XS).length c, .int .i64 eS]] u fun r w' => r = .returned (.bool true) ∧ Below u.heap.size u w'))
    (HC : Hid (∀ u a b c d, Arg u a (ws XX).length c (ws XX) → Arg u b (ws XY).length d (ws XY) → Calls Try.prog 49 #[.agg #[.bool false, .slice a (ws XX).length c, .int .i64 eX], .agg #[.bool false, .slice b (ws XY).length d, .int .i64 eY]] u fun r w' => r = .returned (.int .i64 cv) ∧ Below u.heap.size u w'))
    (HQ : Hid (∀ u, Calls Try.prog 18 #[.float .f64 fa, .float .f64 fb] u fun r w' => r = .returned (.agg #[.float .f64 q1, .float .f64 q2]) ∧ Below u.heap.size u w'))
    (HK : Hid (∀ u a c, Arg u a (ws XS).length c (ws XS) → Calls Try.prog 48 #[.agg #[.float .f64 q1, .float .f64 q2], .agg #[.bool nS, .slice a (ws XS).length c, .int .i64 eS]] u fun r w' => r = .returned (.bool true) ∧ Below u.heap.size u w')) :
    Calls Try.prog 30 #[.float .f64 fa, .float .f64 fb, .agg #[.bool nX, .slice aX (ws XX).length cX, .int .i64 eX], .agg #[.bool nY, .slice aY (ws XY).length cY, .int .i64 eY]] w fun r w' => r = .returned (.bool true) ∧ Below w.heap.size w w' := by
  go_enter Try.func30, Try.ntmps30
  go_wp2_with fail
  refine (Calls.mono (H1.out _ _ _ (AX.below (by repeat (first | exact Below.refl _ _ | assumption | exact Nat.le_refl _ | (simp only [World.size_alloc, World.size_setCell]; omega) | omega | refine Below.alloc ?_ ?_ _ | refine Below.setCell ?_ ?_ _ | refine Below.drew ?_))))) ?_
  rintro r w1 ⟨rfl, hb1⟩
  clear H1
  have hy1 : w.heap.size ≤ w1.heap.size := by
    have := hb1.size
    try simp only [World.size_alloc, World.size_setCell] at this
    omega
  have hz1_0 : w.heap.size < w1.heap.size := by
    have := hb1.size
    try simp only [World.size_alloc, World.size_setCell] at this
    omega
  have hz1_1 : w.heap.size + 1 < w1.heap.size := by
    have := hb1.size
    try simp only [World.size_alloc, World.size_setCell] at this
    omega
  have B1 := Aside.intro (Below.trans (B := w.heap.size) (a := w) (by repeat (first | exact Below.refl _ _ | assumption | exact Nat.le_refl _ | (simp only [World.size_alloc, World.size_setCell]; omega) | omega | refine Below.alloc ?_ ?_ _ | refine Below.setCell ?_ ?_ _ | refine Below.drew ?_)) (hb1.mono (by first | omega | (simp only [World.size_alloc, World.size_setCell]; omega))))
  have S1 := B1
  replace AX := AX.below B1.out
  replace AY := AY.below B1.out
  obtain ⟨hc1, hf1⟩ := bcell hb1
  clear hb1 B1
  have c1_0_0 : w1.cell? ⟨w.heap.size, 0, none⟩ = some (.bool nX) := by
    rw [hc1 _ _ (by first | omega | (simp only [World.size_alloc, World.size_setCell]; omega))]
    first | assumption | (simp [go_sem]; done)
  have f1_0_0 : w1.frozen? ⟨w.heap.size, 0, none⟩ = false := by
    rw [hf1 _ _ (by first | omega | (simp only [World.size_alloc, World.size_setCell]; omega))]
    first | assumption | (simp [go_sem]; done)
  have c1_0_1 : w1.cell? ⟨w.heap.size, 1, none⟩ = some (.slice aX (ws XX).length cX) := by
    rw [hc1 _ _ (by first | omega | (simp only [World.size_alloc, World.size_setCell]; omega))]
    first | assumption | (simp [go_sem]; done)
  have f1_0_1 : w1.frozen? ⟨w.heap.size, 1, none⟩ = false := by
    rw [hf1 _ _ (by first | omega | (simp only [World.size_alloc, World.size_setCell]; omega))]
    first | assumption | (simp [go_sem]; done)
  have c1_0_2 : w1.cell? ⟨w.heap.size, 2, none⟩ = some (.int .i64 eX) := by
    rw [hc1 _ _ (by first | omega | (simp only [World.size_alloc, World.size_setCell]; omega))]
    first | assumption | (simp [go_sem]; done)
  have f1_0_2 : w1.frozen? ⟨w.heap.size, 2, none⟩ = false := by
    rw [hf1 _ _ (by first | omega | (simp only [World.size_alloc, World.size_setCell]; omega))]
    first | assumption | (simp [go_sem]; done)
  have c1_1_0 : w1.cell? ⟨w.heap.size + 1, 0, none⟩ = some (.bool nY) := by
    rw [hc1 _ _ (by first | omega | (simp only [World.size_alloc, World.size_setCell]; omega))]
    first | assumption | (simp [go_sem]; done)
  have f1_1_0 : w1.frozen? ⟨w.heap.size + 1, 0, none⟩ = false := by
    rw [hf1 _ _ (by first | omega | (simp only [World.size_alloc, World.size_setCell]; omega))]
    first | assumption | (simp [go_sem]; done)
  have c1_1_1 : w1.cell? ⟨w.heap.size + 1, 1, none⟩ = some (.slice aY (ws XY).length cY) := by
    rw [hc1 _ _ (by first | omega | (simp only [World.size_alloc, World.size_setCell]; omega))]
    first | assumption | (simp [go_sem]; done)
  have f1_1_1 : w1.frozen? ⟨w.heap.size + 1, 1, none⟩ = false := by
    rw [hf1 _ _ (by first | omega | (simp only [World.size_alloc, World.size_setCell]; omega))]
    first | assumption | (simp [go_sem]; done)
  have c1_1_2 : w1.cell? ⟨w.heap.size + 1, 2, none⟩ = some (.int .i64 eY) := by
    rw [hc1 _ _ (by first | omega | (simp only [World.size_alloc, World.size_setCell]; omega))]
    first | assumption | (simp [go_sem]; done)
  have f1_1_2 : w1.frozen? ⟨w.heap.size + 1, 2, none⟩ = false := by
    rw [hf1 _ _ (by first | omega | (simp only [World.size_alloc, World.size_setCell]; omega))]
    first | assumption | (simp [go_sem]; done)
  clear hc1 hf1 
  go_wp2_with fail
  refine (Calls.mono (H2.out _ _ _ (AY.below (by repeat (first | exact Below.refl _ _ | assumption | exact Nat.le_refl _ | (simp only [World.size_alloc, World.size_setCell]; omega) | omega | refine Below.alloc ?_ ?_ _ | refine Below.setCell ?_ ?_ _ | refine Below.drew ?_))))) ?_
  rintro r w2 ⟨rfl, hb2⟩
  clear H2
  have hy2 : w1.heap.size ≤ w2.heap.size := by
    have := hb2.size
    try simp only [World.size_alloc, World.size_setCell] at this
    omega
  have hz2_0 : w.heap.size < w2.heap.size := by
    have := hb2.size
    try simp only [World.size_alloc, World.size_setCell] at this
    omega
  have hz2_1 : w.heap.size + 1 < w2.heap.size := by
    have := hb2.size
    try simp only [World.size_alloc, World.size_setCell] at this
    omega
  have B2 := Aside.intro (Below.trans (B := w1.heap.size) (a := w1) (by repeat (first | exact Below.refl _ _ | assumption | exact Nat.le_refl _ | (simp only [World.size_alloc, World.size_setCell]; omega) | omega | refine Below.alloc ?_ ?_ _ | refine Below.setCell ?_ ?_ _ | refine Below.drew ?_)) (hb2.mono (by first | omega | (simp only [World.size_alloc, World.size_setCell]; omega))))
  have S2 := Aside.intro (S1.out.trans (B2.out.mono S1.out.size))
  clear S1
  replace AX := AX.below B2.out
  replace AY := AY.below B2.out
  obtain ⟨hc2, hf2⟩ := bcell hb2
  clear hb2 B2
  have c2_0_0 : w2.cell? ⟨w.heap.size, 0, none⟩ = some (.bool nX) := by
    rw [hc2 _ _ (by first | omega | (simp only [World.size_alloc, World.size_setCell]; omega))]
    first | assumption | (simp [go_sem, c1_0_0, f1_0_0, c1_0_1, f1_0_1, c1_0_2, f1_0_2, c1_1_0, f1_1_0, c1_1_1, f1_1_1, c1_1_2, f1_1_2, hz1_0, hz1_1]; done)
  have f2_0_0 : w2.frozen? ⟨w.heap.size, 0, none⟩ = false := by
    rw [hf2 _ _ (by first | omega | (simp only [World.size_alloc, World.size_setCell]; omega))]
    first | assumption | (simp [go_sem, c1_0_0, f1_0_0, c1_0_1, f1_0_1, c1_0_2, f1_0_2, c1_1_0, f1_1_0, c1_1_1, f1_1_1, c1_1_2, f1_1_2, hz1_0, hz1_1]; done)
  have c2_0_1 : w2.cell? ⟨w.heap.size, 1, none⟩ = some (.slice aX (ws XX).length cX) := by
    rw [hc2 _ _ (by first | omega | (simp only [World.size_alloc, World.size_setCell]; omega))]
    first | assumption | (simp [go_sem, c1_0_0, f1_0_0, c1_0_1, f1_0_1, c1_0_2, f1_0_2, c1_1_0, f1_1_0, c1_1_1, f1_1_1, c1_1_2, f1_1_2, hz1_0, hz1_1]; done)
  have f2_0_1 : w2.frozen? ⟨w.heap.size, 1, none⟩ = false := by
    rw [hf2 _ _ (by first | omega | (simp only [World.size_alloc, World.size_setCell]; omega))]
    first | assumption | (simp [go_sem, c1_0_0, f1_0_0, c1_0_1, f1_0_1, c1_0_2, f1_0_2, c1_1_0, f1_1_0, c1_1_1, f1_1_1, c1_1_2, f1_1_2, hz1_0, hz1_1]; done)
  have c2_0_2 : w2.cell? ⟨w.heap.size, 2, none⟩ = some (.int .i64 eX) := by
    rw [hc2 _ _ (by first | omega | (simp only [World.size_alloc, World.size_setCell]; omega))]
    first | assumption | (simp [go_sem, c1_0_0, f1_0_0, c1_0_1, f1_0_1, c1_0_2, f1_0_2, c1_1_0, f1_1_0, c1_1_1, f1_1_1, c1_1_2, f1_1_2, hz1_0, hz1_1]; done)
  have f2_0_2 : w2.frozen? ⟨w.heap.size, 2, none⟩ = false := by
    rw [hf2 _ _ (by first | omega | (simp only [World.size_alloc, World.size_setCell]; omega))]
    first | assumption | (simp [go_sem, c1_0_0, f1_0_0, c1_0_1, f1_0_1, c1_0_2, f1_0_2, c1_1_0, f1_1_0, c1_1_1, f1_1_1, c1_1_2, f1_1_2, hz1_0, hz1_1]; done)
  have c2_1_0 : w2.cell? ⟨w.heap.size + 1, 0, none⟩ = some (.bool nY) := by
    rw [hc2 _ _ (by first | omega | (simp only [World.size_alloc, World.size_setCell]; omega))]
    first | assumption | (simp [go_sem, c1_0_0, f1_0_0, c1_0_1, f1_0_1, c1_0_2, f1_0_2, c1_1_0, f1_1_0, c1_1_1, f1_1_1, c1_1_2, f1_1_2, hz1_0, hz1_1]; done)
  have f2_1_0 : w2.frozen? ⟨w.heap.size + 1, 0, none⟩ = false := by
    rw [hf2 _ _ (by first | omega | (simp only [World.size_alloc, World.size_setCell]; omega))]
    first | assumption | (simp [go_sem, c1_0_0, f1_0_0, c1_0_1, f1_0_1, c1_0_2, f1_0_2, c1_1_0, f1_1_0, c1_1_1, f1_1_1, c1_1_2, f1_1_2, hz1_0, hz1_1]; done)
  have c2_1_1 : w2.cell? ⟨w.heap.size + 1, 1, none⟩ = some (.slice aY (ws XY).length cY) := by
    rw [hc2 _ _ (by first | omega | (simp only [World.size_alloc, World.size_setCell]; omega))]
    first | assumption | (simp [go_sem, c1_0_0, f1_0_0, c1_0_1, f1_0_1, c1_0_2, f1_0_2, c1_1_0, f1_1_0, c1_1_1, f1_1_1, c1_1_2, f1_1_2, hz1_0, hz1_1]; done)
  have f2_1_1 : w2.frozen? ⟨w.heap.size + 1, 1, none⟩ = false := by
    rw [hf2 _ _ (by first | omega | (simp only [World.size_alloc, World.size_setCell]; omega))]
    first | assumption | (simp [go_sem, c1_0_0, f1_0_0, c1_0_1, f1_0_1, c1_0_2, f1_0_2, c1_1_0, f1_1_0, c1_1_1, f1_1_1, c1_1_2, f1_1_2, hz1_0, hz1_1]; done)
  have c2_1_2 : w2.cell? ⟨w.heap.size + 1, 2, none⟩ = some (.int .i64 eY) := by
    rw [hc2 _ _ (by first | omega | (simp only [World.size_alloc, World.size_setCell]; omega))]
    first | assumption | (simp [go_sem, c1_0_0, f1_0_0, c1_0_1, f1_0_1, c1_0_2, f1_0_2, c1_1_0, f1_1_0, c1_1_1, f1_1_1, c1_1_2, f1_1_2, hz1_0, hz1_1]; done)
  have f2_1_2 : w2.frozen? ⟨w.heap.size + 1, 2, none⟩ = false := by
    rw [hf2 _ _ (by first | omega | (simp only [World.size_alloc, World.size_setCell]; omega))]
    first | assumption | (simp [go_sem, c1_0_0, f1_0_0, c1_0_1, f1_0_1, c1_0_2, f1_0_2, c1_1_0, f1_1_0, c1_1_1, f1_1_1, c1_1_2, f1_1_2, hz1_0, hz1_1]; done)
  clear hc2 hf2 c1_0_0 f1_0_0 c1_0_1 f1_0_1 c1_0_2 f1_0_2 c1_1_0 f1_1_0 c1_1_1 f1_1_1 c1_1_2 f1_1_2
  go_wp2_with fail
  refine (Calls.mono (HA.out _ _ _ _ _ (AX.below (by repeat (first | exact Below.refl _ _ | assumption | exact Nat.le_refl _ | (simp only [World.size_alloc, World.size_setCell]; omega) | omega | refine Below.alloc ?_ ?_ _ | refine Below.setCell ?_ ?_ _ | refine Below.drew ?_))) (AY.below (by repeat (first | exact Below.refl _ _ | assumption | exact Nat.le_refl _ | (simp only [World.size_alloc, World.size_setCell]; omega) | omega | refine Below.alloc ?_ ?_ _ | refine Below.setCell ?_ ?_ _ | refine Below.drew ?_))))) ?_
  rintro r w3 ⟨⟨v3, rfl, N3⟩, hb3⟩
  obtain ⟨aS, cS, rfl, AS⟩ := N3.arg (by omega)
  clear N3
  clear HA
  have hy3 : w2.heap.size ≤ w3.heap.size := by
    have := hb3.size
    try simp only [World.size_alloc, World.size_setCell] at this
    omega
  have hz3_0 : w.heap.size < w3.heap.size := by
    have := hb3.size
    try simp only [World.size_alloc, World.size_setCell] at this
    omega
  have hz3_1 : w.heap.size + 1 < w3.heap.size := by
    have := hb3.size
    try simp only [World.size_alloc, World.size_setCell] at this
    omega
  have B3 := Aside.intro (Below.trans (B := w2.heap.size) (a := w2) (by repeat (first | exact Below.refl _ _ | assumption | exact Nat.le_refl _ | (simp only [World.size_alloc, World.size_setCell]; omega) | omega | refine Below.alloc ?_ ?_ _ | refine Below.setCell ?_ ?_ _ | refine Below.drew ?_)) (hb3.mono (by first | omega | (simp only [World.size_alloc, World.size_setCell]; omega))))
  have S3 := Aside.intro (S2.out.trans (B3.out.mono S2.out.size))
  clear S2
  replace AX := AX.below B3.out
  replace AY := AY.below B3.out
  obtain ⟨hc3, hf3⟩ := bcell hb3
  clear hb3 B3
  have c3_0_0 : w3.cell? ⟨w.heap.size, 0, none⟩ = some (.bool nX) := by
    rw [hc3 _ _ (by first | omega | (simp only [World.size_alloc, World.size_setCell]; omega))]
    first | assumption | (simp [go_sem, c2_0_0, f2_0_0, c2_0_1, f2_0_1, c2_0_2, f2_0_2, c2_1_0, f2_1_0, c2_1_1, f2_1_1, c2_1_2, f2_1_2, hz2_0, hz2_1]; done)
  have f3_0_0 : w3.frozen? ⟨w.heap.size, 0, none⟩ = false := by
    rw [hf3 _ _ (by first | omega | (simp only [World.size_alloc, World.size_setCell]; omega))]
    first | assumption | (simp [go_sem, c2_0_0, f2_0_0, c2_0_1, f2_0_1, c2_0_2, f2_0_2, c2_1_0, f2_1_0, c2_1_1, f2_1_1, c2_1_2, f2_1_2, hz2_0, hz2_1]; done)
  have c3_0_1 : w3.cell? ⟨w.heap.size, 1, none⟩ = some (.slice aX (ws XX).length cX) := by
    rw [hc3 _ _ (by first | omega | (simp only [World.size_alloc, World.size_setCell]; omega))]
    first | assumption | (simp [go_sem, c2_0_0, f2_0_0, c2_0_1, f2_0_1, c2_0_2, f2_0_2, c2_1_0, f2_1_0, c2_1_1, f2_1_1, c2_1_2, f2_1_2, hz2_0, hz2_1]; done)
  have f3_0_1 : w3.frozen? ⟨w.heap.size, 1, none⟩ = false := by
    rw [hf3 _ _ (by first | omega | (simp only [World.size_alloc, World.size_setCell]; omega))]
    first | assumption | (simp [go_sem, c2_0_0, f2_0_0, c2_0_1, f2_0_1, c2_0_2, f2_0_2, c2_1_0, f2_1_0, c2_1_1, f2_1_1, c2_1_2, f2_1_2, hz2_0, hz2_1]; done)
  have c3_0_2 : w3.cell? ⟨w.heap.size, 2, none⟩ = some (.int .i64 eX) := by
    rw [hc3 _ _ (by first | omega | (simp only [World.size_alloc, World.size_setCell]; omega))]
    first | assumption | (simp [go_sem, c2_0_0, f2_0_0, c2_0_1, f2_0_1, c2_0_2, f2_0_2, c2_1_0, f2_1_0, c2_1_1, f2_1_1, c2_1_2, f2_1_2, hz2_0, hz2_1]; done)
  have f3_0_2 : w3.frozen? ⟨w.heap.size, 2, none⟩ = false := by
    rw [hf3 _ _ (by first | omega | (simp only [World.size_alloc, World.size_setCell]; omega))]
    first | assumption | (simp [go_sem, c2_0_0, f2_0_0, c2_0_1, f2_0_1, c2_0_2, f2_0_2, c2_1_0, f2_1_0, c2_1_1, f2_1_1, c2_1_2, f2_1_2, hz2_0, hz2_1]; done)
  have c3_1_0 : w3.cell? ⟨w.heap.size + 1, 0, none⟩ = some (.bool nY) := by
    rw [hc3 _ _ (by first | omega | (simp only [World.size_alloc, World.size_setCell]; omega))]
    first | assumption | (simp [go_sem, c2_0_0, f2_0_0, c2_0_1, f2_0_1, c2_0_2, f2_0_2, c2_1_0, f2_1_0, c2_1_1, f2_1_1, c2_1_2, f2_1_2, hz2_0, hz2_1]; done)
  have f3_1_0 : w3.frozen? ⟨w.heap.size + 1, 0, none⟩ = false := by
    rw [hf3 _ _ (by first | omega | (simp only [World.size_alloc, World.size_setCell]; omega))]
    first | assumption | (simp [go_sem, c2_0_0, f2_0_0, c2_0_1, f2_0_1, c2_0_2, f2_0_2, c2_1_0, f2_1_0, c2_1_1, f2_1_1, c2_1_2, f2_1_2, hz2_0, hz2_1]; done)
  have c3_1_1 : w3.cell? ⟨w.heap.size + 1, 1, none⟩ = some (.slice aY (ws XY).length cY) := by
    rw [hc3 _ _ (by first | omega | (simp only [World.size_alloc, World.size_setCell]; omega))]
    first | assumption | (simp [go_sem, c2_0_0, f2_0_0, c2_0_1, f2_0_1, c2_0_2, f2_0_2, c2_1_0, f2_1_0, c2_1_1, f2_1_1, c2_1_2, f2_1_2, hz2_0, hz2_1]; done)
  have f3_1_1 : w3.frozen? ⟨w.heap.size + 1, 1, none⟩ = false := by
    rw [hf3 _ _ (by first | omega | (simp only [World.size_alloc, World.size_setCell]; omega))]
    first | assumption | (simp [go_sem, c2_0_0, f2_0_0, c2_0_1, f2_0_1, c2_0_2, f2_0_2, c2_1_0, f2_1_0, c2_1_1, f2_1_1, c2_1_2, f2_1_2, hz2_0, hz2_1]; done)
  have c3_1_2 : w3.cell? ⟨w.heap.size + 1, 2, none⟩ = some (.int .i64 eY) := by
    rw [hc3 _ _ (by first | omega | (simp only [World.size_alloc, World.size_setCell]; omega))]
    first | assumption | (simp [go_sem, c2_0_0, f2_0_0, c2_0_1, f2_0_1, c2_0_2, f2_0_2, c2_1_0, f2_1_0, c2_1_1, f2_1_1, c2_1_2, f2_1_2, hz2_0, hz2_1]; done)
  have f3_1_2 : w3.frozen? ⟨w.heap.size + 1, 2, none⟩ = false := by
    rw [hf3 _ _ (by first | omega | (simp only [World.size_alloc, World.size_setCell]; omega))]
    first | assumption | (simp [go_sem, c2_0_0, f2_0_0, c2_0_1, f2_0_1, c2_0_2, f2_0_2, c2_1_0, f2_1_0, c2_1_1, f2_1_1, c2_1_2, f2_1_2, hz2_0, hz2_1]; done)
  clear hc3 hf3 c2_0_0 f2_0_0 c2_0_1 f2_0_1 c2_0_2 f2_0_2 c2_1_0 f2_1_0 c2_1_1 f2_1_1 c2_1_2 f2_1_2
  obtain ⟨U1, hU1⟩ : ∃ U, U = w3.alloc (.cells #[.bool nS, .slice aS (ws XS).length cS, .int .i64 eS] 43) := ⟨_, rfl⟩
  have Z1 := Aside.intro (Tr.begin U1 S3.out rfl (by omega) ⟨c3_0_0, c3_0_1, c3_0_2, c3_1_0, c3_1_1, c3_1_2⟩ AX AY AS hU1)
  clear S3 AX AY AS c3_0_0 f3_0_0 c3_0_1 f3_0_1 c3_0_2 f3_0_2 c3_1_0 f3_1_0 c3_1_1 f3_1_1 c3_1_2 f3_1_2 hy1 hy2 hy3 hz1_0 hz1_1 hz2_0 hz2_1 hz3_0 hz3_1
  go_upto_region 6 with fail
  rw [← hU1]
  clear hU1
  obtain ⟨h, hh⟩ : ∃ h, w3.heap.size = h := ⟨_, rfl⟩
  rw [hh] at Z1 ⊢
  clear hh
  obtain ⟨g, hg⟩ : ∃ g, w.heap.size = g := ⟨_, rfl⟩
  rw [hg] at Z1 ⊢
  clear hg
  go_cut [13] from 31 to 35 (fun v wx => v = .bool true ∧ Aside (Tr w wx g h nX nY nS aX aY aS XX XY XS cX cY cS eX eY eS))
  case first =>
    obtain ⟨k0, k1, k2, k3, k4, k5, k6, k7, k8⟩ := Z1.out.facts
    go_region_held3 (fun w' => w'.cell? ⟨g, 0, none⟩ = some (.bool nX) ∧ w'.cell? ⟨g, 1, none⟩ = some (.slice aX (ws XX).length cX) ∧ w'.cell? ⟨g, 2, none⟩ = some (.int .i64 eX) ∧ w'.cell? ⟨g + 1, 0, none⟩ = some (.bool nY) ∧ w'.cell? ⟨g + 1, 1, none⟩ = some (.slice aY (ws XY).length cY) ∧ w'.cell? ⟨g + 1, 2, none⟩ = some (.int .i64 eY) ∧ w'.cell? ⟨h, 0, none⟩ = some (.bool nS) ∧ w'.cell? ⟨h, 1, none⟩ = some (.slice aS (ws XS).length cS) ∧ w'.cell? ⟨h, 2, none⟩ = some (.int .i64 eS)) (go_keep) (first
      | (go_at_call 48
         first | with_reducible refine (Calls.mono (HJ.out _ aS cS T1.out.aS)) ?_ | with_reducible refine (Calls.mono (HJ.out _ aS cS (T1.out.aS.below ((Below.refl _ _).drew)))) ?_
         rintro r x2 ⟨rfl, hb⟩
         have hb1 : Below x1.heap.size x1 x2 := by first | exact hb | exact ((Below.refl _ x1).drew).trans (hb.mono (Nat.le_refl _)) | exact ((Below.refl _ x1).drew).drew.trans (hb.mono (Nat.le_refl _))
         have T2 := Aside.intro (T1.out.below hb1)
         obtain ⟨m2_0, m2_1, m2_2, m2_3, m2_4, m2_5, m2_6, m2_7, m2_8⟩ := T2.out.facts
         clear hb hb1)
      | (go_at_call 12
         with_reducible refine (Calls.mono (HS.out _)) ?_
         rintro r x1 ⟨rfl, hb⟩
         have hb1 : Below U1.heap.size U1 x1 := by first | exact hb | exact ((Below.refl _ U1).drew).trans (hb.mono (Nat.le_refl _)) | exact ((Below.refl _ U1).drew).drew.trans (hb.mono (Nat.le_refl _))
         have T1 := Aside.intro (Z1.out.below hb1)
         obtain ⟨m1_0, m1_1, m1_2, m1_3, m1_4, m1_5, m1_6, m1_7, m1_8⟩ := T1.out.facts
         clear hb hb1))
    all_goals (
      go_wp2_with fail
      go_meet
      case rel => exact ⟨rfl, T2⟩)
  case rest =>
    obtain ⟨rfl, Z2⟩ := hcut
    obtain ⟨U2, hU⟩ : ∃ U, U = wc := ⟨_, rfl⟩
    subst hU
    clear Z1
    go_upto_region 7 with fail
    go_cut [41] from 36 to 41 (fun v wx => v = .bool true ∧ Aside (Tr w wx g h nX nY nS aX aY aS XX XY XS cX cY cS eX eY eS))
    case first =>
      obtain ⟨k0, k1, k2, k3, k4, k5, k6, k7, k8⟩ := Z2.out.facts
      go_region_held3 (fun w' => w'.cell? ⟨g, 0, none⟩ = some (.bool nX) ∧ w'.cell? ⟨g, 1, none⟩ = some (.slice aX (ws XX).length cX) ∧ w'.cell? ⟨g, 2, none⟩ = some (.int .i64 eX) ∧ w'.cell? ⟨g + 1, 0, none⟩ = some (.bool nY) ∧ w'.cell? ⟨g + 1, 1, none⟩ = some (.slice aY (ws XY).length cY) ∧ w'.cell? ⟨g + 1, 2, none⟩ = some (.int .i64 eY) ∧ w'.cell? ⟨h, 0, none⟩ = some (.bool nS) ∧ w'.cell? ⟨h, 1, none⟩ = some (.slice aS (ws XS).length cS) ∧ w'.cell? ⟨h, 2, none⟩ = some (.int .i64 eS)) (go_keep) (first
        | (go_at_call 49
           first | with_reducible refine (Calls.mono (HC.out _ aX aY cX cY T2.out.aX T2.out.aY)) ?_ | with_reducible refine (Calls.mono (HC.out _ aX aY cX cY (T2.out.aX.below ((Below.refl _ _).drew)) (T2.out.aY.below ((Below.refl _ _).drew)))) ?_
           rintro r x3 ⟨rfl, hb⟩
           have hb1 : Below x2.heap.size x2 x3 := by first | exact hb | exact ((Below.refl _ x2).drew).trans (hb.mono (Nat.le_refl _)) | exact ((Below.refl _ x2).drew).drew.trans (hb.mono (Nat.le_refl _))
           have T3 := Aside.intro (T2.out.below hb1)
           obtain ⟨m3_0, m3_1, m3_2, m3_3, m3_4, m3_5, m3_6, m3_7, m3_8⟩ := T3.out.facts
           clear hb hb1)
        | (go_at_call 50
           with_reducible refine (Calls.mono (size_law _ _ _ _ _ _)) ?_
           rintro r x2 ⟨rfl, hb⟩
           have hb1 : Below x1.heap.size x1 x2 := by first | exact hb | exact ((Below.refl _ x1).drew).trans (hb.mono (Nat.le_refl _)) | exact ((Below.refl _ x1).drew).drew.trans (hb.mono (Nat.le_refl _))
           have T2 := Aside.intro (T1.out.below hb1)
           obtain ⟨m2_0, m2_1, m2_2, m2_3, m2_4, m2_5, m2_6, m2_7, m2_8⟩ := T2.out.facts
           clear hb hb1)
        | (go_at_call 50
           with_reducible refine (Calls.mono (size_law _ _ _ _ _ _)) ?_
           rintro r x1 ⟨rfl, hb⟩
           have hb1 : Below U2.heap.size U2 x1 := by first | exact hb | exact ((Below.refl _ U2).drew).trans (hb.mono (Nat.le_refl _)) | exact ((Below.refl _ U2).drew).drew.trans (hb.mono (Nat.le_refl _))
           have T1 := Aside.intro (Z2.out.below hb1)
           obtain ⟨m1_0, m1_1, m1_2, m1_3, m1_4, m1_5, m1_6, m1_7, m1_8⟩ := T1.out.facts
           clear hb hb1))
      all_goals (
        go_wp2_with fail
        go_meet
        case rel => exact ⟨rfl, T3⟩)
    case rest =>
      obtain ⟨rfl, Z3⟩ := hcut
      obtain ⟨U3, hU⟩ : ∃ U, U = wc := ⟨_, rfl⟩
      subst hU
      clear Z2
      go_upto_region 8 with fail
      go_cut [14] from 42 to 46 (fun v wx => v = .bool true ∧ Aside (Tr w wx g h nX nY nS aX aY aS XX XY XS cX cY cS eX eY eS))
      case first =>
        obtain ⟨k0, k1, k2, k3, k4, k5, k6, k7, k8⟩ := Z3.out.facts
        go_region_held3 (fun w' => w'.cell? ⟨g, 0, none⟩ = some (.bool nX) ∧ w'.cell? ⟨g, 1, none⟩ = some (.slice aX (ws XX).length cX) ∧ w'.cell? ⟨g, 2, none⟩ = some (.int .i64 eX) ∧ w'.cell? ⟨g + 1, 0, none⟩ = some (.bool nY) ∧ w'.cell? ⟨g + 1, 1, none⟩ = some (.slice aY (ws XY).length cY) ∧ w'.cell? ⟨g + 1, 2, none⟩ = some (.int .i64 eY) ∧ w'.cell? ⟨h, 0, none⟩ = some (.bool nS) ∧ w'.cell? ⟨h, 1, none⟩ = some (.slice aS (ws XS).length cS) ∧ w'.cell? ⟨h, 2, none⟩ = some (.int .i64 eS)) (go_keep) (first
          | (go_at_call 48
             first | with_reducible refine (Calls.mono (HK.out _ aS cS T1.out.aS)) ?_ | with_reducible refine (Calls.mono (HK.out _ aS cS (T1.out.aS.below ((Below.refl _ _).drew)))) ?_
             rintro r x2 ⟨rfl, hb⟩
             have hb1 : Below x1.heap.size x1 x2 := by first | exact hb | exact ((Below.refl _ x1).drew).trans (hb.mono (Nat.le_refl _)) | exact ((Below.refl _ x1).drew).drew.trans (hb.mono (Nat.le_refl _))
             have T2 := Aside.intro (T1.out.below hb1)
             obtain ⟨m2_0, m2_1, m2_2, m2_3, m2_4, m2_5, m2_6, m2_7, m2_8⟩ := T2.out.facts
             clear hb hb1)
          | (go_at_call 18
             with_reducible refine (Calls.mono (HQ.out _)) ?_
             rintro r x1 ⟨rfl, hb⟩
             have hb1 : Below U3.heap.size U3 x1 := by first | exact hb | exact ((Below.refl _ U3).drew).trans (hb.mono (Nat.le_refl _)) | exact ((Below.refl _ U3).drew).drew.trans (hb.mono (Nat.le_refl _))
             have T1 := Aside.intro (Z3.out.below hb1)
             obtain ⟨m1_0, m1_1, m1_2, m1_3, m1_4, m1_5, m1_6, m1_7, m1_8⟩ := T1.out.facts
             clear hb hb1))
        all_goals (
          go_wp2_with fail
          go_meet
          case rel => exact ⟨rfl, T2⟩)
      case rest =>
        obtain ⟨rfl, Z4⟩ := hcut
        obtain ⟨U4, hU⟩ : ∃ U, U = wc := ⟨_, rfl⟩
        subst hU
        clear Z3
        go_wp2
        exact bodyPost_ret (v := .bool true) (by simp [results, Try.results30, go_sem]) rfl ⟨rfl, Z4.out.bel⟩
end Go.Proofs.Ythilnddhehbjiab

