/- PairNear: the walk. -/
import Derived.Deep.RegionWith
import Derived.Test.YthilnddhehbjiabJ37x
import Derived.BigQuiet
import Derived.Deep.CutRange
import Derived.Deep.RegionHeld3
namespace Go.Proofs.Ythilnddhehbjiab
open Go.RowKit J
set_option linter.unusedVariables false
set_option maxRecDepth 20000
set_option linter.unusedSimpArgs false
attribute [local go_sem] st_float

structure Sp (w v : World) (g h k : Nat) (pa pb qa qb : Nat) (nS nM : Bool) (aS aM : Option Addr) (XS cS XM cM : Nat) (eS eM : Int) : Prop where
  bel : Below w.heap.size w v
  lt0 : g < v.heap.size
  lt1 : g + 1 < v.heap.size
  lt2 : h < v.heap.size
  lt3 : k < v.heap.size
  facts : v.cell? ⟨g, 0, none⟩ = some (.float .f64 pa) ∧ v.cell? ⟨g, 1, none⟩ = some (.float .f64 pb) ∧ v.cell? ⟨g + 1, 0, none⟩ = some (.float .f64 qa) ∧ v.cell? ⟨g + 1, 1, none⟩ = some (.float .f64 qb) ∧ v.cell? ⟨h, 0, none⟩ = some (.bool nS) ∧ v.cell? ⟨h, 1, none⟩ = some (.slice aS (ws XS).length cS) ∧ v.cell? ⟨h, 2, none⟩ = some (.int .i64 eS) ∧ v.cell? ⟨k, 0, none⟩ = some (.bool nM) ∧ v.cell? ⟨k, 1, none⟩ = some (.slice aM (ws XM).length cM) ∧ v.cell? ⟨k, 2, none⟩ = some (.int .i64 eM)
  AS : Arg v aS (ws XS).length cS (ws XS)
  AM : Arg v aM (ws XM).length cM (ws XM)
theorem Sp.below {w v y : World} {g h k : Nat} {pa pb qa qb : Nat} {nS nM : Bool} {aS aM : Option Addr} {XS cS XM cM : Nat} {eS eM : Int} (t : Sp w v g h k pa pb qa qb nS nM aS aM XS cS XM cM eS eM) (hb : Below v.heap.size v y) : Sp w y g h k pa pb qa qb nS nM aS aM XS cS XM cM eS eM := by
  obtain ⟨f0, f1, f2, f3, f4, f5, f6, f7, f8, f9⟩ := t.facts
  obtain ⟨hc, _⟩ := bcell hb
  have hs := hb.size
  exact ⟨t.bel.trans (hb.mono t.bel.size), Nat.lt_of_lt_of_le t.lt0 hs, Nat.lt_of_lt_of_le t.lt1 hs, Nat.lt_of_lt_of_le t.lt2 hs, Nat.lt_of_lt_of_le t.lt3 hs, ⟨by rw [hc _ _ t.lt0]; exact f0, by rw [hc _ _ t.lt0]; exact f1, by rw [hc _ _ t.lt1]; exact f2, by rw [hc _ _ t.lt1]; exact f3, by rw [hc _ _ t.lt2]; exact f4, by rw [hc _ _ t.lt2]; exact f5, by rw [hc _ _ t.lt2]; exact f6, by rw [hc _ _ t.lt3]; exact f7, by rw [hc _ _ t.lt3]; exact f8, by rw [hc _ _ t.lt3]; exact f9⟩, t.AS.below hb, t.AM.below hb⟩
set_option maxHeartbeats 16000000 in
theorem near_ff (pa pb qa qb : Nat) (w : World)
    (HG : Hid (∀ u, Calls Try.prog 33 #[.agg #[.float .f64 pa, .float .f64 pb]] u fun r w' => r = .returned (.bool false) ∧ Below u.heap.size u w'))
    (HK : Hid (∀ u, Calls Try.prog 33 #[.agg #[.float .f64 qa, .float .f64 qb]] u fun r w' => r = .returned (.bool false) ∧ Below u.heap.size u w')) :
    Calls Try.prog 6 #[.agg #[.float .f64 pa, .float .f64 pb], .agg #[.float .f64 qa, .float .f64 qb]] w fun r w' => r = .returned (.bool true) ∧ Below w.heap.size w w' := by
  go_enter Try.func6, Try.ntmps6
  go_wp2_with fail
  refine (Calls.mono (awake_all _)) ?_
  rintro r w1 ⟨rfl, hb1⟩
  have hy1 : w.heap.size ≤ w1.heap.size := by
    have := hb1.size
    try simp only [World.size_alloc, World.size_setCell] at this
    omega
  have hz1_0 : w.heap.size < w1.heap.size := by
    have := hb1.size
    try simp only [World.size_alloc, World.size_setCell] at this
    omega
  have hz1_1 : w.heap.size + 1 < w1.heap.size := by
    have := hb1.size
    try simp only [World.size_alloc, World.size_setCell] at this
    omega
  have B1 := Aside.intro (Below.trans (B := w.heap.size) (a := w) (by repeat (first | exact Below.refl _ _ | assumption | exact Nat.le_refl _ | (simp only [World.size_alloc, World.size_setCell]; omega) | omega | refine Below.alloc ?_ ?_ _ | refine Below.setCell ?_ ?_ _ | refine Below.drew ?_)) (hb1.mono (by first | omega | (simp only [World.size_alloc, World.size_setCell]; omega))))
  have S1 := B1
  obtain ⟨hc1, hf1⟩ := bcell hb1
  clear hb1 B1
  have c1_0_0 : w1.cell? ⟨w.heap.size, 0, none⟩ = some (.float .f64 pa) := by
    rw [hc1 _ _ (by first | omega | (simp only [World.size_alloc, World.size_setCell]; omega))]
    first | assumption | (simp [go_sem]; done)
  have f1_0_0 : w1.frozen? ⟨w.heap.size, 0, none⟩ = false := by
    rw [hf1 _ _ (by first | omega | (simp only [World.size_alloc, World.size_setCell]; omega))]
    first | assumption | (simp [go_sem]; done)
  have c1_0_1 : w1.cell? ⟨w.heap.size, 1, none⟩ = some (.float .f64 pb) := by
    rw [hc1 _ _ (by first | omega | (simp only [World.size_alloc, World.size_setCell]; omega))]
    first | assumption | (simp [go_sem]; done)
  have f1_0_1 : w1.frozen? ⟨w.heap.size, 1, none⟩ = false := by
    rw [hf1 _ _ (by first | omega | (simp only [World.size_alloc, World.size_setCell]; omega))]
    first | assumption | (simp [go_sem]; done)
  have c1_1_0 : w1.cell? ⟨w.heap.size + 1, 0, none⟩ = some (.float .f64 qa) := by
    rw [hc1 _ _ (by first | omega | (simp only [World.size_alloc, World.size_setCell]; omega))]
    first | assumption | (simp [go_sem]; done)
  have f1_1_0 : w1.frozen? ⟨w.heap.size + 1, 0, none⟩ = false := by
    rw [hf1 _ _ (by first | omega | (simp only [World.size_alloc, World.size_setCell]; omega))]
    first | assumption | (simp [go_sem]; done)
  have c1_1_1 : w1.cell? ⟨w.heap.size + 1, 1, none⟩ = some (.float .f64 qb) := by
    rw [hc1 _ _ (by first | omega | (simp only [World.size_alloc, World.size_setCell]; omega))]
    first | assumption | (simp [go_sem]; done)
  have f1_1_1 : w1.frozen? ⟨w.heap.size + 1, 1, none⟩ = false := by
    rw [hf1 _ _ (by first | omega | (simp only [World.size_alloc, World.size_setCell]; omega))]
    first | assumption | (simp [go_sem]; done)
  clear hc1 hf1 
  go_wp2_with fail
  refine (Calls.mono (HG.out _)) ?_
  rintro r w2 ⟨rfl, hb2⟩
  clear HG
  have hy2 : w1.heap.size ≤ w2.heap.size := by
    have := hb2.size
    try simp only [World.size_alloc, World.size_setCell] at this
    omega
  have hz2_0 : w.heap.size < w2.heap.size := by
    have := hb2.size
    try simp only [World.size_alloc, World.size_setCell] at this
    omega
  have hz2_1 : w.heap.size + 1 < w2.heap.size := by
    have := hb2.size
    try simp only [World.size_alloc, World.size_setCell] at this
    omega
  have B2 := Aside.intro (Below.trans (B := w1.heap.size) (a := w1) (by repeat (first | exact Below.refl _ _ | assumption | exact Nat.le_refl _ | (simp only [World.size_alloc, World.size_setCell]; omega) | omega | refine Below.alloc ?_ ?_ _ | refine Below.setCell ?_ ?_ _ | refine Below.drew ?_)) (hb2.mono (by first | omega | (simp only [World.size_alloc, World.size_setCell]; omega))))
  have S2 := Aside.intro (S1.out.trans (B2.out.mono S1.out.size))
  clear S1
  obtain ⟨hc2, hf2⟩ := bcell hb2
  clear hb2 B2
  have c2_0_0 : w2.cell? ⟨w.heap.size, 0, none⟩ = some (.float .f64 pa) := by
    rw [hc2 _ _ (by first | omega | (simp only [World.size_alloc, World.size_setCell]; omega))]
    first | assumption | (simp [go_sem, c1_0_0, f1_0_0, c1_0_1, f1_0_1, c1_1_0, f1_1_0, c1_1_1, f1_1_1, hz1_0, hz1_1]; done)
  have f2_0_0 : w2.frozen? ⟨w.heap.size, 0, none⟩ = false := by
    rw [hf2 _ _ (by first | omega | (simp only [World.size_alloc, World.size_setCell]; omega))]
    first | assumption | (simp [go_sem, c1_0_0, f1_0_0, c1_0_1, f1_0_1, c1_1_0, f1_1_0, c1_1_1, f1_1_1, hz1_0, hz1_1]; done)
  have c2_0_1 : w2.cell? ⟨w.heap.size, 1, none⟩ = some (.float .f64 pb) := by
    rw [hc2 _ _ (by first | omega | (simp only [World.size_alloc, World.size_setCell]; omega))]
    first | assumption | (simp [go_sem, c1_0_0, f1_0_0, c1_0_1, f1_0_1, c1_1_0, f1_1_0, c1_1_1, f1_1_1, hz1_0, hz1_1]; done)
  have f2_0_1 : w2.frozen? ⟨w.heap.size, 1, none⟩ = false := by
    rw [hf2 _ _ (by first | omega | (simp only [World.size_alloc, World.size_setCell]; omega))]
    first | assumption | (simp [go_sem, c1_0_0, f1_0_0, c1_0_1, f1_0_1, c1_1_0, f1_1_0, c1_1_1, f1_1_1, hz1_0, hz1_1]; done)
  have c2_1_0 : w2.cell? ⟨w.heap.size + 1, 0, none⟩ = some (.float .f64 qa) := by
    rw [hc2 _ _ (by first | omega | (simp only [World.size_alloc, World.size_setCell]; omega))]
    first | assumption | (simp [go_sem, c1_0_0, f1_0_0, c1_0_1, f1_0_1, c1_1_0, f1_1_0, c1_1_1, f1_1_1, hz1_0, hz1_1]; done)
  have f2_1_0 : w2.frozen? ⟨w.heap.size + 1, 0, none⟩ = false := by
    rw [hf2 _ _ (by first | omega | (simp only [World.size_alloc, World.size_setCell]; omega))]
    first | assumption | (simp [go_sem, c1_0_0, f1_0_0, c1_0_1, f1_0_1, c1_1_0, f1_1_0, c1_1_1, f1_1_1, hz1_0, hz1_1]; done)
  have c2_1_1 : w2.cell? ⟨w.heap.size + 1, 1, none⟩ = some (.float .f64 qb) := by
    rw [hc2 _ _ (by first | omega | (simp only [World.size_alloc, World.size_setCell]; omega))]
    first | assumption | (simp [go_sem, c1_0_0, f1_0_0, c1_0_1, f1_0_1, c1_1_0, f1_1_0, c1_1_1, f1_1_1, hz1_0, hz1_1]; done)
  have f2_1_1 : w2.frozen? ⟨w.heap.size + 1, 1, none⟩ = false := by
    rw [hf2 _ _ (by first | omega | (simp only [World.size_alloc, World.size_setCell]; omega))]
    first | assumption | (simp [go_sem, c1_0_0, f1_0_0, c1_0_1, f1_0_1, c1_1_0, f1_1_0, c1_1_1, f1_1_1, hz1_0, hz1_1]; done)
  clear hc2 hf2 c1_0_0 f1_0_0 c1_0_1 f1_0_1 c1_1_0 f1_1_0 c1_1_1 f1_1_1
  go_wp2_with fail
  refine (Calls.mono (HK.out _)) ?_
  rintro r w3 ⟨rfl, hb3⟩
  clear HK
  have hy3 : w2.heap.size ≤ w3.heap.size := by
    have := hb3.size
    try simp only [World.size_alloc, World.size_setCell] at this
    omega
  have hz3_0 : w.heap.size < w3.heap.size := by
    have := hb3.size
    try simp only [World.size_alloc, World.size_setCell] at this
    omega
  have hz3_1 : w.heap.size + 1 < w3.heap.size := by
    have := hb3.size
    try simp only [World.size_alloc, World.size_setCell] at this
    omega
  have B3 := Aside.intro (Below.trans (B := w2.heap.size) (a := w2) (by repeat (first | exact Below.refl _ _ | assumption | exact Nat.le_refl _ | (simp only [World.size_alloc, World.size_setCell]; omega) | omega | refine Below.alloc ?_ ?_ _ | refine Below.setCell ?_ ?_ _ | refine Below.drew ?_)) (hb3.mono (by first | omega | (simp only [World.size_alloc, World.size_setCell]; omega))))
  have S3 := Aside.intro (S2.out.trans (B3.out.mono S2.out.size))
  clear S2
  obtain ⟨hc3, hf3⟩ := bcell hb3
  clear hb3 B3
  have c3_0_0 : w3.cell? ⟨w.heap.size, 0, none⟩ = some (.float .f64 pa) := by
    rw [hc3 _ _ (by first | omega | (simp only [World.size_alloc, World.size_setCell]; omega))]
    first | assumption | (simp [go_sem, c2_0_0, f2_0_0, c2_0_1, f2_0_1, c2_1_0, f2_1_0, c2_1_1, f2_1_1, hz2_0, hz2_1]; done)
  have f3_0_0 : w3.frozen? ⟨w.heap.size, 0, none⟩ = false := by
    rw [hf3 _ _ (by first | omega | (simp only [World.size_alloc, World.size_setCell]; omega))]
    first | assumption | (simp [go_sem, c2_0_0, f2_0_0, c2_0_1, f2_0_1, c2_1_0, f2_1_0, c2_1_1, f2_1_1, hz2_0, hz2_1]; done)
  have c3_0_1 : w3.cell? ⟨w.heap.size, 1, none⟩ = some (.float .f64 pb) := by
    rw [hc3 _ _ (by first | omega | (simp only [World.size_alloc, World.size_setCell]; omega))]
    first | assumption | (simp [go_sem, c2_0_0, f2_0_0, c2_0_1, f2_0_1, c2_1_0, f2_1_0, c2_1_1, f2_1_1, hz2_0, hz2_1]; done)
  have f3_0_1 : w3.frozen? ⟨w.heap.size, 1, none⟩ = false := by
    rw [hf3 _ _ (by first | omega | (simp only [World.size_alloc, World.size_setCell]; omega))]
    first | assumption | (simp [go_sem, c2_0_0, f2_0_0, c2_0_1, f2_0_1, c2_1_0, f2_1_0, c2_1_1, f2_1_1, hz2_0, hz2_1]; done)
  have c3_1_0 : w3.cell? ⟨w.heap.size + 1, 0, none⟩ = some (.float .f64 qa) := by
    rw [hc3 _ _ (by first | omega | (simp only [World.size_alloc, World.size_setCell]; omega))]
    first | assumption | (simp [go_sem, c2_0_0, f2_0_0, c2_0_1, f2_0_1, c2_1_0, f2_1_0, c2_1_1, f2_1_1, hz2_0, hz2_1]; done)
  have f3_1_0 : w3.frozen? ⟨w.heap.size + 1, 0, none⟩ = false := by
    rw [hf3 _ _ (by first | omega | (simp only [World.size_alloc, World.size_setCell]; omega))]
    first | assumption | (simp [go_sem, c2_0_0, f2_0_0, c2_0_1, f2_0_1, c2_1_0, f2_1_0, c2_1_1, f2_1_1, hz2_0, hz2_1]; done)
  have c3_1_1 : w3.cell? ⟨w.heap.size + 1, 1, none⟩ = some (.float .f64 qb) := by
    rw [hc3 _ _ (by first | omega | (simp only [World.size_alloc, World.size_setCell]; omega))]
    first | assumption | (simp [go_sem, c2_0_0, f2_0_0, c2_0_1, f2_0_1, c2_1_0, f2_1_0, c2_1_1, f2_1_1, hz2_0, hz2_1]; done)
  have f3_1_1 : w3.frozen? ⟨w.heap.size + 1, 1, none⟩ = false := by
    rw [hf3 _ _ (by first | omega | (simp only [World.size_alloc, World.size_setCell]; omega))]
    first | assumption | (simp [go_sem, c2_0_0, f2_0_0, c2_0_1, f2_0_1, c2_1_0, f2_1_0, c2_1_1, f2_1_1, hz2_0, hz2_1]; done)
  clear hc3 hf3 c2_0_0 f2_0_0 c2_0_1 f2_0_1 c2_1_0 f2_1_0 c2_1_1 f2_1_1
  go_wp2
  have SS := S3.out
  exact bodyPost_ret (v := .bool true) (by simp [results, Try.results6, go_sem, c3_0_0, f3_0_0, c3_0_1, f3_0_1, c3_1_0, f3_1_0, c3_1_1, f3_1_1, hz3_0, hz3_1]) rfl ⟨rfl, (by repeat (first | exact Below.refl _ _ | assumption | exact Nat.le_refl _ | (simp only [World.size_alloc, World.size_setCell]; omega) | omega | refine Below.alloc ?_ ?_ _ | refine Below.setCell ?_ ?_ _ | refine Below.drew ?_))⟩
set_option maxHeartbeats 16000000 in
theorem near_ft (pa pb qa qb : Nat) (w : World)
    (HG : Hid (∀ u, Calls Try.prog 33 #[.agg #[.float .f64 pa, .float .f64 pb]] u fun r w' => r = .returned (.bool false) ∧ Below u.heap.size u w'))
    (HK : Hid (∀ u, Calls Try.prog 33 #[.agg #[.float .f64 qa, .float .f64 qb]] u fun r w' => r = .returned (.bool true) ∧ Below u.heap.size u w')) :
    Calls Try.prog 6 #[.agg #[.float .f64 pa, .float .f64 pb], .agg #[.float .f64 qa, .float .f64 qb]] w fun r w' => r = .returned (.bool true) ∧ Below w.heap.size w w' := by
  go_enter Try.func6, Try.ntmps6
  go_wp2_with fail
  refine (Calls.mono (awake_all _)) ?_
  rintro r w1 ⟨rfl, hb1⟩
  have hy1 : w.heap.size ≤ w1.heap.size := by
    have := hb1.size
    try simp only [World.size_alloc, World.size_setCell] at this
    omega
  have hz1_0 : w.heap.size < w1.heap.size := by
    have := hb1.size
    try simp only [World.size_alloc, World.size_setCell] at this
    omega
  have hz1_1 : w.heap.size + 1 < w1.heap.size := by
    have := hb1.size
    try simp only [World.size_alloc, World.size_setCell] at this
    omega
  have B1 := Aside.intro (Below.trans (B := w.heap.size) (a := w) (by repeat (first | exact Below.refl _ _ | assumption | exact Nat.le_refl _ | (simp only [World.size_alloc, World.size_setCell]; omega) | omega | refine Below.alloc ?_ ?_ _ | refine Below.setCell ?_ ?_ _ | refine Below.drew ?_)) (hb1.mono (by first | omega | (simp only [World.size_alloc, World.size_setCell]; omega))))
  have S1 := B1
  obtain ⟨hc1, hf1⟩ := bcell hb1
  clear hb1 B1
  have c1_0_0 : w1.cell? ⟨w.heap.size, 0, none⟩ = some (.float .f64 pa) := by
    rw [hc1 _ _ (by first | omega | (simp only [World.size_alloc, World.size_setCell]; omega))]
    first | assumption | (simp [go_sem]; done)
  have f1_0_0 : w1.frozen? ⟨w.heap.size, 0, none⟩ = false := by
    rw [hf1 _ _ (by first | omega | (simp only [World.size_alloc, World.size_setCell]; omega))]
    first | assumption | (simp [go_sem]; done)
  have c1_0_1 : w1.cell? ⟨w.heap.size, 1, none⟩ = some (.float .f64 pb) := by
    rw [hc1 _ _ (by first | omega | (simp only [World.size_alloc, World.size_setCell]; omega))]
    first | assumption | (simp [go_sem]; done)
  have f1_0_1 : w1.frozen? ⟨w.heap.size, 1, none⟩ = false := by
    rw [hf1 _ _ (by first | omega | (simp only [World.size_alloc, World.size_setCell]; omega))]
    first | assumption | (simp [go_sem]; done)
  have c1_1_0 : w1.cell? ⟨w.heap.size + 1, 0, none⟩ = some (.float .f64 qa) := by
    rw [hc1 _ _ (by first | omega | (simp only [World.size_alloc, World.size_setCell]; omega))]
    first | assumption | (simp [go_sem]; done)
  have f1_1_0 : w1.frozen? ⟨w.heap.size + 1, 0, none⟩ = false := by
    rw [hf1 _ _ (by first | omega | (simp only [World.size_alloc, World.size_setCell]; omega))]
    first | assumption | (simp [go_sem]; done)
  have c1_1_1 : w1.cell? ⟨w.heap.size + 1, 1, none⟩ = some (.float .f64 qb) := by
    rw [hc1 _ _ (by first | omega | (simp only [World.size_alloc, World.size_setCell]; omega))]
    first | assumption | (simp [go_sem]; done)
  have f1_1_1 : w1.frozen? ⟨w.heap.size + 1, 1, none⟩ = false := by
    rw [hf1 _ _ (by first | omega | (simp only [World.size_alloc, World.size_setCell]; omega))]
    first | assumption | (simp [go_sem]; done)
  clear hc1 hf1 
  go_wp2_with fail
  refine (Calls.mono (HG.out _)) ?_
  rintro r w2 ⟨rfl, hb2⟩
  clear HG
  have hy2 : w1.heap.size ≤ w2.heap.size := by
    have := hb2.size
    try simp only [World.size_alloc, World.size_setCell] at this
    omega
  have hz2_0 : w.heap.size < w2.heap.size := by
    have := hb2.size
    try simp only [World.size_alloc, World.size_setCell] at this
    omega
  have hz2_1 : w.heap.size + 1 < w2.heap.size := by
    have := hb2.size
    try simp only [World.size_alloc, World.size_setCell] at this
    omega
  have B2 := Aside.intro (Below.trans (B := w1.heap.size) (a := w1) (by repeat (first | exact Below.refl _ _ | assumption | exact Nat.le_refl _ | (simp only [World.size_alloc, World.size_setCell]; omega) | omega | refine Below.alloc ?_ ?_ _ | refine Below.setCell ?_ ?_ _ | refine Below.drew ?_)) (hb2.mono (by first | omega | (simp only [World.size_alloc, World.size_setCell]; omega))))
  have S2 := Aside.intro (S1.out.trans (B2.out.mono S1.out.size))
  clear S1
  obtain ⟨hc2, hf2⟩ := bcell hb2
  clear hb2 B2
  have c2_0_0 : w2.cell? ⟨w.heap.size, 0, none⟩ = some (.float .f64 pa) := by
    rw [hc2 _ _ (by first | omega | (simp only [World.size_alloc, World.size_setCell]; omega))]
    first | assumption | (simp [go_sem, c1_0_0, f1_0_0, c1_0_1, f1_0_1, c1_1_0, f1_1_0, c1_1_1, f1_1_1, hz1_0, hz1_1]; done)
  have f2_0_0 : w2.frozen? ⟨w.heap.size, 0, none⟩ = false := by
    rw [hf2 _ _ (by first | omega | (simp only [World.size_alloc, World.size_setCell]; omega))]
    first | assumption | (simp [go_sem, c1_0_0, f1_0_0, c1_0_1, f1_0_1, c1_1_0, f1_1_0, c1_1_1, f1_1_1, hz1_0, hz1_1]; done)
  have c2_0_1 : w2.cell? ⟨w.heap.size, 1, none⟩ = some (.float .f64 pb) := by
    rw [hc2 _ _ (by first | omega | (simp only [World.size_alloc, World.size_setCell]; omega))]
    first | assumption | (simp [go_sem, c1_0_0, f1_0_0, c1_0_1, f1_0_1, c1_1_0, f1_1_0, c1_1_1, f1_1_1, hz1_0, hz1_1]; done)
  have f2_0_1 : w2.frozen? ⟨w.heap.size, 1, none⟩ = false := by
    rw [hf2 _ _ (by first | omega | (simp only [World.size_alloc, World.size_setCell]; omega))]
    first | assumption | (simp [go_sem, c1_0_0, f1_0_0, c1_0_1, f1_0_1, c1_1_0, f1_1_0, c1_1_1, f1_1_1, hz1_0, hz1_1]; done)
  have c2_1_0 : w2.cell? ⟨w.heap.size + 1, 0, none⟩ = some (.float .f64 qa) := by
    rw [hc2 _ _ (by first | omega | (simp only [World.size_alloc, World.size_setCell]; omega))]
    first | assumption | (simp [go_sem, c1_0_0, f1_0_0, c1_0_1, f1_0_1, c1_1_0, f1_1_0, c1_1_1, f1_1_1, hz1_0, hz1_1]; done)
  have f2_1_0 : w2.frozen? ⟨w.heap.size + 1, 0, none⟩ = false := by
    rw [hf2 _ _ (by first | omega | (simp only [World.size_alloc, World.size_setCell]; omega))]
    first | assumption | (simp [go_sem, c1_0_0, f1_0_0, c1_0_1, f1_0_1, c1_1_0, f1_1_0, c1_1_1, f1_1_1, hz1_0, hz1_1]; done)
  have c2_1_1 : w2.cell? ⟨w.heap.size + 1, 1, none⟩ = some (.float .f64 qb) := by
    rw [hc2 _ _ (by first | omega | (simp only [World.size_alloc, World.size_setCell]; omega))]
    first | assumption | (simp [go_sem, c1_0_0, f1_0_0, c1_0_1, f1_0_1, c1_1_0, f1_1_0, c1_1_1, f1_1_1, hz1_0, hz1_1]; done)
  have f2_1_1 : w2.frozen? ⟨w.heap.size + 1, 1, none⟩ = false := by
    rw [hf2 _ _ (by first | omega | (simp only [World.size_alloc, World.size_setCell]; omega))]
    first | assumption | (simp [go_sem, c1_0_0, f1_0_0, c1_0_1, f1_0_1, c1_1_0, f1_1_0, c1_1_1, f1_1_1, hz1_0, hz1_1]; done)
  clear hc2 hf2 c1_0_0 f1_0_0 c1_0_1 f1_0_1 c1_1_0 f1_1_0 c1_1_1 f1_1_1
  go_wp2_with fail
  refine (Calls.mono (HK.out _)) ?_
  rintro r w3 ⟨rfl, hb3⟩
  clear HK
  have hy3 : w2.heap.size ≤ w3.heap.size := by
    have := hb3.size
    try simp only [World.size_alloc, World.size_setCell] at this
    omega
  have hz3_0 : w.heap.size < w3.heap.size := by
    have := hb3.size
    try simp only [World.size_alloc, World.size_setCell] at this
    omega
  have hz3_1 : w.heap.size + 1 < w3.heap.size := by
    have := hb3.size
    try simp only [World.size_alloc, World.size_setCell] at this
    omega
  have B3 := Aside.intro (Below.trans (B := w2.heap.size) (a := w2) (by repeat (first | exact Below.refl _ _ | assumption | exact Nat.le_refl _ | (simp only [World.size_alloc, World.size_setCell]; omega) | omega | refine Below.alloc ?_ ?_ _ | refine Below.setCell ?_ ?_ _ | refine Below.drew ?_)) (hb3.mono (by first | omega | (simp only [World.size_alloc, World.size_setCell]; omega))))
  have S3 := Aside.intro (S2.out.trans (B3.out.mono S2.out.size))
  clear S2
  obtain ⟨hc3, hf3⟩ := bcell hb3
  clear hb3 B3
  have c3_0_0 : w3.cell? ⟨w.heap.size, 0, none⟩ = some (.float .f64 pa) := by
    rw [hc3 _ _ (by first | omega | (simp only [World.size_alloc, World.size_setCell]; omega))]
    first | assumption | (simp [go_sem, c2_0_0, f2_0_0, c2_0_1, f2_0_1, c2_1_0, f2_1_0, c2_1_1, f2_1_1, hz2_0, hz2_1]; done)
  have f3_0_0 : w3.frozen? ⟨w.heap.size, 0, none⟩ = false := by
    rw [hf3 _ _ (by first | omega | (simp only [World.size_alloc, World.size_setCell]; omega))]
    first | assumption | (simp [go_sem, c2_0_0, f2_0_0, c2_0_1, f2_0_1, c2_1_0, f2_1_0, c2_1_1, f2_1_1, hz2_0, hz2_1]; done)
  have c3_0_1 : w3.cell? ⟨w.heap.size, 1, none⟩ = some (.float .f64 pb) := by
    rw [hc3 _ _ (by first | omega | (simp only [World.size_alloc, World.size_setCell]; omega))]
    first | assumption | (simp [go_sem, c2_0_0, f2_0_0, c2_0_1, f2_0_1, c2_1_0, f2_1_0, c2_1_1, f2_1_1, hz2_0, hz2_1]; done)
  have f3_0_1 : w3.frozen? ⟨w.heap.size, 1, none⟩ = false := by
    rw [hf3 _ _ (by first | omega | (simp only [World.size_alloc, World.size_setCell]; omega))]
    first | assumption | (simp [go_sem, c2_0_0, f2_0_0, c2_0_1, f2_0_1, c2_1_0, f2_1_0, c2_1_1, f2_1_1, hz2_0, hz2_1]; done)
  have c3_1_0 : w3.cell? ⟨w.heap.size + 1, 0, none⟩ = some (.float .f64 qa) := by
    rw [hc3 _ _ (by first | omega | (simp only [World.size_alloc, World.size_setCell]; omega))]
    first | assumption | (simp [go_sem, c2_0_0, f2_0_0, c2_0_1, f2_0_1, c2_1_0, f2_1_0, c2_1_1, f2_1_1, hz2_0, hz2_1]; done)
  have f3_1_0 : w3.frozen? ⟨w.heap.size + 1, 0, none⟩ = false := by
    rw [hf3 _ _ (by first | omega | (simp only [World.size_alloc, World.size_setCell]; omega))]
    first | assumption | (simp [go_sem, c2_0_0, f2_0_0, c2_0_1, f2_0_1, c2_1_0, f2_1_0, c2_1_1, f2_1_1, hz2_0, hz2_1]; done)
  have c3_1_1 : w3.cell? ⟨w.heap.size + 1, 1, none⟩ = some (.float .f64 qb) := by
    rw [hc3 _ _ (by first | omega | (simp only [World.size_alloc, World.size_setCell]; omega))]
    first | assumption | (simp [go_sem, c2_0_0, f2_0_0, c2_0_1, f2_0_1, c2_1_0, f2_1_0, c2_1_1, f2_1_1, hz2_0, hz2_1]; done)
  have f3_1_1 : w3.frozen? ⟨w.heap.size + 1, 1, none⟩ = false := by
    rw [hf3 _ _ (by first | omega | (simp only [World.size_alloc, World.size_setCell]; omega))]
    first | assumption | (simp [go_sem, c2_0_0, f2_0_0, c2_0_1, f2_0_1, c2_1_0, f2_1_0, c2_1_1, f2_1_1, hz2_0, hz2_1]; done)
  clear hc3 hf3 c2_0_0 f2_0_0 c2_0_1 f2_0_1 c2_1_0 f2_1_0 c2_1_1 f2_1_1
  go_wp2
  have SS := S3.out
  exact bodyPost_ret (v := .bool true) (by simp [results, Try.results6, go_sem, c3_0_0, f3_0_0, c3_0_1, f3_0_1, c3_1_0, f3_1_0, c3_1_1, f3_1_1, hz3_0, hz3_1]) rfl ⟨rfl, (by repeat (first | exact Below.refl _ _ | assumption | exact Nat.le_refl _ | (simp only [World.size_alloc, World.size_setCell]; omega) | omega | refine Below.alloc ?_ ?_ _ | refine Below.setCell ?_ ?_ _ | refine Below.drew ?_))⟩
set_option maxHeartbeats 16000000 in
theorem near_tf (pa pb qa qb : Nat) (w : World)
    (HG : Hid (∀ u, Calls Try.prog 33 #[.agg #[.float .f64 pa, .float .f64 pb]] u fun r w' => r = .returned (.bool true) ∧ Below u.heap.size u w'))
    (HK : Hid (∀ u, Calls Try.prog 33 #[.agg #[.float .f64 qa, .float .f64 qb]] u fun r w' => r = .returned (.bool false) ∧ Below u.heap.size u w')) :
    Calls Try.prog 6 #[.agg #[.float .f64 pa, .float .f64 pb], .agg #[.float .f64 qa, .float .f64 qb]] w fun r w' => r = .returned (.bool true) ∧ Below w.heap.size w w' := by
  go_enter Try.func6, Try.ntmps6
  go_wp2_with fail
  refine (Calls.mono (awake_all _)) ?_
  rintro r w1 ⟨rfl, hb1⟩
  have hy1 : w.heap.size ≤ w1.heap.size := by
    have := hb1.size
    try simp only [World.size_alloc, World.size_setCell] at this
    omega
  have hz1_0 : w.heap.size < w1.heap.size := by
    have := hb1.size
    try simp only [World.size_alloc, World.size_setCell] at this
    omega
  have hz1_1 : w.heap.size + 1 < w1.heap.size := by
    have := hb1.size
    try simp only [World.size_alloc, World.size_setCell] at this
    omega
  have B1 := Aside.intro (Below.trans (B := w.heap.size) (a := w) (by repeat (first | exact Below.refl _ _ | assumption | exact Nat.le_refl _ | (simp only [World.size_alloc, World.size_setCell]; omega) | omega | refine Below.alloc ?_ ?_ _ | refine Below.setCell ?_ ?_ _ | refine Below.drew ?_)) (hb1.mono (by first | omega | (simp only [World.size_alloc, World.size_setCell]; omega))))
  have S1 := B1
  obtain ⟨hc1, hf1⟩ := bcell hb1
  clear hb1 B1
  have c1_0_0 : w1.cell? ⟨w.heap.size, 0, none⟩ = some (.float .f64 pa) := by
    rw [hc1 _ _ (by first | omega | (simp only [World.size_alloc, World.size_setCell]; omega))]
    first | assumption | (simp [go_sem]; done)
  have f1_0_0 : w1.frozen? ⟨w.heap.size, 0, none⟩ = false := by
    rw [hf1 _ _ (by first | omega | (simp only [World.size_alloc, World.size_setCell]; omega))]
    first | assumption | (simp [go_sem]; done)
  have c1_0_1 : w1.cell? ⟨w.heap.size, 1, none⟩ = some (.float .f64 pb) := by
    rw [hc1 _ _ (by first | omega | (simp only [World.size_alloc, World.size_setCell]; omega))]
    first | assumption | (simp [go_sem]; done)
  have f1_0_1 : w1.frozen? ⟨w.heap.size, 1, none⟩ = false := by
    rw [hf1 _ _ (by first | omega | (simp only [World.size_alloc, World.size_setCell]; omega))]
    first | assumption | (simp [go_sem]; done)
  have c1_1_0 : w1.cell? ⟨w.heap.size + 1, 0, none⟩ = some (.float .f64 qa) := by
    rw [hc1 _ _ (by first | omega | (simp only [World.size_alloc, World.size_setCell]; omega))]
    first | assumption | (simp [go_sem]; done)
  have f1_1_0 : w1.frozen? ⟨w.heap.size + 1, 0, none⟩ = false := by
    rw [hf1 _ _ (by first | omega | (simp only [World.size_alloc, World.size_setCell]; omega))]
    first | assumption | (simp [go_sem]; done)
  have c1_1_1 : w1.cell? ⟨w.heap.size + 1, 1, none⟩ = some (.float .f64 qb) := by
    rw [hc1 _ _ (by first | omega | (simp only [World.size_alloc, World.size_setCell]; omega))]
    first | assumption | (simp [go_sem]; done)
  have f1_1_1 : w1.frozen? ⟨w.heap.size + 1, 1, none⟩ = false := by
    rw [hf1 _ _ (by first | omega | (simp only [World.size_alloc, World.size_setCell]; omega))]
    first | assumption | (simp [go_sem]; done)
  clear hc1 hf1 
  go_wp2_with fail
  refine (Calls.mono (HG.out _)) ?_
  rintro r w2 ⟨rfl, hb2⟩
  clear HG
  have hy2 : w1.heap.size ≤ w2.heap.size := by
    have := hb2.size
    try simp only [World.size_alloc, World.size_setCell] at this
    omega
  have hz2_0 : w.heap.size < w2.heap.size := by
    have := hb2.size
    try simp only [World.size_alloc, World.size_setCell] at this
    omega
  have hz2_1 : w.heap.size + 1 < w2.heap.size := by
    have := hb2.size
    try simp only [World.size_alloc, World.size_setCell] at this
    omega
  have B2 := Aside.intro (Below.trans (B := w1.heap.size) (a := w1) (by repeat (first | exact Below.refl _ _ | assumption | exact Nat.le_refl _ | (simp only [World.size_alloc, World.size_setCell]; omega) | omega | refine Below.alloc ?_ ?_ _ | refine Below.setCell ?_ ?_ _ | refine Below.drew ?_)) (hb2.mono (by first | omega | (simp only [World.size_alloc, World.size_setCell]; omega))))
  have S2 := Aside.intro (S1.out.trans (B2.out.mono S1.out.size))
  clear S1
  obtain ⟨hc2, hf2⟩ := bcell hb2
  clear hb2 B2
  have c2_0_0 : w2.cell? ⟨w.heap.size, 0, none⟩ = some (.float .f64 pa) := by
    rw [hc2 _ _ (by first | omega | (simp only [World.size_alloc, World.size_setCell]; omega))]
    first | assumption | (simp [go_sem, c1_0_0, f1_0_0, c1_0_1, f1_0_1, c1_1_0, f1_1_0, c1_1_1, f1_1_1, hz1_0, hz1_1]; done)
  have f2_0_0 : w2.frozen? ⟨w.heap.size, 0, none⟩ = false := by
    rw [hf2 _ _ (by first | omega | (simp only [World.size_alloc, World.size_setCell]; omega))]
    first | assumption | (simp [go_sem, c1_0_0, f1_0_0, c1_0_1, f1_0_1, c1_1_0, f1_1_0, c1_1_1, f1_1_1, hz1_0, hz1_1]; done)
  have c2_0_1 : w2.cell? ⟨w.heap.size, 1, none⟩ = some (.float .f64 pb) := by
    rw [hc2 _ _ (by first | omega | (simp only [World.size_alloc, World.size_setCell]; omega))]
    first | assumption | (simp [go_sem, c1_0_0, f1_0_0, c1_0_1, f1_0_1, c1_1_0, f1_1_0, c1_1_1, f1_1_1, hz1_0, hz1_1]; done)
  have f2_0_1 : w2.frozen? ⟨w.heap.size, 1, none⟩ = false := by
    rw [hf2 _ _ (by first | omega | (simp only [World.size_alloc, World.size_setCell]; omega))]
    first | assumption | (simp [go_sem, c1_0_0, f1_0_0, c1_0_1, f1_0_1, c1_1_0, f1_1_0, c1_1_1, f1_1_1, hz1_0, hz1_1]; done)
  have c2_1_0 : w2.cell? ⟨w.heap.size + 1, 0, none⟩ = some (.float .f64 qa) := by
    rw [hc2 _ _ (by first | omega | (simp only [World.size_alloc, World.size_setCell]; omega))]
    first | assumption | (simp [go_sem, c1_0_0, f1_0_0, c1_0_1, f1_0_1, c1_1_0, f1_1_0, c1_1_1, f1_1_1, hz1_0, hz1_1]; done)
  have f2_1_0 : w2.frozen? ⟨w.heap.size + 1, 0, none⟩ = false := by
    rw [hf2 _ _ (by first | omega | (simp only [World.size_alloc, World.size_setCell]; omega))]
    first | assumption | (simp [go_sem, c1_0_0, f1_0_0, c1_0_1, f1_0_1, c1_1_0, f1_1_0, c1_1_1, f1_1_1, hz1_0, hz1_1]; done)
  have c2_1_1 : w2.cell? ⟨w.heap.size + 1, 1, none⟩ = some (.float .f64 qb) := by
    rw [hc2 _ _ (by first | omega | (simp only [World.size_alloc, World.size_setCell]; omega))]
    first | assumption | (simp [go_sem, c1_0_0, f1_0_0, c1_0_1, f1_0_1, c1_1_0, f1_1_0, c1_1_1, f1_1_1, hz1_0, hz1_1]; done)
  have f2_1_1 : w2.frozen? ⟨w.heap.size + 1, 1, none⟩ = false := by
    rw [hf2 _ _ (by first | omega | (simp only [World.size_alloc, World.size_setCell]; omega))]
    first | assumption | (simp [go_sem, c1_0_0, f1_0_0, c1_0_1, f1_0_1, c1_1_0, f1_1_0, c1_1_1, f1_1_1, hz1_0, hz1_1]; done)
  clear hc2 hf2 c1_0_0 f1_0_0 c1_0_1 f1_0_1 c1_1_0 f1_1_0 c1_1_1 f1_1_1
  go_wp2_with fail
  refine (Calls.mono (HK.out _)) ?_
  rintro r w3 ⟨rfl, hb3⟩
  clear HK
  have hy3 : w2.heap.size ≤ w3.heap.size := by
    have := hb3.size
    try simp only [World.size_alloc, World.size_setCell] at this
    omega
  have hz3_0 : w.heap.size < w3.heap.size := by
    have := hb3.size
    try simp only [World.size_alloc, World.size_setCell] at this
    omega
  have hz3_1 : w.heap.size + 1 < w3.heap.size := by
    have := hb3.size
    try simp only [World.size_alloc, World.size_setCell] at this
    omega
  have B3 := Aside.intro (Below.trans (B := w2.heap.size) (a := w2) (by repeat (first | exact Below.refl _ _ | assumption | exact Nat.le_refl _ | (simp only [World.size_alloc, World.size_setCell]; omega) | omega | refine Below.alloc ?_ ?_ _ | refine Below.setCell ?_ ?_ _ | refine Below.drew ?_)) (hb3.mono (by first | omega | (simp only [World.size_alloc, World.size_setCell]; omega))))
  have S3 := Aside.intro (S2.out.trans (B3.out.mono S2.out.size))
  clear S2
  obtain ⟨hc3, hf3⟩ := bcell hb3
  clear hb3 B3
  have c3_0_0 : w3.cell? ⟨w.heap.size, 0, none⟩ = some (.float .f64 pa) := by
    rw [hc3 _ _ (by first | omega | (simp only [World.size_alloc, World.size_setCell]; omega))]
    first | assumption | (simp [go_sem, c2_0_0, f2_0_0, c2_0_1, f2_0_1, c2_1_0, f2_1_0, c2_1_1, f2_1_1, hz2_0, hz2_1]; done)
  have f3_0_0 : w3.frozen? ⟨w.heap.size, 0, none⟩ = false := by
    rw [hf3 _ _ (by first | omega | (simp only [World.size_alloc, World.size_setCell]; omega))]
    first | assumption | (simp [go_sem, c2_0_0, f2_0_0, c2_0_1, f2_0_1, c2_1_0, f2_1_0, c2_1_1, f2_1_1, hz2_0, hz2_1]; done)
  have c3_0_1 : w3.cell? ⟨w.heap.size, 1, none⟩ = some (.float .f64 pb) := by
    rw [hc3 _ _ (by first | omega | (simp only [World.size_alloc, World.size_setCell]; omega))]
    first | assumption | (simp [go_sem, c2_0_0, f2_0_0, c2_0_1, f2_0_1, c2_1_0, f2_1_0, c2_1_1, f2_1_1, hz2_0, hz2_1]; done)
  have f3_0_1 : w3.frozen? ⟨w.heap.size, 1, none⟩ = false := by
    rw [hf3 _ _ (by first | omega | (simp only [World.size_alloc, World.size_setCell]; omega))]
    first | assumption | (simp [go_sem, c2_0_0, f2_0_0, c2_0_1, f2_0_1, c2_1_0, f2_1_0, c2_1_1, f2_1_1, hz2_0, hz2_1]; done)
  have c3_1_0 : w3.cell? ⟨w.heap.size + 1, 0, none⟩ = some (.float .f64 qa) := by
    rw [hc3 _ _ (by first | omega | (simp only [World.size_alloc, World.size_setCell]; omega))]
    first | assumption | (simp [go_sem, c2_0_0, f2_0_0, c2_0_1, f2_0_1, c2_1_0, f2_1_0, c2_1_1, f2_1_1, hz2_0, hz2_1]; done)
  have f3_1_0 : w3.frozen? ⟨w.heap.size + 1, 0, none⟩ = false := by
    rw [hf3 _ _ (by first | omega | (simp only [World.size_alloc, World.size_setCell]; omega))]
    first | assumption | (simp [go_sem, c2_0_0, f2_0_0, c2_0_1, f2_0_1, c2_1_0, f2_1_0, c2_1_1, f2_1_1, hz2_0, hz2_1]; done)
  have c3_1_1 : w3.cell? ⟨w.heap.size + 1, 1, none⟩ = some (.float .f64 qb) := by
    rw [hc3 _ _ (by first | omega | (simp only [World.size_alloc, World.size_setCell]; omega))]
    first | assumption | (simp [go_sem, c2_0_0, f2_0_0, c2_0_1, f2_0_1, c2_1_0, f2_1_0, c2_1_1, f2_1_1, hz2_0, hz2_1]; done)
  have f3_1_1 : w3.frozen? ⟨w.heap.size + 1, 1, none⟩ = false := by
    rw [hf3 _ _ (by first | omega | (simp only [World.size_alloc, World.size_setCell]; omega))]
    first | assumption | (simp [go_sem, c2_0_0, f2_0_0, c2_0_1, f2_0_1, c2_1_0, f2_1_0, c2_1_1, f2_1_1, hz2_0, hz2_1]; done)
  clear hc3 hf3 c2_0_0 f2_0_0 c2_0_1 f2_0_1 c2_1_0 f2_1_0 c2_1_1 f2_1_1
  go_wp2
  have SS := S3.out
  exact bodyPost_ret (v := .bool true) (by simp [results, Try.results6, go_sem, c3_0_0, f3_0_0, c3_0_1, f3_0_1, c3_1_0, f3_1_0, c3_1_1, f3_1_1, hz3_0, hz3_1]) rfl ⟨rfl, (by repeat (first | exact Below.refl _ _ | assumption | exact Nat.le_refl _ | (simp only [World.size_alloc, World.size_setCell]; omega) | omega | refine Below.alloc ?_ ?_ _ | refine Below.setCell ?_ ?_ _ | refine Below.drew ?_))⟩
set_option maxHeartbeats 16000000 in
theorem near_tt (pa pb qa qb : Nat) (w : World) (nX nY nS nM : Bool) (XX XY XS XM : Nat) (eX eY eS eM : Int) (s1 s2 m1 m2 : Nat) (lX : (ws XX).length ≤ 8192) (lY : (ws XY).length ≤ 8192) (lS : (ws XS).length ≤ 8192) (lM : (ws XM).length ≤ 8192)
    (HG : Hid (∀ u, Calls Try.prog 33 #[.agg #[.float .f64 pa, .float .f64 pb]] u fun r w' => r = .returned (.bool true) ∧ Below u.heap.size u w'))
    (HK : Hid (∀ u, Calls Try.prog 33 #[.agg #[.float .f64 qa, .float .f64 qb]] u fun r w' => r = .returned (.bool true) ∧ Below u.heap.size u w'))
    (HX : Hid (∀ u, Calls Try.prog 34 #[.agg #[.float .f64 pa, .float .f64 pb]] u fun r w' => (∃ v, r = .returned (.tuple #[.agg #[.bool nX, v, .int .i64 eX], .bool true]) ∧ Nt u.heap.size w' v XX) ∧ Below u.heap.size u w'))
    (HY : Hid (∀ u, Calls Try.prog 34 #[.agg #[.float .f64 qa, .float .f64 qb]] u fun r w' => (∃ v, r = .returned (.tuple #[.agg #[.bool nY, v, .int .i64 eY], .bool true]) ∧ Nt u.heap.size w' v XY) ∧ Below u.heap.size u w'))
    (HA : Hid (∀ u a b c d, Arg u a (ws XX).length c (ws XX) → Arg u b (ws XY).length d (ws XY) → Calls Try.prog 35 #[.agg #[.bool nX, .slice a (ws XX).length c, .int .i64 eX], .agg #[.bool nY, .slice b (ws XY).length d, .int .i64 eY]] u fun r w' => (∃ v, r = .returned (.tuple #[.agg #[.bool nS, v, .int .i64 eS], .int .i64 0]) ∧ Nt u.heap.size w' v XS) ∧ Below u.heap.size u w'))
    (HM : Hid (∀ u a b c d, Arg u a (ws XX).length c (ws XX) → Arg u b (ws XY).length d (ws XY) → Calls Try.prog 36 #[.agg #[.bool nX, .slice a (ws XX).length c, .int .i64 eX], .agg #[.bool nY, .slice b (ws XY).length d, .int .i64 eY]] u fun r w' => (∃ v, r = .returned (.tuple #[.agg #[.bool nM, v, .int .i64 eM], .int .i64 0]) ∧ Nt u.heap.size w' v XM) ∧ Below u.heap.size u w'))
    (HP : Hid (∀ u, Calls Try.prog 22 #[.agg #[.float .f64 pa, .float .f64 pb], .agg #[.float .f64 qa, .float .f64 qb]] u fun r w' => r = .returned (.agg #[.float .f64 s1, .float .f64 s2]) ∧ Below u.heap.size u w'))
    (HN : Hid (∀ u a c, Arg u a (ws XS).length c (ws XS) → Calls Try.prog 37 #[.agg #[.float .f64 s1, .float .f64 s2], .agg #[.bool nS, .slice a (ws XS).length c, .int .i64 eS], .int .i64 104] u fun r w' => r = .returned (.bool true) ∧ Below u.heap.size u w'))
    (HQ : Hid (∀ u, Calls Try.prog 24 #[.agg #[.float .f64 pa, .float .f64 pb], .agg #[.float .f64 qa, .float .f64 qb]] u fun r w' => r = .returned (.agg #[.float .f64 m1, .float .f64 m2]) ∧ Below u.heap.size u w'))
    (HO : Hid (∀ u a c, Arg u a (ws XM).length c (ws XM) → Calls Try.prog 37 #[.agg #[.float .f64 m1, .float .f64 m2], .agg #[.bool nM, .slice a (ws XM).length c, .int .i64 eM], .int .i64 103] u fun r w' => r = .returned (.bool true) ∧ Below u.heap.size u w')) :
    Calls Try.prog 6 #[.agg #[.float .f64 pa, .float .f64 pb], .agg #[.float .f64 qa, .float .f64 qb]] w fun r w' => r = .returned (.bool true) ∧ Below w.heap.size w w' := by
  go_enter Try.func6, Try.ntmps6
  go_wp2_with fail
  refine (Calls.mono (awake_all _)) ?_
  rintro r w1 ⟨rfl, hb1⟩
  have hy1 : w.heap.size ≤ w1.heap.size := by
    have := hb1.size
    try simp only [World.size_alloc, World.size_setCell] at this
    omega
  have hz1_0 : w.heap.size < w1.heap.size := by
    have := hb1.size
    try simp only [World.size_alloc, World.size_setCell] at this
    omega
  have hz1_1 : w.heap.size + 1 < w1.heap.size := by
    have := hb1.size
    try simp only [World.size_alloc, World.size_setCell] at this
    omega
  have B1 := Aside.intro (Below.trans (B := w.heap.size) (a := w) (by repeat (first | exact Below.refl _ _ | assumption | exact Nat.le_refl _ | (simp only [World.size_alloc, World.size_setCell]; omega) | omega | refine Below.alloc ?_ ?_ _ | refine Below.setCell ?_ ?_ _ | refine Below.drew ?_)) (hb1.mono (by first | omega | (simp only [World.size_alloc, World.size_setCell]; omega))))
  have S1 := B1
  obtain ⟨hc1, hf1⟩ := bcell hb1
  clear hb1 B1
  have c1_0_0 : w1.cell? ⟨w.heap.size, 0, none⟩ = some (.float .f64 pa) := by
    rw [hc1 _ _ (by first | omega | (simp only [World.size_alloc, World.size_setCell]; omega))]
    first | assumption | (simp [go_sem]; done)
  have f1_0_0 : w1.frozen? ⟨w.heap.size, 0, none⟩ = false := by
    rw [hf1 _ _ (by first | omega | (simp only [World.size_alloc, World.size_setCell]; omega))]
    first | assumption | (simp [go_sem]; done)
  have c1_0_1 : w1.cell? ⟨w.heap.size, 1, none⟩ = some (.float .f64 pb) := by
    rw [hc1 _ _ (by first | omega | (simp only [World.size_alloc, World.size_setCell]; omega))]
    first | assumption | (simp [go_sem]; done)
  have f1_0_1 : w1.frozen? ⟨w.heap.size, 1, none⟩ = false := by
    rw [hf1 _ _ (by first | omega | (simp only [World.size_alloc, World.size_setCell]; omega))]
    first | assumption | (simp [go_sem]; done)
  have c1_1_0 : w1.cell? ⟨w.heap.size + 1, 0, none⟩ = some (.float .f64 qa) := by
    rw [hc1 _ _ (by first | omega | (simp only [World.size_alloc, World.size_setCell]; omega))]
    first | assumption | (simp [go_sem]; done)
  have f1_1_0 : w1.frozen? ⟨w.heap.size + 1, 0, none⟩ = false := by
    rw [hf1 _ _ (by first | omega | (simp only [World.size_alloc, World.size_setCell]; omega))]
    first | assumption | (simp [go_sem]; done)
  have c1_1_1 : w1.cell? ⟨w.heap.size + 1, 1, none⟩ = some (.float .f64 qb) := by
    rw [hc1 _ _ (by first | omega | (simp only [World.size_alloc, World.size_setCell]; omega))]
    first | assumption | (simp [go_sem]; done)
  have f1_1_1 : w1.frozen? ⟨w.heap.size + 1, 1, none⟩ = false := by
    rw [hf1 _ _ (by first | omega | (simp only [World.size_alloc, World.size_setCell]; omega))]
    first | assumption | (simp [go_sem]; done)
  clear hc1 hf1 
  go_wp2_with fail
  refine (Calls.mono (HG.out _)) ?_
  rintro r w2 ⟨rfl, hb2⟩
  clear HG
  have hy2 : w1.heap.size ≤ w2.heap.size := by
    have := hb2.size
    try simp only [World.size_alloc, World.size_setCell] at this
    omega
  have hz2_0 : w.heap.size < w2.heap.size := by
    have := hb2.size
    try simp only [World.size_alloc, World.size_setCell] at this
    omega
  have hz2_1 : w.heap.size + 1 < w2.heap.size := by
    have := hb2.size
    try simp only [World.size_alloc, World.size_setCell] at this
    omega
  have B2 := Aside.intro (Below.trans (B := w1.heap.size) (a := w1) (by repeat (first | exact Below.refl _ _ | assumption | exact Nat.le_refl _ | (simp only [World.size_alloc, World.size_setCell]; omega) | omega | refine Below.alloc ?_ ?_ _ | refine Below.setCell ?_ ?_ _ | refine Below.drew ?_)) (hb2.mono (by first | omega | (simp only [World.size_alloc, World.size_setCell]; omega))))
  have S2 := Aside.intro (S1.out.trans (B2.out.mono S1.out.size))
  clear S1
  obtain ⟨hc2, hf2⟩ := bcell hb2
  clear hb2 B2
  have c2_0_0 : w2.cell? ⟨w.heap.size, 0, none⟩ = some (.float .f64 pa) := by
    rw [hc2 _ _ (by first | omega | (simp only [World.size_alloc, World.size_setCell]; omega))]
    first | assumption | (simp [go_sem, c1_0_0, f1_0_0, c1_0_1, f1_0_1, c1_1_0, f1_1_0, c1_1_1, f1_1_1, hz1_0, hz1_1]; done)
  have f2_0_0 : w2.frozen? ⟨w.heap.size, 0, none⟩ = false := by
    rw [hf2 _ _ (by first | omega | (simp only [World.size_alloc, World.size_setCell]; omega))]
    first | assumption | (simp [go_sem, c1_0_0, f1_0_0, c1_0_1, f1_0_1, c1_1_0, f1_1_0, c1_1_1, f1_1_1, hz1_0, hz1_1]; done)
  have c2_0_1 : w2.cell? ⟨w.heap.size, 1, none⟩ = some (.float .f64 pb) := by
    rw [hc2 _ _ (by first | omega | (simp only [World.size_alloc, World.size_setCell]; omega))]
    first | assumption | (simp [go_sem, c1_0_0, f1_0_0, c1_0_1, f1_0_1, c1_1_0, f1_1_0, c1_1_1, f1_1_1, hz1_0, hz1_1]; done)
  have f2_0_1 : w2.frozen? ⟨w.heap.size, 1, none⟩ = false := by
    rw [hf2 _ _ (by first | omega | (simp only [World.size_alloc, World.size_setCell]; omega))]
    first | assumption | (simp [go_sem, c1_0_0, f1_0_0, c1_0_1, f1_0_1, c1_1_0, f1_1_0, c1_1_1, f1_1_1, hz1_0, hz1_1]; done)
  have c2_1_0 : w2.cell? ⟨w.heap.size + 1, 0, none⟩ = some (.float .f64 qa) := by
    rw [hc2 _ _ (by first | omega | (simp only [World.size_alloc, World.size_setCell]; omega))]
    first | assumption | (simp [go_sem, c1_0_0, f1_0_0, c1_0_1, f1_0_1, c1_1_0, f1_1_0, c1_1_1, f1_1_1, hz1_0, hz1_1]; done)
  have f2_1_0 : w2.frozen? ⟨w.heap.size + 1, 0, none⟩ = false := by
    rw [hf2 _ _ (by first | omega | (simp only [World.size_alloc, World.size_setCell]; omega))]
    first | assumption | (simp [go_sem, c1_0_0, f1_0_0, c1_0_1, f1_0_1, c1_1_0, f1_1_0, c1_1_1, f1_1_1, hz1_0, hz1_1]; done)
  have c2_1_1 : w2.cell? ⟨w.heap.size + 1, 1, none⟩ = some (.float .f64 qb) := by
    rw [hc2 _ _ (by first | omega | (simp only [World.size_alloc, World.size_setCell]; omega))]
    first | assumption | (simp [go_sem, c1_0_0, f1_0_0, c1_0_1, f1_0_1, c1_1_0, f1_1_0, c1_1_1, f1_1_1, hz1_0, hz1_1]; done)
  have f2_1_1 : w2.frozen? ⟨w.heap.size + 1, 1, none⟩ = false := by
    rw [hf2 _ _ (by first | omega | (simp only [World.size_alloc, World.size_setCell]; omega))]
    first | assumption | (simp [go_sem, c1_0_0, f1_0_0, c1_0_1, f1_0_1, c1_1_0, f1_1_0, c1_1_1, f1_1_1, hz1_0, hz1_1]; done)
  clear hc2 hf2 c1_0_0 f1_0_0 c1_0_1 f1_0_1 c1_1_0 f1_1_0 c1_1_1 f1_1_1
  go_wp2_with fail
  refine (Calls.mono (HK.out _)) ?_
  rintro r w3 ⟨rfl, hb3⟩
  clear HK
  have hy3 : w2.heap.size ≤ w3.heap.size := by
    have := hb3.size
    try simp only [World.size_alloc, World.size_setCell] at this
    omega
  have hz3_0 : w.heap.size < w3.heap.size := by
    have := hb3.size
    try simp only [World.size_alloc, World.size_setCell] at this
    omega
  have hz3_1 : w.heap.size + 1 < w3.heap.size := by
    have := hb3.size
    try simp only [World.size_alloc, World.size_setCell] at this
    omega
  have B3 := Aside.intro (Below.trans (B := w2.heap.size) (a := w2) (by repeat (first | exact Below.refl _ _ | assumption | exact Nat.le_refl _ | (simp only [World.size_alloc, World.size_setCell]; omega) | omega | refine Below.alloc ?_ ?_ _ | refine Below.setCell ?_ ?_ _ | refine Below.drew ?_)) (hb3.mono (by first | omega | (simp only [World.size_alloc, World.size_setCell]; omega))))
  have S3 := Aside.intro (S2.out.trans (B3.out.mono S2.out.size))
  clear S2
  obtain ⟨hc3, hf3⟩ := bcell hb3
  clear hb3 B3
  have c3_0_0 : w3.cell? ⟨w.heap.size, 0, none⟩ = some (.float .f64 pa) := by
    rw [hc3 _ _ (by first | omega | (simp only [World.size_alloc, World.size_setCell]; omega))]
    first | assumption | (simp [go_sem, c2_0_0, f2_0_0, c2_0_1, f2_0_1, c2_1_0, f2_1_0, c2_1_1, f2_1_1, hz2_0, hz2_1]; done)
  have f3_0_0 : w3.frozen? ⟨w.heap.size, 0, none⟩ = false := by
    rw [hf3 _ _ (by first | omega | (simp only [World.size_alloc, World.size_setCell]; omega))]
    first | assumption | (simp [go_sem, c2_0_0, f2_0_0, c2_0_1, f2_0_1, c2_1_0, f2_1_0, c2_1_1, f2_1_1, hz2_0, hz2_1]; done)
  have c3_0_1 : w3.cell? ⟨w.heap.size, 1, none⟩ = some (.float .f64 pb) := by
    rw [hc3 _ _ (by first | omega | (simp only [World.size_alloc, World.size_setCell]; omega))]
    first | assumption | (simp [go_sem, c2_0_0, f2_0_0, c2_0_1, f2_0_1, c2_1_0, f2_1_0, c2_1_1, f2_1_1, hz2_0, hz2_1]; done)
  have f3_0_1 : w3.frozen? ⟨w.heap.size, 1, none⟩ = false := by
    rw [hf3 _ _ (by first | omega | (simp only [World.size_alloc, World.size_setCell]; omega))]
    first | assumption | (simp [go_sem, c2_0_0, f2_0_0, c2_0_1, f2_0_1, c2_1_0, f2_1_0, c2_1_1, f2_1_1, hz2_0, hz2_1]; done)
  have c3_1_0 : w3.cell? ⟨w.heap.size + 1, 0, none⟩ = some (.float .f64 qa) := by
    rw [hc3 _ _ (by first | omega | (simp only [World.size_alloc, World.size_setCell]; omega))]
    first | assumption | (simp [go_sem, c2_0_0, f2_0_0, c2_0_1, f2_0_1, c2_1_0, f2_1_0, c2_1_1, f2_1_1, hz2_0, hz2_1]; done)
  have f3_1_0 : w3.frozen? ⟨w.heap.size + 1, 0, none⟩ = false := by
    rw [hf3 _ _ (by first | omega | (simp only [World.size_alloc, World.size_setCell]; omega))]
    first | assumption | (simp [go_sem, c2_0_0, f2_0_0, c2_0_1, f2_0_1, c2_1_0, f2_1_0, c2_1_1, f2_1_1, hz2_0, hz2_1]; done)
  have c3_1_1 : w3.cell? ⟨w.heap.size + 1, 1, none⟩ = some (.float .f64 qb) := by
    rw [hc3 _ _ (by first | omega | (simp only [World.size_alloc, World.size_setCell]; omega))]
    first | assumption | (simp [go_sem, c2_0_0, f2_0_0, c2_0_1, f2_0_1, c2_1_0, f2_1_0, c2_1_1, f2_1_1, hz2_0, hz2_1]; done)
  have f3_1_1 : w3.frozen? ⟨w.heap.size + 1, 1, none⟩ = false := by
    rw [hf3 _ _ (by first | omega | (simp only [World.size_alloc, World.size_setCell]; omega))]
    first | assumption | (simp [go_sem, c2_0_0, f2_0_0, c2_0_1, f2_0_1, c2_1_0, f2_1_0, c2_1_1, f2_1_1, hz2_0, hz2_1]; done)
  clear hc3 hf3 c2_0_0 f2_0_0 c2_0_1 f2_0_1 c2_1_0 f2_1_0 c2_1_1 f2_1_1
  go_wp2_with fail
  refine (Calls.mono (HX.out _)) ?_
  rintro r w4 ⟨⟨v4, rfl, N4⟩, hb4⟩
  obtain ⟨aX, cX, rfl, AX⟩ := N4.arg (by omega)
  clear N4
  clear HX
  have hy4 : w3.heap.size ≤ w4.heap.size := by
    have := hb4.size
    try simp only [World.size_alloc, World.size_setCell] at this
    omega
  have hz4_0 : w.heap.size < w4.heap.size := by
    have := hb4.size
    try simp only [World.size_alloc, World.size_setCell] at this
    omega
  have hz4_1 : w.heap.size + 1 < w4.heap.size := by
    have := hb4.size
    try simp only [World.size_alloc, World.size_setCell] at this
    omega
  have B4 := Aside.intro (Below.trans (B := w3.heap.size) (a := w3) (by repeat (first | exact Below.refl _ _ | assumption | exact Nat.le_refl _ | (simp only [World.size_alloc, World.size_setCell]; omega) | omega | refine Below.alloc ?_ ?_ _ | refine Below.setCell ?_ ?_ _ | refine Below.drew ?_)) (hb4.mono (by first | omega | (simp only [World.size_alloc, World.size_setCell]; omega))))
  have S4 := Aside.intro (S3.out.trans (B4.out.mono S3.out.size))
  clear S3
  obtain ⟨hc4, hf4⟩ := bcell hb4
  clear hb4 B4
  have c4_0_0 : w4.cell? ⟨w.heap.size, 0, none⟩ = some (.float .f64 pa) := by
    rw [hc4 _ _ (by first | omega | (simp only [World.size_alloc, World.size_setCell]; omega))]
    first | assumption | (simp [go_sem, c3_0_0, f3_0_0, c3_0_1, f3_0_1, c3_1_0, f3_1_0, c3_1_1, f3_1_1, hz3_0, hz3_1]; done)
  have f4_0_0 : w4.frozen? ⟨w.heap.size, 0, none⟩ = false := by
    rw [hf4 _ _ (by first | omega | (simp only [World.size_alloc, World.size_setCell]; omega))]
    first | assumption | (simp [go_sem, c3_0_0, f3_0_0, c3_0_1, f3_0_1, c3_1_0, f3_1_0, c3_1_1, f3_1_1, hz3_0, hz3_1]; done)
  have c4_0_1 : w4.cell? ⟨w.heap.size, 1, none⟩ = some (.float .f64 pb) := by
    rw [hc4 _ _ (by first | omega | (simp only [World.size_alloc, World.size_setCell]; omega))]
    first | assumption | (simp [go_sem, c3_0_0, f3_0_0, c3_0_1, f3_0_1, c3_1_0, f3_1_0, c3_1_1, f3_1_1, hz3_0, hz3_1]; done)
  have f4_0_1 : w4.frozen? ⟨w.heap.size, 1, none⟩ = false := by
    rw [hf4 _ _ (by first | omega | (simp only [World.size_alloc, World.size_setCell]; omega))]
    first | assumption | (simp [go_sem, c3_0_0, f3_0_0, c3_0_1, f3_0_1, c3_1_0, f3_1_0, c3_1_1, f3_1_1, hz3_0, hz3_1]; done)
  have c4_1_0 : w4.cell? ⟨w.heap.size + 1, 0, none⟩ = some (.float .f64 qa) := by
    rw [hc4 _ _ (by first | omega | (simp only [World.size_alloc, World.size_setCell]; omega))]
    first | assumption | (simp [go_sem, c3_0_0, f3_0_0, c3_0_1, f3_0_1, c3_1_0, f3_1_0, c3_1_1, f3_1_1, hz3_0, hz3_1]; done)
  have f4_1_0 : w4.frozen? ⟨w.heap.size + 1, 0, none⟩ = false := by
    rw [hf4 _ _ (by first | omega | (simp only [World.size_alloc, World.size_setCell]; omega))]
    first | assumption | (simp [go_sem, c3_0_0, f3_0_0, c3_0_1, f3_0_1, c3_1_0, f3_1_0, c3_1_1, f3_1_1, hz3_0, hz3_1]; done)
  have c4_1_1 : w4.cell? ⟨w.heap.size + 1, 1, none⟩ = some (.float .f64 qb) := by
    rw [hc4 _ _ (by first | omega | (simp only [World.size_alloc, World.size_setCell]; omega))]
    first | assumption | (simp [go_sem, c3_0_0, f3_0_0, c3_0_1, f3_0_1, c3_1_0, f3_1_0, c3_1_1, f3_1_1, hz3_0, hz3_1]; done)
  have f4_1_1 : w4.frozen? ⟨w.heap.size + 1, 1, none⟩ = false := by
    rw [hf4 _ _ (by first | omega | (simp only [World.size_alloc, World.size_setCell]; omega))]
    first | assumption | (simp [go_sem, c3_0_0, f3_0_0, c3_0_1, f3_0_1, c3_1_0, f3_1_0, c3_1_1, f3_1_1, hz3_0, hz3_1]; done)
  clear hc4 hf4 c3_0_0 f3_0_0 c3_0_1 f3_0_1 c3_1_0 f3_1_0 c3_1_1 f3_1_1
  have ne0 : w.heap.size ≠ w4.heap.size := by omega
  have ne1 : w.heap.size + 1 ≠ w4.heap.size := by omega
  go_wp2_with fail
  refine (Calls.mono (HY.out _)) ?_
  rintro r w5 ⟨⟨v5, rfl, N5⟩, hb5⟩
  obtain ⟨aY, cY, rfl, AY⟩ := N5.arg (by omega)
  clear N5
  clear HY
  have hy5 : w4.heap.size ≤ w5.heap.size := by
    have := hb5.size
    try simp only [World.size_alloc, World.size_setCell] at this
    omega
  have hz5_0 : w.heap.size < w5.heap.size := by
    have := hb5.size
    try simp only [World.size_alloc, World.size_setCell] at this
    omega
  have hz5_1 : w.heap.size + 1 < w5.heap.size := by
    have := hb5.size
    try simp only [World.size_alloc, World.size_setCell] at this
    omega
  have hz5_2 : w4.heap.size < w5.heap.size := by
    have := hb5.size
    try simp only [World.size_alloc, World.size_setCell] at this
    omega
  have B5 := Aside.intro (Below.trans (B := w4.heap.size) (a := w4) (by repeat (first | exact Below.refl _ _ | assumption | exact Nat.le_refl _ | (simp only [World.size_alloc, World.size_setCell]; omega) | omega | refine Below.alloc ?_ ?_ _ | refine Below.setCell ?_ ?_ _ | refine Below.drew ?_)) (hb5.mono (by first | omega | (simp only [World.size_alloc, World.size_setCell]; omega))))
  have S5 := Aside.intro (S4.out.trans (B5.out.mono S4.out.size))
  clear S4
  replace AX := AX.below B5.out
  obtain ⟨hc5, hf5⟩ := bcell hb5
  clear hb5 B5
  have c5_0_0 : w5.cell? ⟨w.heap.size, 0, none⟩ = some (.float .f64 pa) := by
    rw [hc5 _ _ (by first | omega | (simp only [World.size_alloc, World.size_setCell]; omega))]
    first | assumption | (simp [go_sem, c4_0_0, f4_0_0, c4_0_1, f4_0_1, c4_1_0, f4_1_0, c4_1_1, f4_1_1, hz4_0, hz4_1, ne0, ne1]; done)
  have f5_0_0 : w5.frozen? ⟨w.heap.size, 0, none⟩ = false := by
    rw [hf5 _ _ (by first | omega | (simp only [World.size_alloc, World.size_setCell]; omega))]
    first | assumption | (simp [go_sem, c4_0_0, f4_0_0, c4_0_1, f4_0_1, c4_1_0, f4_1_0, c4_1_1, f4_1_1, hz4_0, hz4_1, ne0, ne1]; done)
  have c5_0_1 : w5.cell? ⟨w.heap.size, 1, none⟩ = some (.float .f64 pb) := by
    rw [hc5 _ _ (by first | omega | (simp only [World.size_alloc, World.size_setCell]; omega))]
    first | assumption | (simp [go_sem, c4_0_0, f4_0_0, c4_0_1, f4_0_1, c4_1_0, f4_1_0, c4_1_1, f4_1_1, hz4_0, hz4_1, ne0, ne1]; done)
  have f5_0_1 : w5.frozen? ⟨w.heap.size, 1, none⟩ = false := by
    rw [hf5 _ _ (by first | omega | (simp only [World.size_alloc, World.size_setCell]; omega))]
    first | assumption | (simp [go_sem, c4_0_0, f4_0_0, c4_0_1, f4_0_1, c4_1_0, f4_1_0, c4_1_1, f4_1_1, hz4_0, hz4_1, ne0, ne1]; done)
  have c5_1_0 : w5.cell? ⟨w.heap.size + 1, 0, none⟩ = some (.float .f64 qa) := by
    rw [hc5 _ _ (by first | omega | (simp only [World.size_alloc, World.size_setCell]; omega))]
    first | assumption | (simp [go_sem, c4_0_0, f4_0_0, c4_0_1, f4_0_1, c4_1_0, f4_1_0, c4_1_1, f4_1_1, hz4_0, hz4_1, ne0, ne1]; done)
  have f5_1_0 : w5.frozen? ⟨w.heap.size + 1, 0, none⟩ = false := by
    rw [hf5 _ _ (by first | omega | (simp only [World.size_alloc, World.size_setCell]; omega))]
    first | assumption | (simp [go_sem, c4_0_0, f4_0_0, c4_0_1, f4_0_1, c4_1_0, f4_1_0, c4_1_1, f4_1_1, hz4_0, hz4_1, ne0, ne1]; done)
  have c5_1_1 : w5.cell? ⟨w.heap.size + 1, 1, none⟩ = some (.float .f64 qb) := by
    rw [hc5 _ _ (by first | omega | (simp only [World.size_alloc, World.size_setCell]; omega))]
    first | assumption | (simp [go_sem, c4_0_0, f4_0_0, c4_0_1, f4_0_1, c4_1_0, f4_1_0, c4_1_1, f4_1_1, hz4_0, hz4_1, ne0, ne1]; done)
  have f5_1_1 : w5.frozen? ⟨w.heap.size + 1, 1, none⟩ = false := by
    rw [hf5 _ _ (by first | omega | (simp only [World.size_alloc, World.size_setCell]; omega))]
    first | assumption | (simp [go_sem, c4_0_0, f4_0_0, c4_0_1, f4_0_1, c4_1_0, f4_1_0, c4_1_1, f4_1_1, hz4_0, hz4_1, ne0, ne1]; done)
  have c5_2_0 : w5.cell? ⟨w4.heap.size, 0, none⟩ = some (.bool nX) := by
    rw [hc5 _ _ (by first | omega | (simp only [World.size_alloc, World.size_setCell]; omega))]
    first | assumption | (simp [go_sem, c4_0_0, f4_0_0, c4_0_1, f4_0_1, c4_1_0, f4_1_0, c4_1_1, f4_1_1, hz4_0, hz4_1, ne0, ne1]; done)
  have f5_2_0 : w5.frozen? ⟨w4.heap.size, 0, none⟩ = false := by
    rw [hf5 _ _ (by first | omega | (simp only [World.size_alloc, World.size_setCell]; omega))]
    first | assumption | (simp [go_sem, c4_0_0, f4_0_0, c4_0_1, f4_0_1, c4_1_0, f4_1_0, c4_1_1, f4_1_1, hz4_0, hz4_1, ne0, ne1]; done)
  have c5_2_1 : w5.cell? ⟨w4.heap.size, 1, none⟩ = some (.slice aX (ws XX).length cX) := by
    rw [hc5 _ _ (by first | omega | (simp only [World.size_alloc, World.size_setCell]; omega))]
    first | assumption | (simp [go_sem, c4_0_0, f4_0_0, c4_0_1, f4_0_1, c4_1_0, f4_1_0, c4_1_1, f4_1_1, hz4_0, hz4_1, ne0, ne1]; done)
  have f5_2_1 : w5.frozen? ⟨w4.heap.size, 1, none⟩ = false := by
    rw [hf5 _ _ (by first | omega | (simp only [World.size_alloc, World.size_setCell]; omega))]
    first | assumption | (simp [go_sem, c4_0_0, f4_0_0, c4_0_1, f4_0_1, c4_1_0, f4_1_0, c4_1_1, f4_1_1, hz4_0, hz4_1, ne0, ne1]; done)
  have c5_2_2 : w5.cell? ⟨w4.heap.size, 2, none⟩ = some (.int .i64 eX) := by
    rw [hc5 _ _ (by first | omega | (simp only [World.size_alloc, World.size_setCell]; omega))]
    first | assumption | (simp [go_sem, c4_0_0, f4_0_0, c4_0_1, f4_0_1, c4_1_0, f4_1_0, c4_1_1, f4_1_1, hz4_0, hz4_1, ne0, ne1]; done)
  have f5_2_2 : w5.frozen? ⟨w4.heap.size, 2, none⟩ = false := by
    rw [hf5 _ _ (by first | omega | (simp only [World.size_alloc, World.size_setCell]; omega))]
    first | assumption | (simp [go_sem, c4_0_0, f4_0_0, c4_0_1, f4_0_1, c4_1_0, f4_1_0, c4_1_1, f4_1_1, hz4_0, hz4_1, ne0, ne1]; done)
  clear hc5 hf5 c4_0_0 f4_0_0 c4_0_1 f4_0_1 c4_1_0 f4_1_0 c4_1_1 f4_1_1
  have ne2 : w.heap.size ≠ w5.heap.size := by omega
  have ne3 : w.heap.size + 1 ≠ w5.heap.size := by omega
  have ne4 : w4.heap.size ≠ w5.heap.size := by omega
  go_wp2_with fail
  refine (Calls.mono (HA.out _ _ _ _ _ (AX.below (by repeat (first | exact Below.refl _ _ | assumption | exact Nat.le_refl _ | (simp only [World.size_alloc, World.size_setCell]; omega) | omega | refine Below.alloc ?_ ?_ _ | refine Below.setCell ?_ ?_ _ | refine Below.drew ?_))) (AY.below (by repeat (first | exact Below.refl _ _ | assumption | exact Nat.le_refl _ | (simp only [World.size_alloc, World.size_setCell]; omega) | omega | refine Below.alloc ?_ ?_ _ | refine Below.setCell ?_ ?_ _ | refine Below.drew ?_))))) ?_
  rintro r w6 ⟨⟨v6, rfl, N6⟩, hb6⟩
  obtain ⟨aS, cS, rfl, AS⟩ := N6.arg (by omega)
  clear N6
  clear HA
  have hy6 : w5.heap.size ≤ w6.heap.size := by
    have := hb6.size
    try simp only [World.size_alloc, World.size_setCell] at this
    omega
  have hz6_0 : w.heap.size < w6.heap.size := by
    have := hb6.size
    try simp only [World.size_alloc, World.size_setCell] at this
    omega
  have hz6_1 : w.heap.size + 1 < w6.heap.size := by
    have := hb6.size
    try simp only [World.size_alloc, World.size_setCell] at this
    omega
  have hz6_2 : w4.heap.size < w6.heap.size := by
    have := hb6.size
    try simp only [World.size_alloc, World.size_setCell] at this
    omega
  have hz6_3 : w5.heap.size < w6.heap.size := by
    have := hb6.size
    try simp only [World.size_alloc, World.size_setCell] at this
    omega
  have B6 := Aside.intro (Below.trans (B := w5.heap.size) (a := w5) (by repeat (first | exact Below.refl _ _ | assumption | exact Nat.le_refl _ | (simp only [World.size_alloc, World.size_setCell]; omega) | omega | refine Below.alloc ?_ ?_ _ | refine Below.setCell ?_ ?_ _ | refine Below.drew ?_)) (hb6.mono (by first | omega | (simp only [World.size_alloc, World.size_setCell]; omega))))
  have S6 := Aside.intro (S5.out.trans (B6.out.mono S5.out.size))
  clear S5
  replace AX := AX.below B6.out
  replace AY := AY.below B6.out
  obtain ⟨hc6, hf6⟩ := bcell hb6
  clear hb6 B6
  have c6_0_0 : w6.cell? ⟨w.heap.size, 0, none⟩ = some (.float .f64 pa) := by
    rw [hc6 _ _ (by first | omega | (simp only [World.size_alloc, World.size_setCell]; omega))]
    first | assumption | (simp [go_sem, c5_0_0, f5_0_0, c5_0_1, f5_0_1, c5_1_0, f5_1_0, c5_1_1, f5_1_1, c5_2_0, f5_2_0, c5_2_1, f5_2_1, c5_2_2, f5_2_2, hz5_0, hz5_1, hz5_2, ne0, ne1, ne2, ne3, ne4]; done)
  have f6_0_0 : w6.frozen? ⟨w.heap.size, 0, none⟩ = false := by
    rw [hf6 _ _ (by first | omega | (simp only [World.size_alloc, World.size_setCell]; omega))]
    first | assumption | (simp [go_sem, c5_0_0, f5_0_0, c5_0_1, f5_0_1, c5_1_0, f5_1_0, c5_1_1, f5_1_1, c5_2_0, f5_2_0, c5_2_1, f5_2_1, c5_2_2, f5_2_2, hz5_0, hz5_1, hz5_2, ne0, ne1, ne2, ne3, ne4]; done)
  have c6_0_1 : w6.cell? ⟨w.heap.size, 1, none⟩ = some (.float .f64 pb) := by
    rw [hc6 _ _ (by first | omega | (simp only [World.size_alloc, World.size_setCell]; omega))]
    first | assumption | (simp [go_sem, c5_0_0, f5_0_0, c5_0_1, f5_0_1, c5_1_0, f5_1_0, c5_1_1, f5_1_1, c5_2_0, f5_2_0, c5_2_1, f5_2_1, c5_2_2, f5_2_2, hz5_0, hz5_1, hz5_2, ne0, ne1, ne2, ne3, ne4]; done)
  have f6_0_1 : w6.frozen? ⟨w.heap.size, 1, none⟩ = false := by
    rw [hf6 _ _ (by first | omega | (simp only [World.size_alloc, World.size_setCell]; omega))]
    first | assumption | (simp [go_sem, c5_0_0, f5_0_0, c5_0_1, f5_0_1, c5_1_0, f5_1_0, c5_1_1, f5_1_1, c5_2_0, f5_2_0, c5_2_1, f5_2_1, c5_2_2, f5_2_2, hz5_0, hz5_1, hz5_2, ne0, ne1, ne2, ne3, ne4]; done)
  have c6_1_0 : w6.cell? ⟨w.heap.size + 1, 0, none⟩ = some (.float .f64 qa) := by
    rw [hc6 _ _ (by first | omega | (simp only [World.size_alloc, World.size_setCell]; omega))]
    first | assumption | (simp [go_sem, c5_0_0, f5_0_0, c5_0_1, f5_0_1, c5_1_0, f5_1_0, c5_1_1, f5_1_1, c5_2_0, f5_2_0, c5_2_1, f5_2_1, c5_2_2, f5_2_2, hz5_0, hz5_1, hz5_2, ne0, ne1, ne2, ne3, ne4]; done)
  have f6_1_0 : w6.frozen? ⟨w.heap.size + 1, 0, none⟩ = false := by
    rw [hf6 _ _ (by first | omega | (simp only [World.size_alloc, World.size_setCell]; omega))]
    first | assumption | (simp [go_sem, c5_0_0, f5_0_0, c5_0_1, f5_0_1, c5_1_0, f5_1_0, c5_1_1, f5_1_1, c5_2_0, f5_2_0, c5_2_1, f5_2_1, c5_2_2, f5_2_2, hz5_0, hz5_1, hz5_2, ne0, ne1, ne2, ne3, ne4]; done)
  have c6_1_1 : w6.cell? ⟨w.heap.size + 1, 1, none⟩ = some (.float .f64 qb) := by
    rw [hc6 _ _ (by first | omega | (simp only [World.size_alloc, World.size_setCell]; omega))]
    first | assumption | (simp [go_sem, c5_0_0, f5_0_0, c5_0_1, f5_0_1, c5_1_0, f5_1_0, c5_1_1, f5_1_1, c5_2_0, f5_2_0, c5_2_1, f5_2_1, c5_2_2, f5_2_2, hz5_0, hz5_1, hz5_2, ne0, ne1, ne2, ne3, ne4]; done)
  have f6_1_1 : w6.frozen? ⟨w.heap.size + 1, 1, none⟩ = false := by
    rw [hf6 _ _ (by first | omega | (simp only [World.size_alloc, World.size_setCell]; omega))]
    first | assumption | (simp [go_sem, c5_0_0, f5_0_0, c5_0_1, f5_0_1, c5_1_0, f5_1_0, c5_1_1, f5_1_1, c5_2_0, f5_2_0, c5_2_1, f5_2_1, c5_2_2, f5_2_2, hz5_0, hz5_1, hz5_2, ne0, ne1, ne2, ne3, ne4]; done)
  have c6_2_0 : w6.cell? ⟨w4.heap.size, 0, none⟩ = some (.bool nX) := by
    rw [hc6 _ _ (by first | omega | (simp only [World.size_alloc, World.size_setCell]; omega))]
    first | assumption | (simp [go_sem, c5_0_0, f5_0_0, c5_0_1, f5_0_1, c5_1_0, f5_1_0, c5_1_1, f5_1_1, c5_2_0, f5_2_0, c5_2_1, f5_2_1, c5_2_2, f5_2_2, hz5_0, hz5_1, hz5_2, ne0, ne1, ne2, ne3, ne4]; done)
  have f6_2_0 : w6.frozen? ⟨w4.heap.size, 0, none⟩ = false := by
    rw [hf6 _ _ (by first | omega | (simp only [World.size_alloc, World.size_setCell]; omega))]
    first | assumption | (simp [go_sem, c5_0_0, f5_0_0, c5_0_1, f5_0_1, c5_1_0, f5_1_0, c5_1_1, f5_1_1, c5_2_0, f5_2_0, c5_2_1, f5_2_1, c5_2_2, f5_2_2, hz5_0, hz5_1, hz5_2, ne0, ne1, ne2, ne3, ne4]; done)
  have c6_2_1 : w6.cell? ⟨w4.heap.size, 1, none⟩ = some (.slice aX (ws XX).length cX) := by
    rw [hc6 _ _ (by first | omega | (simp only [World.size_alloc, World.size_setCell]; omega))]
    first | assumption | (simp [go_sem, c5_0_0, f5_0_0, c5_0_1, f5_0_1, c5_1_0, f5_1_0, c5_1_1, f5_1_1, c5_2_0, f5_2_0, c5_2_1, f5_2_1, c5_2_2, f5_2_2, hz5_0, hz5_1, hz5_2, ne0, ne1, ne2, ne3, ne4]; done)
  have f6_2_1 : w6.frozen? ⟨w4.heap.size, 1, none⟩ = false := by
    rw [hf6 _ _ (by first | omega | (simp only [World.size_alloc, World.size_setCell]; omega))]
    first | assumption | (simp [go_sem, c5_0_0, f5_0_0, c5_0_1, f5_0_1, c5_1_0, f5_1_0, c5_1_1, f5_1_1, c5_2_0, f5_2_0, c5_2_1, f5_2_1, c5_2_2, f5_2_2, hz5_0, hz5_1, hz5_2, ne0, ne1, ne2, ne3, ne4]; done)
  have c6_2_2 : w6.cell? ⟨w4.heap.size, 2, none⟩ = some (.int .i64 eX) := by
    rw [hc6 _ _ (by first | omega | (simp only [World.size_alloc, World.size_setCell]; omega))]
    first | assumption | (simp [go_sem, c5_0_0, f5_0_0, c5_0_1, f5_0_1, c5_1_0, f5_1_0, c5_1_1, f5_1_1, c5_2_0, f5_2_0, c5_2_1, f5_2_1, c5_2_2, f5_2_2, hz5_0, hz5_1, hz5_2, ne0, ne1, ne2, ne3, ne4]; done)
  have f6_2_2 : w6.frozen? ⟨w4.heap.size, 2, none⟩ = false := by
    rw [hf6 _ _ (by first | omega | (simp only [World.size_alloc, World.size_setCell]; omega))]
    first | assumption | (simp [go_sem, c5_0_0, f5_0_0, c5_0_1, f5_0_1, c5_1_0, f5_1_0, c5_1_1, f5_1_1, c5_2_0, f5_2_0, c5_2_1, f5_2_1, c5_2_2, f5_2_2, hz5_0, hz5_1, hz5_2, ne0, ne1, ne2, ne3, ne4]; done)
  have c6_3_0 : w6.cell? ⟨w5.heap.size, 0, none⟩ = some (.bool nY) := by
    rw [hc6 _ _ (by first | omega | (simp only [World.size_alloc, World.size_setCell]; omega))]
    first | assumption | (simp [go_sem, c5_0_0, f5_0_0, c5_0_1, f5_0_1, c5_1_0, f5_1_0, c5_1_1, f5_1_1, c5_2_0, f5_2_0, c5_2_1, f5_2_1, c5_2_2, f5_2_2, hz5_0, hz5_1, hz5_2, ne0, ne1, ne2, ne3, ne4]; done)
  have f6_3_0 : w6.frozen? ⟨w5.heap.size, 0, none⟩ = false := by
    rw [hf6 _ _ (by first | omega | (simp only [World.size_alloc, World.size_setCell]; omega))]
    first | assumption | (simp [go_sem, c5_0_0, f5_0_0, c5_0_1, f5_0_1, c5_1_0, f5_1_0, c5_1_1, f5_1_1, c5_2_0, f5_2_0, c5_2_1, f5_2_1, c5_2_2, f5_2_2, hz5_0, hz5_1, hz5_2, ne0, ne1, ne2, ne3, ne4]; done)
  have c6_3_1 : w6.cell? ⟨w5.heap.size, 1, none⟩ = some (.slice aY (ws XY).length cY) := by
    rw [hc6 _ _ (by first | omega | (simp only [World.size_alloc, World.size_setCell]; omega))]
    first | assumption | (simp [go_sem, c5_0_0, f5_0_0, c5_0_1, f5_0_1, c5_1_0, f5_1_0, c5_1_1, f5_1_1, c5_2_0, f5_2_0, c5_2_1, f5_2_1, c5_2_2, f5_2_2, hz5_0, hz5_1, hz5_2, ne0, ne1, ne2, ne3, ne4]; done)
  have f6_3_1 : w6.frozen? ⟨w5.heap.size, 1, none⟩ = false := by
    rw [hf6 _ _ (by first | omega | (simp only [World.size_alloc, World.size_setCell]; omega))]
    first | assumption | (simp [go_sem, c5_0_0, f5_0_0, c5_0_1, f5_0_1, c5_1_0, f5_1_0, c5_1_1, f5_1_1, c5_2_0, f5_2_0, c5_2_1, f5_2_1, c5_2_2, f5_2_2, hz5_0, hz5_1, hz5_2, ne0, ne1, ne2, ne3, ne4]; done)
  have c6_3_2 : w6.cell? ⟨w5.heap.size, 2, none⟩ = some (.int .i64 eY) := by
    rw [hc6 _ _ (by first | omega | (simp only [World.size_alloc, World.size_setCell]; omega))]
    first | assumption | (simp [go_sem, c5_0_0, f5_0_0, c5_0_1, f5_0_1, c5_1_0, f5_1_0, c5_1_1, f5_1_1, c5_2_0, f5_2_0, c5_2_1, f5_2_1, c5_2_2, f5_2_2, hz5_0, hz5_1, hz5_2, ne0, ne1, ne2, ne3, ne4]; done)
  have f6_3_2 : w6.frozen? ⟨w5.heap.size, 2, none⟩ = false := by
    rw [hf6 _ _ (by first | omega | (simp only [World.size_alloc, World.size_setCell]; omega))]
    first | assumption | (simp [go_sem, c5_0_0, f5_0_0, c5_0_1, f5_0_1, c5_1_0, f5_1_0, c5_1_1, f5_1_1, c5_2_0, f5_2_0, c5_2_1, f5_2_1, c5_2_2, f5_2_2, hz5_0, hz5_1, hz5_2, ne0, ne1, ne2, ne3, ne4]; done)
  clear hc6 hf6 c5_0_0 f5_0_0 c5_0_1 f5_0_1 c5_1_0 f5_1_0 c5_1_1 f5_1_1 c5_2_0 f5_2_0 c5_2_1 f5_2_1 c5_2_2 f5_2_2
  have ne5 : w.heap.size ≠ w6.heap.size := by omega
  have ne6 : w.heap.size + 1 ≠ w6.heap.size := by omega
  have ne7 : w4.heap.size ≠ w6.heap.size := by omega
  have ne8 : w5.heap.size ≠ w6.heap.size := by omega
  go_wp2_with fail
  refine (Calls.mono (HM.out _ _ _ _ _ (AX.below (by repeat (first | exact Below.refl _ _ | assumption | exact Nat.le_refl _ | (simp only [World.size_alloc, World.size_setCell]; omega) | omega | refine Below.alloc ?_ ?_ _ | refine Below.setCell ?_ ?_ _ | refine Below.drew ?_))) (AY.below (by repeat (first | exact Below.refl _ _ | assumption | exact Nat.le_refl _ | (simp only [World.size_alloc, World.size_setCell]; omega) | omega | refine Below.alloc ?_ ?_ _ | refine Below.setCell ?_ ?_ _ | refine Below.drew ?_))))) ?_
  rintro r w7 ⟨⟨v7, rfl, N7⟩, hb7⟩
  obtain ⟨aM, cM, rfl, AM⟩ := N7.arg (by omega)
  clear N7
  clear HM
  have hy7 : w6.heap.size ≤ w7.heap.size := by
    have := hb7.size
    try simp only [World.size_alloc, World.size_setCell] at this
    omega
  have hz7_0 : w.heap.size < w7.heap.size := by
    have := hb7.size
    try simp only [World.size_alloc, World.size_setCell] at this
    omega
  have hz7_1 : w.heap.size + 1 < w7.heap.size := by
    have := hb7.size
    try simp only [World.size_alloc, World.size_setCell] at this
    omega
  have hz7_2 : w4.heap.size < w7.heap.size := by
    have := hb7.size
    try simp only [World.size_alloc, World.size_setCell] at this
    omega
  have hz7_3 : w5.heap.size < w7.heap.size := by
    have := hb7.size
    try simp only [World.size_alloc, World.size_setCell] at this
    omega
  have hz7_4 : w6.heap.size < w7.heap.size := by
    have := hb7.size
    try simp only [World.size_alloc, World.size_setCell] at this
    omega
  have B7 := Aside.intro (Below.trans (B := w6.heap.size) (a := w6) (by repeat (first | exact Below.refl _ _ | assumption | exact Nat.le_refl _ | (simp only [World.size_alloc, World.size_setCell]; omega) | omega | refine Below.alloc ?_ ?_ _ | refine Below.setCell ?_ ?_ _ | refine Below.drew ?_)) (hb7.mono (by first | omega | (simp only [World.size_alloc, World.size_setCell]; omega))))
  have S7 := Aside.intro (S6.out.trans (B7.out.mono S6.out.size))
  clear S6
  replace AX := AX.below B7.out
  replace AY := AY.below B7.out
  replace AS := AS.below B7.out
  obtain ⟨hc7, hf7⟩ := bcell hb7
  clear hb7 B7
  have c7_0_0 : w7.cell? ⟨w.heap.size, 0, none⟩ = some (.float .f64 pa) := by
    rw [hc7 _ _ (by first | omega | (simp only [World.size_alloc, World.size_setCell]; omega))]
    first | assumption | (simp [go_sem, c6_0_0, f6_0_0, c6_0_1, f6_0_1, c6_1_0, f6_1_0, c6_1_1, f6_1_1, c6_2_0, f6_2_0, c6_2_1, f6_2_1, c6_2_2, f6_2_2, c6_3_0, f6_3_0, c6_3_1, f6_3_1, c6_3_2, f6_3_2, hz6_0, hz6_1, hz6_2, hz6_3, ne0, ne1, ne2, ne3, ne4, ne5, ne6, ne7, ne8]; done)
  have f7_0_0 : w7.frozen? ⟨w.heap.size, 0, none⟩ = false := by
    rw [hf7 _ _ (by first | omega | (simp only [World.size_alloc, World.size_setCell]; omega))]
    first | assumption | (simp [go_sem, c6_0_0, f6_0_0, c6_0_1, f6_0_1, c6_1_0, f6_1_0, c6_1_1, f6_1_1, c6_2_0, f6_2_0, c6_2_1, f6_2_1, c6_2_2, f6_2_2, c6_3_0, f6_3_0, c6_3_1, f6_3_1, c6_3_2, f6_3_2, hz6_0, hz6_1, hz6_2, hz6_3, ne0, ne1, ne2, ne3, ne4, ne5, ne6, ne7, ne8]; done)
  have c7_0_1 : w7.cell? ⟨w.heap.size, 1, none⟩ = some (.float .f64 pb) := by
    rw [hc7 _ _ (by first | omega | (simp only [World.size_alloc, World.size_setCell]; omega))]
    first | assumption | (simp [go_sem, c6_0_0, f6_0_0, c6_0_1, f6_0_1, c6_1_0, f6_1_0, c6_1_1, f6_1_1, c6_2_0, f6_2_0, c6_2_1, f6_2_1, c6_2_2, f6_2_2, c6_3_0, f6_3_0, c6_3_1, f6_3_1, c6_3_2, f6_3_2, hz6_0, hz6_1, hz6_2, hz6_3, ne0, ne1, ne2, ne3, ne4, ne5, ne6, ne7, ne8]; done)
  have f7_0_1 : w7.frozen? ⟨w.heap.size, 1, none⟩ = false := by
    rw [hf7 _ _ (by first | omega | (simp only [World.size_alloc, World.size_setCell]; omega))]
    first | assumption | (simp [go_sem, c6_0_0, f6_0_0, c6_0_1, f6_0_1, c6_1_0, f6_1_0, c6_1_1, f6_1_1, c6_2_0, f6_2_0, c6_2_1, f6_2_1, c6_2_2, f6_2_2, c6_3_0, f6_3_0, c6_3_1, f6_3_1, c6_3_2, f6_3_2, hz6_0, hz6_1, hz6_2, hz6_3, ne0, ne1, ne2, ne3, ne4, ne5, ne6, ne7, ne8]; done)
  have c7_1_0 : w7.cell? ⟨w.heap.size + 1, 0, none⟩ = some (.float .f64 qa) := by
    rw [hc7 _ _ (by first | omega | (simp only [World.size_alloc, World.size_setCell]; omega))]
    first | assumption | (simp [go_sem, c6_0_0, f6_0_0, c6_0_1, f6_0_1, c6_1_0, f6_1_0, c6_1_1, f6_1_1, c6_2_0, f6_2_0, c6_2_1, f6_2_1, c6_2_2, f6_2_2, c6_3_0, f6_3_0, c6_3_1, f6_3_1, c6_3_2, f6_3_2, hz6_0, hz6_1, hz6_2, hz6_3, ne0, ne1, ne2, ne3, ne4, ne5, ne6, ne7, ne8]; done)
  have f7_1_0 : w7.frozen? ⟨w.heap.size + 1, 0, none⟩ = false := by
    rw [hf7 _ _ (by first | omega | (simp only [World.size_alloc, World.size_setCell]; omega))]
    first | assumption | (simp [go_sem, c6_0_0, f6_0_0, c6_0_1, f6_0_1, c6_1_0, f6_1_0, c6_1_1, f6_1_1, c6_2_0, f6_2_0, c6_2_1, f6_2_1, c6_2_2, f6_2_2, c6_3_0, f6_3_0, c6_3_1, f6_3_1, c6_3_2, f6_3_2, hz6_0, hz6_1, hz6_2, hz6_3, ne0, ne1, ne2, ne3, ne4, ne5, ne6, ne7, ne8]; done)
  have c7_1_1 : w7.cell? ⟨w.heap.size + 1, 1, none⟩ = some (.float .f64 qb) := by
    rw [hc7 _ _ (by first | omega | (simp only [World.size_alloc, World.size_setCell]; omega))]
    first | assumption | (simp [go_sem, c6_0_0, f6_0_0, c6_0_1, f6_0_1, c6_1_0, f6_1_0, c6_1_1, f6_1_1, c6_2_0, f6_2_0, c6_2_1, f6_2_1, c6_2_2, f6_2_2, c6_3_0, f6_3_0, c6_3_1, f6_3_1, c6_3_2, f6_3_2, hz6_0, hz6_1, hz6_2, hz6_3, ne0, ne1, ne2, ne3, ne4, ne5, ne6, ne7, ne8]; done)
  have f7_1_1 : w7.frozen? ⟨w.heap.size + 1, 1, none⟩ = false := by
    rw [hf7 _ _ (by first | omega | (simp only [World.size_alloc, World.size_setCell]; omega))]
    first | assumption | (simp [go_sem, c6_0_0, f6_0_0, c6_0_1, f6_0_1, c6_1_0, f6_1_0, c6_1_1, f6_1_1, c6_2_0, f6_2_0, c6_2_1, f6_2_1, c6_2_2, f6_2_2, c6_3_0, f6_3_0, c6_3_1, f6_3_1, c6_3_2, f6_3_2, hz6_0, hz6_1, hz6_2, hz6_3, ne0, ne1, ne2, ne3, ne4, ne5, ne6, ne7, ne8]; done)
  have c7_2_0 : w7.cell? ⟨w4.heap.size, 0, none⟩ = some (.bool nX) := by
    rw [hc7 _ _ (by first | omega | (simp only [World.size_alloc, World.size_setCell]; omega))]
    first | assumption | (simp [go_sem, c6_0_0, f6_0_0, c6_0_1, f6_0_1, c6_1_0, f6_1_0, c6_1_1, f6_1_1, c6_2_0, f6_2_0, c6_2_1, f6_2_1, c6_2_2, f6_2_2, c6_3_0, f6_3_0, c6_3_1, f6_3_1, c6_3_2, f6_3_2, hz6_0, hz6_1, hz6_2, hz6_3, ne0, ne1, ne2, ne3, ne4, ne5, ne6, ne7, ne8]; done)
  have f7_2_0 : w7.frozen? ⟨w4.heap.size, 0, none⟩ = false := by
    rw [hf7 _ _ (by first | omega | (simp only [World.size_alloc, World.size_setCell]; omega))]
    first | assumption | (simp [go_sem, c6_0_0, f6_0_0, c6_0_1, f6_0_1, c6_1_0, f6_1_0, c6_1_1, f6_1_1, c6_2_0, f6_2_0, c6_2_1, f6_2_1, c6_2_2, f6_2_2, c6_3_0, f6_3_0, c6_3_1, f6_3_1, c6_3_2, f6_3_2, hz6_0, hz6_1, hz6_2, hz6_3, ne0, ne1, ne2, ne3, ne4, ne5, ne6, ne7, ne8]; done)
  have c7_2_1 : w7.cell? ⟨w4.heap.size, 1, none⟩ = some (.slice aX (ws XX).length cX) := by
    rw [hc7 _ _ (by first | omega | (simp only [World.size_alloc, World.size_setCell]; omega))]
    first | assumption | (simp [go_sem, c6_0_0, f6_0_0, c6_0_1, f6_0_1, c6_1_0, f6_1_0, c6_1_1, f6_1_1, c6_2_0, f6_2_0, c6_2_1, f6_2_1, c6_2_2, f6_2_2, c6_3_0, f6_3_0, c6_3_1, f6_3_1, c6_3_2, f6_3_2, hz6_0, hz6_1, hz6_2, hz6_3, ne0, ne1, ne2, ne3, ne4, ne5, ne6, ne7, ne8]; done)
  have f7_2_1 : w7.frozen? ⟨w4.heap.size, 1, none⟩ = false := by
    rw [hf7 _ _ (by first | omega | (simp only [World.size_alloc, World.size_setCell]; omega))]
    first | assumption | (simp [go_sem, c6_0_0, f6_0_0, c6_0_1, f6_0_1, c6_1_0, f6_1_0, c6_1_1, f6_1_1, c6_2_0, f6_2_0, c6_2_1, f6_2_1, c6_2_2, f6_2_2, c6_3_0, f6_3_0, c6_3_1, f6_3_1, c6_3_2, f6_3_2, hz6_0, hz6_1, hz6_2, hz6_3, ne0, ne1, ne2, ne3, ne4, ne5, ne6, ne7, ne8]; done)
  have c7_2_2 : w7.cell? ⟨w4.heap.size, 2, none⟩ = some (.int .i64 eX) := by
    rw [hc7 _ _ (by first | omega | (simp only [World.size_alloc, World.size_setCell]; omega))]
    first | assumption | (simp [go_sem, c6_0_0, f6_0_0, c6_0_1, f6_0_1, c6_1_0, f6_1_0, c6_1_1, f6_1_1, c6_2_0, f6_2_0, c6_2_1, f6_2_1, c6_2_2, f6_2_2, c6_3_0, f6_3_0, c6_3_1, f6_3_1, c6_3_2, f6_3_2, hz6_0, hz6_1, hz6_2, hz6_3, ne0, ne1, ne2, ne3, ne4, ne5, ne6, ne7, ne8]; done)
  have f7_2_2 : w7.frozen? ⟨w4.heap.size, 2, none⟩ = false := by
    rw [hf7 _ _ (by first | omega | (simp only [World.size_alloc, World.size_setCell]; omega))]
    first | assumption | (simp [go_sem, c6_0_0, f6_0_0, c6_0_1, f6_0_1, c6_1_0, f6_1_0, c6_1_1, f6_1_1, c6_2_0, f6_2_0, c6_2_1, f6_2_1, c6_2_2, f6_2_2, c6_3_0, f6_3_0, c6_3_1, f6_3_1, c6_3_2, f6_3_2, hz6_0, hz6_1, hz6_2, hz6_3, ne0, ne1, ne2, ne3, ne4, ne5, ne6, ne7, ne8]; done)
  have c7_3_0 : w7.cell? ⟨w5.heap.size, 0, none⟩ = some (.bool nY) := by
    rw [hc7 _ _ (by first | omega | (simp only [World.size_alloc, World.size_setCell]; omega))]
    first | assumption | (simp [go_sem, c6_0_0, f6_0_0, c6_0_1, f6_0_1, c6_1_0, f6_1_0, c6_1_1, f6_1_1, c6_2_0, f6_2_0, c6_2_1, f6_2_1, c6_2_2, f6_2_2, c6_3_0, f6_3_0, c6_3_1, f6_3_1, c6_3_2, f6_3_2, hz6_0, hz6_1, hz6_2, hz6_3, ne0, ne1, ne2, ne3, ne4, ne5, ne6, ne7, ne8]; done)
  have f7_3_0 : w7.frozen? ⟨w5.heap.size, 0, none⟩ = false := by
    rw [hf7 _ _ (by first | omega | (simp only [World.size_alloc, World.size_setCell]; omega))]
    first | assumption | (simp [go_sem, c6_0_0, f6_0_0, c6_0_1, f6_0_1, c6_1_0, f6_1_0, c6_1_1, f6_1_1, c6_2_0, f6_2_0, c6_2_1, f6_2_1, c6_2_2, f6_2_2, c6_3_0, f6_3_0, c6_3_1, f6_3_1, c6_3_2, f6_3_2, hz6_0, hz6_1, hz6_2, hz6_3, ne0, ne1, ne2, ne3, ne4, ne5, ne6, ne7, ne8]; done)
  have c7_3_1 : w7.cell? ⟨w5.heap.size, 1, none⟩ = some (.slice aY (ws XY).length cY) := by
    rw [hc7 _ _ (by first | omega | (simp only [World.size_alloc, World.size_setCell]; omega))]
    first | assumption | (simp [go_sem, c6_0_0, f6_0_0, c6_0_1, f6_0_1, c6_1_0, f6_1_0, c6_1_1, f6_1_1, c6_2_0, f6_2_0, c6_2_1, f6_2_1, c6_2_2, f6_2_2, c6_3_0, f6_3_0, c6_3_1, f6_3_1, c6_3_2, f6_3_2, hz6_0, hz6_1, hz6_2, hz6_3, ne0, ne1, ne2, ne3, ne4, ne5, ne6, ne7, ne8]; done)
  have f7_3_1 : w7.frozen? ⟨w5.heap.size, 1, none⟩ = false := by
    rw [hf7 _ _ (by first | omega | (simp only [World.size_alloc, World.size_setCell]; omega))]
    first | assumption | (simp [go_sem, c6_0_0, f6_0_0, c6_0_1, f6_0_1, c6_1_0, f6_1_0, c6_1_1, f6_1_1, c6_2_0, f6_2_0, c6_2_1, f6_2_1, c6_2_2, f6_2_2, c6_3_0, f6_3_0, c6_3_1, f6_3_1, c6_3_2, f6_3_2, hz6_0, hz6_1, hz6_2, hz6_3, ne0, ne1, ne2, ne3, ne4, ne5, ne6, ne7, ne8]; done)
  have c7_3_2 : w7.cell? ⟨w5.heap.size, 2, none⟩ = some (.int .i64 eY) := by
    rw [hc7 _ _ (by first | omega | (simp only [World.size_alloc, World.size_setCell]; omega))]
    first | assumption | (simp [go_sem, c6_0_0, f6_0_0, c6_0_1, f6_0_1, c6_1_0, f6_1_0, c6_1_1, f6_1_1, c6_2_0, f6_2_0, c6_2_1, f6_2_1, c6_2_2, f6_2_2, c6_3_0, f6_3_0, c6_3_1, f6_3_1, c6_3_2, f6_3_2, hz6_0, hz6_1, hz6_2, hz6_3, ne0, ne1, ne2, ne3, ne4, ne5, ne6, ne7, ne8]; done)
  have f7_3_2 : w7.frozen? ⟨w5.heap.size, 2, none⟩ = false := by
    rw [hf7 _ _ (by first | omega | (simp only [World.size_alloc, World.size_setCell]; omega))]
    first | assumption | (simp [go_sem, c6_0_0, f6_0_0, c6_0_1, f6_0_1, c6_1_0, f6_1_0, c6_1_1, f6_1_1, c6_2_0, f6_2_0, c6_2_1, f6_2_1, c6_2_2, f6_2_2, c6_3_0, f6_3_0, c6_3_1, f6_3_1, c6_3_2, f6_3_2, hz6_0, hz6_1, hz6_2, hz6_3, ne0, ne1, ne2, ne3, ne4, ne5, ne6, ne7, ne8]; done)
  have c7_4_0 : w7.cell? ⟨w6.heap.size, 0, none⟩ = some (.bool nS) := by
    rw [hc7 _ _ (by first | omega | (simp only [World.size_alloc, World.size_setCell]; omega))]
    first | assumption | (simp [go_sem, c6_0_0, f6_0_0, c6_0_1, f6_0_1, c6_1_0, f6_1_0, c6_1_1, f6_1_1, c6_2_0, f6_2_0, c6_2_1, f6_2_1, c6_2_2, f6_2_2, c6_3_0, f6_3_0, c6_3_1, f6_3_1, c6_3_2, f6_3_2, hz6_0, hz6_1, hz6_2, hz6_3, ne0, ne1, ne2, ne3, ne4, ne5, ne6, ne7, ne8]; done)
  have f7_4_0 : w7.frozen? ⟨w6.heap.size, 0, none⟩ = false := by
    rw [hf7 _ _ (by first | omega | (simp only [World.size_alloc, World.size_setCell]; omega))]
    first | assumption | (simp [go_sem, c6_0_0, f6_0_0, c6_0_1, f6_0_1, c6_1_0, f6_1_0, c6_1_1, f6_1_1, c6_2_0, f6_2_0, c6_2_1, f6_2_1, c6_2_2, f6_2_2, c6_3_0, f6_3_0, c6_3_1, f6_3_1, c6_3_2, f6_3_2, hz6_0, hz6_1, hz6_2, hz6_3, ne0, ne1, ne2, ne3, ne4, ne5, ne6, ne7, ne8]; done)
  have c7_4_1 : w7.cell? ⟨w6.heap.size, 1, none⟩ = some (.slice aS (ws XS).length cS) := by
    rw [hc7 _ _ (by first | omega | (simp only [World.size_alloc, World.size_setCell]; omega))]
    first | assumption | (simp [go_sem, c6_0_0, f6_0_0, c6_0_1, f6_0_1, c6_1_0, f6_1_0, c6_1_1, f6_1_1, c6_2_0, f6_2_0, c6_2_1, f6_2_1, c6_2_2, f6_2_2, c6_3_0, f6_3_0, c6_3_1, f6_3_1, c6_3_2, f6_3_2, hz6_0, hz6_1, hz6_2, hz6_3, ne0, ne1, ne2, ne3, ne4, ne5, ne6, ne7, ne8]; done)
  have f7_4_1 : w7.frozen? ⟨w6.heap.size, 1, none⟩ = false := by
    rw [hf7 _ _ (by first | omega | (simp only [World.size_alloc, World.size_setCell]; omega))]
    first | assumption | (simp [go_sem, c6_0_0, f6_0_0, c6_0_1, f6_0_1, c6_1_0, f6_1_0, c6_1_1, f6_1_1, c6_2_0, f6_2_0, c6_2_1, f6_2_1, c6_2_2, f6_2_2, c6_3_0, f6_3_0, c6_3_1, f6_3_1, c6_3_2, f6_3_2, hz6_0, hz6_1, hz6_2, hz6_3, ne0, ne1, ne2, ne3, ne4, ne5, ne6, ne7, ne8]; done)
  have c7_4_2 : w7.cell? ⟨w6.heap.size, 2, none⟩ = some (.int .i64 eS) := by
    rw [hc7 _ _ (by first | omega | (simp only [World.size_alloc, World.size_setCell]; omega))]
    first | assumption | (simp [go_sem, c6_0_0, f6_0_0, c6_0_1, f6_0_1, c6_1_0, f6_1_0, c6_1_1, f6_1_1, c6_2_0, f6_2_0, c6_2_1, f6_2_1, c6_2_2, f6_2_2, c6_3_0, f6_3_0, c6_3_1, f6_3_1, c6_3_2, f6_3_2, hz6_0, hz6_1, hz6_2, hz6_3, ne0, ne1, ne2, ne3, ne4, ne5, ne6, ne7, ne8]; done)
  have f7_4_2 : w7.frozen? ⟨w6.heap.size, 2, none⟩ = false := by
    rw [hf7 _ _ (by first | omega | (simp only [World.size_alloc, World.size_setCell]; omega))]
    first | assumption | (simp [go_sem, c6_0_0, f6_0_0, c6_0_1, f6_0_1, c6_1_0, f6_1_0, c6_1_1, f6_1_1, c6_2_0, f6_2_0, c6_2_1, f6_2_1, c6_2_2, f6_2_2, c6_3_0, f6_3_0, c6_3_1, f6_3_1, c6_3_2, f6_3_2, hz6_0, hz6_1, hz6_2, hz6_3, ne0, ne1, ne2, ne3, ne4, ne5, ne6, ne7, ne8]; done)
  clear hc7 hf7 c6_0_0 f6_0_0 c6_0_1 f6_0_1 c6_1_0 f6_1_0 c6_1_1 f6_1_1 c6_2_0 f6_2_0 c6_2_1 f6_2_1 c6_2_2 f6_2_2 c6_3_0 f6_3_0 c6_3_1 f6_3_1 c6_3_2 f6_3_2
  obtain ⟨U1, hU1⟩ : ∃ U, U = w7.alloc (.cells #[.bool nM, .slice aM (ws XM).length cM, .int .i64 eM] 43) := ⟨_, rfl⟩
  have BU : Below w7.heap.size w7 U1 := by rw [hU1]; exact below_alloc w7 _
  have hsU : U1.heap.size = w7.heap.size + 1 := by rw [hU1]; simp
  have Z1 := Aside.intro (show Sp w U1 w.heap.size w6.heap.size w7.heap.size pa pb qa qb nS nM aS aM XS cS XM cM eS eM from ⟨S7.out.trans (BU.mono S7.out.size), by omega, by omega, by omega, by omega, ⟨by rw [(bcell BU).1 _ _ (by omega)]; exact c7_0_0, by rw [(bcell BU).1 _ _ (by omega)]; exact c7_0_1, by rw [(bcell BU).1 _ _ (by omega)]; exact c7_1_0, by rw [(bcell BU).1 _ _ (by omega)]; exact c7_1_1, by rw [(bcell BU).1 _ _ (by omega)]; exact c7_4_0, by rw [(bcell BU).1 _ _ (by omega)]; exact c7_4_1, by rw [(bcell BU).1 _ _ (by omega)]; exact c7_4_2, by rw [hU1]; simp [go_sem], by rw [hU1]; simp [go_sem], by rw [hU1]; simp [go_sem]⟩, AS.below BU, AM.below BU⟩)
  clear BU hsU
  go_upto_region 10 with fail
  rw [← hU1]
  clear hU1 S7 AX AY AS AM c7_0_0 f7_0_0 c7_0_1 f7_0_1 c7_1_0 f7_1_0 c7_1_1 f7_1_1 c7_2_0 f7_2_0 c7_2_1 f7_2_1 c7_2_2 f7_2_2 c7_3_0 f7_3_0 c7_3_1 f7_3_1 c7_3_2 f7_3_2 c7_4_0 f7_4_0 c7_4_1 f7_4_1 c7_4_2 f7_4_2
  clear ne0 ne1 ne2 ne3 ne4 ne5 ne6 ne7 ne8 hy1 hy2 hy3 hy4 hy5 hy6 hy7 hz1_0 hz1_1 hz2_0 hz2_1 hz3_0 hz3_1 hz4_0 hz4_1 hz5_0 hz5_1 hz5_2 hz6_0 hz6_1 hz6_2 hz6_3 hz7_0 hz7_1 hz7_2 hz7_3 hz7_4
  obtain ⟨k, hq⟩ : ∃ q, w7.heap.size = q := ⟨_, rfl⟩
  rw [hq] at Z1 ⊢
  clear hq
  obtain ⟨h, hq⟩ : ∃ q, w6.heap.size = q := ⟨_, rfl⟩
  rw [hq] at Z1 ⊢
  clear hq
  obtain ⟨g, hq⟩ : ∃ q, w.heap.size = q := ⟨_, rfl⟩
  rw [hq] at Z1 ⊢
  clear hq
  go_cut [16] from 56 to 60 (fun v wx => v = .bool true ∧ Aside (Sp w wx g h k pa pb qa qb nS nM aS aM XS cS XM cM eS eM))
  case first =>
    obtain ⟨k0, k1, k2, k3, k4, k5, k6, k7, k8, k9⟩ := Z1.out.facts
    go_region_held3 (fun w' => w'.cell? ⟨g, 0, none⟩ = some (.float .f64 pa) ∧ w'.cell? ⟨g, 1, none⟩ = some (.float .f64 pb) ∧ w'.cell? ⟨g + 1, 0, none⟩ = some (.float .f64 qa) ∧ w'.cell? ⟨g + 1, 1, none⟩ = some (.float .f64 qb) ∧ w'.cell? ⟨h, 0, none⟩ = some (.bool nS) ∧ w'.cell? ⟨h, 1, none⟩ = some (.slice aS (ws XS).length cS) ∧ w'.cell? ⟨h, 2, none⟩ = some (.int .i64 eS) ∧ w'.cell? ⟨k, 0, none⟩ = some (.bool nM) ∧ w'.cell? ⟨k, 1, none⟩ = some (.slice aM (ws XM).length cM) ∧ w'.cell? ⟨k, 2, none⟩ = some (.int .i64 eM)) (go_keep) (first
      | (go_at_call 37
         first | with_reducible refine (Calls.mono (HN.out _ aS cS T1.out.AS)) ?_ | with_reducible refine (Calls.mono (HN.out _ aS cS (T1.out.AS.below ((Below.refl _ _).drew)))) ?_
         rintro r x2 ⟨rfl, hb⟩
         have hb1 : Below x1.heap.size x1 x2 := by first | exact hb | exact ((Below.refl _ x1).drew).trans (hb.mono (Nat.le_refl _)) | exact ((Below.refl _ x1).drew).drew.trans (hb.mono (Nat.le_refl _))
         have T2 := Aside.intro (T1.out.below hb1)
         obtain ⟨m2_0, m2_1, m2_2, m2_3, m2_4, m2_5, m2_6, m2_7, m2_8, m2_9⟩ := T2.out.facts
         clear hb hb1)
      | (go_at_call 22
         with_reducible refine (Calls.mono (HP.out _)) ?_
         rintro r x1 ⟨rfl, hb⟩
         have hb1 : Below U1.heap.size U1 x1 := by first | exact hb | exact ((Below.refl _ U1).drew).trans (hb.mono (Nat.le_refl _)) | exact ((Below.refl _ U1).drew).drew.trans (hb.mono (Nat.le_refl _))
         have T1 := Aside.intro (Z1.out.below hb1)
         obtain ⟨m1_0, m1_1, m1_2, m1_3, m1_4, m1_5, m1_6, m1_7, m1_8, m1_9⟩ := T1.out.facts
         clear hb hb1))
    all_goals (
      go_wp2_with fail
      go_meet
      case rel => exact ⟨rfl, T2⟩)
  case rest =>
    obtain ⟨rfl, Z2⟩ := hcut
    obtain ⟨U2, hU⟩ : ∃ U, U = wc := ⟨_, rfl⟩
    subst hU
    clear Z1
    go_upto_region 11 with fail
    go_cut [17] from 61 to 65 (fun v wx => v = .bool true ∧ Aside (Sp w wx g h k pa pb qa qb nS nM aS aM XS cS XM cM eS eM))
    case first =>
      obtain ⟨k0, k1, k2, k3, k4, k5, k6, k7, k8, k9⟩ := Z2.out.facts
      go_region_held3 (fun w' => w'.cell? ⟨g, 0, none⟩ = some (.float .f64 pa) ∧ w'.cell? ⟨g, 1, none⟩ = some (.float .f64 pb) ∧ w'.cell? ⟨g + 1, 0, none⟩ = some (.float .f64 qa) ∧ w'.cell? ⟨g + 1, 1, none⟩ = some (.float .f64 qb) ∧ w'.cell? ⟨h, 0, none⟩ = some (.bool nS) ∧ w'.cell? ⟨h, 1, none⟩ = some (.slice aS (ws XS).length cS) ∧ w'.cell? ⟨h, 2, none⟩ = some (.int .i64 eS) ∧ w'.cell? ⟨k, 0, none⟩ = some (.bool nM) ∧ w'.cell? ⟨k, 1, none⟩ = some (.slice aM (ws XM).length cM) ∧ w'.cell? ⟨k, 2, none⟩ = some (.int .i64 eM)) (go_keep) (first
        | (go_at_call 37
           first | with_reducible refine (Calls.mono (HO.out _ aM cM T1.out.AM)) ?_ | with_reducible refine (Calls.mono (HO.out _ aM cM (T1.out.AM.below ((Below.refl _ _).drew)))) ?_
           rintro r x2 ⟨rfl, hb⟩
           have hb1 : Below x1.heap.size x1 x2 := by first | exact hb | exact ((Below.refl _ x1).drew).trans (hb.mono (Nat.le_refl _)) | exact ((Below.refl _ x1).drew).drew.trans (hb.mono (Nat.le_refl _))
           have T2 := Aside.intro (T1.out.below hb1)
           obtain ⟨m2_0, m2_1, m2_2, m2_3, m2_4, m2_5, m2_6, m2_7, m2_8, m2_9⟩ := T2.out.facts
           clear hb hb1)
        | (go_at_call 24
           with_reducible refine (Calls.mono (HQ.out _)) ?_
           rintro r x1 ⟨rfl, hb⟩
           have hb1 : Below U2.heap.size U2 x1 := by first | exact hb | exact ((Below.refl _ U2).drew).trans (hb.mono (Nat.le_refl _)) | exact ((Below.refl _ U2).drew).drew.trans (hb.mono (Nat.le_refl _))
           have T1 := Aside.intro (Z2.out.below hb1)
           obtain ⟨m1_0, m1_1, m1_2, m1_3, m1_4, m1_5, m1_6, m1_7, m1_8, m1_9⟩ := T1.out.facts
           clear hb hb1))
      all_goals (
        go_wp2_with fail
        go_meet
        case rel => exact ⟨rfl, T2⟩)
    case rest =>
      obtain ⟨rfl, Z3⟩ := hcut
      obtain ⟨U3, hU⟩ : ∃ U, U = wc := ⟨_, rfl⟩
      subst hU
      clear Z2
      go_wp2
      exact bodyPost_ret (v := .bool true) (by simp [results, Try.results6, go_sem]) rfl ⟨rfl, Z3.out.bel⟩
end Go.Proofs.Ythilnddhehbjiab
