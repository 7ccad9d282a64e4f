/- The program's Sum, Quick, Halves: chains of steps. -/
import Derived.Test.YthilnddhehbjiabW48x
namespace Go.Proofs.Ythilnddhehbjiab
open Go.RowKit
set_option linter.unusedVariables false
set_option maxRecDepth 20000
set_option linter.unusedSimpArgs false
attribute [local go_sem] st_float

set_option maxHeartbeats 4000000 in
theorem Quick_core (a b h t l : Nat) (w : World)
    (H1 : Hid (∀ uu, Calls Try.prog 39 #[.float .f64 a, .func (.func 40) #[] #[], .float .f64 b] uu fun r w' => r = .returned (.float .f64 h) ∧ Below uu.heap.size uu w'))
    (H2 : Hid (∀ uu, Calls Try.prog 39 #[.float .f64 h, .func (.func 41) #[] #[], .float .f64 a] uu fun r w' => r = .returned (.float .f64 t) ∧ Below uu.heap.size uu w'))
    (H3 : Hid (∀ uu, Calls Try.prog 39 #[.float .f64 b, .func (.func 41) #[] #[], .float .f64 t] uu fun r w' => r = .returned (.float .f64 l) ∧ Below uu.heap.size uu w')) :
    Calls Try.prog 18 #[.float .f64 a, .float .f64 b] w fun r w' => r = .returned (.agg #[.float .f64 h, .float .f64 l]) ∧ Below w.heap.size w w' := by
  go_enter Try.func18, Try.ntmps18
  go_wp2_with fail
  refine (Calls.mono (H1.out _)) ?_
  rintro r w1 ⟨rfl, hb1⟩
  clear H1
  have hz1_0 : w.heap.size < w1.heap.size := by
    have := hb1.size
    try simp at this
    omega
  have S1 := Aside.intro (Below.trans (B := w.heap.size) (a := w) (by repeat (first | exact Below.refl _ _ | assumption | exact Aside.out ‹_› | exact Nat.le_refl _ | (simp only [World.size_alloc, World.size_setCell]; omega) | (simp; done) | (simp; omega) | omega | refine Below.alloc ?_ ?_ _ | refine Below.setCell ?_ ?_ _ | refine Below.drew ?_)) (hb1.mono (by first | omega | (simp only [World.size_alloc, World.size_setCell]; omega) | (simp; omega) | (simp; done))))
  obtain ⟨hc1, hf1⟩ := bcell hb1
  clear hb1
  go_wp2_with fail
  refine (Calls.mono (H2.out _)) ?_
  rintro r w2 ⟨rfl, hb2⟩
  clear H2
  have hz2_0 : w.heap.size < w2.heap.size := by
    have := hb2.size
    try simp at this
    omega
  have hy2 : w1.heap.size ≤ w2.heap.size := by
    have := hb2.size
    try simp at this
    omega
  have S2 := Aside.intro (Below.trans (B := w.heap.size) (a := w) (by repeat (first | exact Below.refl _ _ | assumption | exact Aside.out ‹_› | exact Nat.le_refl _ | (simp only [World.size_alloc, World.size_setCell]; omega) | (simp; done) | (simp; omega) | omega | refine Below.alloc ?_ ?_ _ | refine Below.setCell ?_ ?_ _ | refine Below.drew ?_)) (hb2.mono (by first | omega | (simp only [World.size_alloc, World.size_setCell]; omega) | (simp; omega) | (simp; done))))
  clear S1
  obtain ⟨hc2, hf2⟩ := bcell hb2
  clear hb2
  go_wp2_with fail
  refine (Calls.mono (H3.out _)) ?_
  rintro r w3 ⟨rfl, hb3⟩
  clear H3
  have hz3_0 : w.heap.size < w3.heap.size := by
    have := hb3.size
    try simp at this
    omega
  have hy3 : w2.heap.size ≤ w3.heap.size := by
    have := hb3.size
    try simp at this
    omega
  have S3 := Aside.intro (Below.trans (B := w.heap.size) (a := w) (by repeat (first | exact Below.refl _ _ | assumption | exact Aside.out ‹_› | exact Nat.le_refl _ | (simp only [World.size_alloc, World.size_setCell]; omega) | (simp; done) | (simp; omega) | omega | refine Below.alloc ?_ ?_ _ | refine Below.setCell ?_ ?_ _ | refine Below.drew ?_)) (hb3.mono (by first | omega | (simp only [World.size_alloc, World.size_setCell]; omega) | (simp; omega) | (simp; done))))
  clear S2
  obtain ⟨hc3, hf3⟩ := bcell hb3
  clear hb3
  go_wp2
  exact bodyPost_ret (v := .agg #[.float .f64 h, .float .f64 l]) (by simp [results, Try.results18, go_sem, hc1, hc2, hc3, hz1_0, hz2_0, hz3_0]) rfl ⟨rfl, (by repeat (first | exact Below.refl _ _ | assumption | exact Aside.out ‹_› | exact Nat.le_refl _ | (simp only [World.size_alloc, World.size_setCell]; omega) | (simp; done) | (simp; omega) | omega | refine Below.alloc ?_ ?_ _ | refine Below.setCell ?_ ?_ _ | refine Below.drew ?_))⟩
set_option maxHeartbeats 4000000 in
theorem Sum_core (a b h t u v x l : Nat) (w : World)
    (H1 : Hid (∀ uu, Calls Try.prog 39 #[.float .f64 a, .func (.func 40) #[] #[], .float .f64 b] uu fun r w' => r = .returned (.float .f64 h) ∧ Below uu.heap.size uu w'))
    (H2 : Hid (∀ uu, Calls Try.prog 39 #[.float .f64 h, .func (.func 41) #[] #[], .float .f64 a] uu fun r w' => r = .returned (.float .f64 t) ∧ Below uu.heap.size uu w'))
    (H3 : Hid (∀ uu, Calls Try.prog 39 #[.float .f64 h, .func (.func 41) #[] #[], .float .f64 t] uu fun r w' => r = .returned (.float .f64 u) ∧ Below uu.heap.size uu w'))
    (H4 : Hid (∀ uu, Calls Try.prog 39 #[.float .f64 a, .func (.func 41) #[] #[], .float .f64 u] uu fun r w' => r = .returned (.float .f64 v) ∧ Below uu.heap.size uu w'))
    (H5 : Hid (∀ uu, Calls Try.prog 39 #[.float .f64 b, .func (.func 41) #[] #[], .float .f64 t] uu fun r w' => r = .returned (.float .f64 x) ∧ Below uu.heap.size uu w'))
    (H6 : Hid (∀ uu, Calls Try.prog 39 #[.float .f64 v, .func (.func 40) #[] #[], .float .f64 x] uu fun r w' => r = .returned (.float .f64 l) ∧ Below uu.heap.size uu w')) :
    Calls Try.prog 12 #[.float .f64 a, .float .f64 b] w fun r w' => r = .returned (.agg #[.float .f64 h, .float .f64 l]) ∧ Below w.heap.size w w' := by
  go_enter Try.func12, Try.ntmps12
  go_wp2_with fail
  refine (Calls.mono (H1.out _)) ?_
  rintro r w1 ⟨rfl, hb1⟩
  clear H1
  have hz1_0 : w.heap.size < w1.heap.size := by
    have := hb1.size
    try simp at this
    omega
  have S1 := Aside.intro (Below.trans (B := w.heap.size) (a := w) (by repeat (first | exact Below.refl _ _ | assumption | exact Aside.out ‹_› | exact Nat.le_refl _ | (simp only [World.size_alloc, World.size_setCell]; omega) | (simp; done) | (simp; omega) | omega | refine Below.alloc ?_ ?_ _ | refine Below.setCell ?_ ?_ _ | refine Below.drew ?_)) (hb1.mono (by first | omega | (simp only [World.size_alloc, World.size_setCell]; omega) | (simp; omega) | (simp; done))))
  obtain ⟨hc1, hf1⟩ := bcell hb1
  clear hb1
  go_wp2_with fail
  refine (Calls.mono (H2.out _)) ?_
  rintro r w2 ⟨rfl, hb2⟩
  clear H2
  have hz2_0 : w.heap.size < w2.heap.size := by
    have := hb2.size
    try simp at this
    omega
  have hy2 : w1.heap.size ≤ w2.heap.size := by
    have := hb2.size
    try simp at this
    omega
  have S2 := Aside.intro (Below.trans (B := w.heap.size) (a := w) (by repeat (first | exact Below.refl _ _ | assumption | exact Aside.out ‹_› | exact Nat.le_refl _ | (simp only [World.size_alloc, World.size_setCell]; omega) | (simp; done) | (simp; omega) | omega | refine Below.alloc ?_ ?_ _ | refine Below.setCell ?_ ?_ _ | refine Below.drew ?_)) (hb2.mono (by first | omega | (simp only [World.size_alloc, World.size_setCell]; omega) | (simp; omega) | (simp; done))))
  clear S1
  obtain ⟨hc2, hf2⟩ := bcell hb2
  clear hb2
  go_wp2_with fail
  refine (Calls.mono (H3.out _)) ?_
  rintro r w3 ⟨rfl, hb3⟩
  clear H3
  have hz3_0 : w.heap.size < w3.heap.size := by
    have := hb3.size
    try simp at this
    omega
  have hy3 : w2.heap.size ≤ w3.heap.size := by
    have := hb3.size
    try simp at this
    omega
  have S3 := Aside.intro (Below.trans (B := w.heap.size) (a := w) (by repeat (first | exact Below.refl _ _ | assumption | exact Aside.out ‹_› | exact Nat.le_refl _ | (simp only [World.size_alloc, World.size_setCell]; omega) | (simp; done) | (simp; omega) | omega | refine Below.alloc ?_ ?_ _ | refine Below.setCell ?_ ?_ _ | refine Below.drew ?_)) (hb3.mono (by first | omega | (simp only [World.size_alloc, World.size_setCell]; omega) | (simp; omega) | (simp; done))))
  clear S2
  obtain ⟨hc3, hf3⟩ := bcell hb3
  clear hb3
  go_wp2_with fail
  refine (Calls.mono (H4.out _)) ?_
  rintro r w4 ⟨rfl, hb4⟩
  clear H4
  have hz4_0 : w.heap.size < w4.heap.size := by
    have := hb4.size
    try simp at this
    omega
  have hy4 : w3.heap.size ≤ w4.heap.size := by
    have := hb4.size
    try simp at this
    omega
  have S4 := Aside.intro (Below.trans (B := w.heap.size) (a := w) (by repeat (first | exact Below.refl _ _ | assumption | exact Aside.out ‹_› | exact Nat.le_refl _ | (simp only [World.size_alloc, World.size_setCell]; omega) | (simp; done) | (simp; omega) | omega | refine Below.alloc ?_ ?_ _ | refine Below.setCell ?_ ?_ _ | refine Below.drew ?_)) (hb4.mono (by first | omega | (simp only [World.size_alloc, World.size_setCell]; omega) | (simp; omega) | (simp; done))))
  clear S3
  obtain ⟨hc4, hf4⟩ := bcell hb4
  clear hb4
  go_wp2_with fail
  refine (Calls.mono (H5.out _)) ?_
  rintro r w5 ⟨rfl, hb5⟩
  clear H5
  have hz5_0 : w.heap.size < w5.heap.size := by
    have := hb5.size
    try simp at this
    omega
  have hy5 : w4.heap.size ≤ w5.heap.size := by
    have := hb5.size
    try simp at this
    omega
  have S5 := Aside.intro (Below.trans (B := w.heap.size) (a := w) (by repeat (first | exact Below.refl _ _ | assumption | exact Aside.out ‹_› | exact Nat.le_refl _ | (simp only [World.size_alloc, World.size_setCell]; omega) | (simp; done) | (simp; omega) | omega | refine Below.alloc ?_ ?_ _ | refine Below.setCell ?_ ?_ _ | refine Below.drew ?_)) (hb5.mono (by first | omega | (simp only [World.size_alloc, World.size_setCell]; omega) | (simp; omega) | (simp; done))))
  clear S4
  obtain ⟨hc5, hf5⟩ := bcell hb5
  clear hb5
  go_wp2_with fail
  refine (Calls.mono (H6.out _)) ?_
  rintro r w6 ⟨rfl, hb6⟩
  clear H6
  have hz6_0 : w.heap.size < w6.heap.size := by
    have := hb6.size
    try simp at this
    omega
  have hy6 : w5.heap.size ≤ w6.heap.size := by
    have := hb6.size
    try simp at this
    omega
  have S6 := Aside.intro (Below.trans (B := w.heap.size) (a := w) (by repeat (first | exact Below.refl _ _ | assumption | exact Aside.out ‹_› | exact Nat.le_refl _ | (simp only [World.size_alloc, World.size_setCell]; omega) | (simp; done) | (simp; omega) | omega | refine Below.alloc ?_ ?_ _ | refine Below.setCell ?_ ?_ _ | refine Below.drew ?_)) (hb6.mono (by first | omega | (simp only [World.size_alloc, World.size_setCell]; omega) | (simp; omega) | (simp; done))))
  clear S5
  obtain ⟨hc6, hf6⟩ := bcell hb6
  clear hb6
  go_wp2
  exact bodyPost_ret (v := .agg #[.float .f64 h, .float .f64 l]) (by simp [results, Try.results12, go_sem, hc1, hc2, hc3, hc4, hc5, hc6, hz1_0, hz2_0, hz3_0, hz4_0, hz5_0, hz6_0]) rfl ⟨rfl, (by repeat (first | exact Below.refl _ _ | assumption | exact Aside.out ‹_› | exact Nat.le_refl _ | (simp only [World.size_alloc, World.size_setCell]; omega) | (simp; done) | (simp; omega) | omega | refine Below.alloc ?_ ?_ _ | refine Below.setCell ?_ ?_ _ | refine Below.drew ?_))⟩
set_option maxHeartbeats 4000000 in
theorem Halves_core (a c d h l : Nat) (w : World)
    (H1 : Hid (∀ uu, Calls Try.prog 39 #[.float .f64 4728779608772575232, .func (.func 42) #[] #[], .float .f64 a] uu fun r w' => r = .returned (.float .f64 c) ∧ Below uu.heap.size uu w'))
    (H2 : Hid (∀ uu, Calls Try.prog 39 #[.float .f64 a, .func (.func 41) #[] #[], .float .f64 c] uu fun r w' => r = .returned (.float .f64 d) ∧ Below uu.heap.size uu w'))
    (H3 : Hid (∀ uu, Calls Try.prog 39 #[.float .f64 c, .func (.func 40) #[] #[], .float .f64 d] uu fun r w' => r = .returned (.float .f64 h) ∧ Below uu.heap.size uu w'))
    (H4 : Hid (∀ uu, Calls Try.prog 39 #[.float .f64 a, .func (.func 41) #[] #[], .float .f64 h] uu fun r w' => r = .returned (.float .f64 l) ∧ Below uu.heap.size uu w')) :
    Calls Try.prog 13 #[.float .f64 a] w fun r w' => r = .returned (.agg #[.float .f64 h, .float .f64 l]) ∧ Below w.heap.size w w' := by
  go_enter Try.func13, Try.ntmps13
  go_wp2_with fail
  refine (Calls.mono (H1.out _)) ?_
  rintro r w1 ⟨rfl, hb1⟩
  clear H1
  have hz1_0 : w.heap.size < w1.heap.size := by
    have := hb1.size
    try simp at this
    omega
  have S1 := Aside.intro (Below.trans (B := w.heap.size) (a := w) (by repeat (first | exact Below.refl _ _ | assumption | exact Aside.out ‹_› | exact Nat.le_refl _ | (simp only [World.size_alloc, World.size_setCell]; omega) | (simp; done) | (simp; omega) | omega | refine Below.alloc ?_ ?_ _ | refine Below.setCell ?_ ?_ _ | refine Below.drew ?_)) (hb1.mono (by first | omega | (simp only [World.size_alloc, World.size_setCell]; omega) | (simp; omega) | (simp; done))))
  obtain ⟨hc1, hf1⟩ := bcell hb1
  clear hb1
  go_wp2_with fail
  refine (Calls.mono (H2.out _)) ?_
  rintro r w2 ⟨rfl, hb2⟩
  clear H2
  have hz2_0 : w.heap.size < w2.heap.size := by
    have := hb2.size
    try simp at this
    omega
  have hy2 : w1.heap.size ≤ w2.heap.size := by
    have := hb2.size
    try simp at this
    omega
  have S2 := Aside.intro (Below.trans (B := w.heap.size) (a := w) (by repeat (first | exact Below.refl _ _ | assumption | exact Aside.out ‹_› | exact Nat.le_refl _ | (simp only [World.size_alloc, World.size_setCell]; omega) | (simp; done) | (simp; omega) | omega | refine Below.alloc ?_ ?_ _ | refine Below.setCell ?_ ?_ _ | refine Below.drew ?_)) (hb2.mono (by first | omega | (simp only [World.size_alloc, World.size_setCell]; omega) | (simp; omega) | (simp; done))))
  clear S1
  obtain ⟨hc2, hf2⟩ := bcell hb2
  clear hb2
  go_wp2_with fail
  refine (Calls.mono (H3.out _)) ?_
  rintro r w3 ⟨rfl, hb3⟩
  clear H3
  have hz3_0 : w.heap.size < w3.heap.size := by
    have := hb3.size
    try simp at this
    omega
  have hy3 : w2.heap.size ≤ w3.heap.size := by
    have := hb3.size
    try simp at this
    omega
  have S3 := Aside.intro (Below.trans (B := w.heap.size) (a := w) (by repeat (first | exact Below.refl _ _ | assumption | exact Aside.out ‹_› | exact Nat.le_refl _ | (simp only [World.size_alloc, World.size_setCell]; omega) | (simp; done) | (simp; omega) | omega | refine Below.alloc ?_ ?_ _ | refine Below.setCell ?_ ?_ _ | refine Below.drew ?_)) (hb3.mono (by first | omega | (simp only [World.size_alloc, World.size_setCell]; omega) | (simp; omega) | (simp; done))))
  clear S2
  obtain ⟨hc3, hf3⟩ := bcell hb3
  clear hb3
  go_wp2_with fail
  refine (Calls.mono (H4.out _)) ?_
  rintro r w4 ⟨rfl, hb4⟩
  clear H4
  have hz4_0 : w.heap.size < w4.heap.size := by
    have := hb4.size
    try simp at this
    omega
  have hy4 : w3.heap.size ≤ w4.heap.size := by
    have := hb4.size
    try simp at this
    omega
  have S4 := Aside.intro (Below.trans (B := w.heap.size) (a := w) (by repeat (first | exact Below.refl _ _ | assumption | exact Aside.out ‹_› | exact Nat.le_refl _ | (simp only [World.size_alloc, World.size_setCell]; omega) | (simp; done) | (simp; omega) | omega | refine Below.alloc ?_ ?_ _ | refine Below.setCell ?_ ?_ _ | refine Below.drew ?_)) (hb4.mono (by first | omega | (simp only [World.size_alloc, World.size_setCell]; omega) | (simp; omega) | (simp; done))))
  clear S3
  obtain ⟨hc4, hf4⟩ := bcell hb4
  clear hb4
  go_wp2
  exact bodyPost_ret (v := .agg #[.float .f64 h, .float .f64 l]) (by simp [results, Try.results13, go_sem, hc1, hc2, hc3, hc4, hz1_0, hz2_0, hz3_0, hz4_0]) rfl ⟨rfl, (by repeat (first | exact Below.refl _ _ | assumption | exact Aside.out ‹_› | exact Nat.le_refl _ | (simp only [World.size_alloc, World.size_setCell]; omega) | (simp; done) | (simp; omega) | omega | refine Below.alloc ?_ ?_ _ | refine Below.setCell ?_ ?_ _ | refine Below.drew ?_))⟩
end Go.Proofs.Ythilnddhehbjiab

/- The program's Product: a chain of calls. -/
namespace Go.Proofs.Ythilnddhehbjiab
open Go.RowKit
set_option linter.unusedVariables false
set_option maxRecDepth 20000
set_option linter.unusedSimpArgs false
attribute [local go_sem] st_float

set_option maxHeartbeats 4000000 in
theorem Product_core (a b h ah al bh bl p p1 q p2 z p3 s l : Nat) (w : World)
    (H1 : Hid (∀ uu, Calls Try.prog 39 #[.float .f64 a, .func (.func 42) #[] #[], .float .f64 b] uu fun r w' => r = .returned (.float .f64 h) ∧ Below uu.heap.size uu w'))
    (H2 : Hid (∀ uu, Calls Try.prog 13 #[.float .f64 a] uu fun r w' => r = .returned (.agg #[.float .f64 ah, .float .f64 al]) ∧ Below uu.heap.size uu w'))
    (H3 : Hid (∀ uu, Calls Try.prog 13 #[.float .f64 b] uu fun r w' => r = .returned (.agg #[.float .f64 bh, .float .f64 bl]) ∧ Below uu.heap.size uu w'))
    (H4 : Hid (∀ uu, Calls Try.prog 39 #[.float .f64 ah, .func (.func 42) #[] #[], .float .f64 bh] uu fun r w' => r = .returned (.float .f64 p) ∧ Below uu.heap.size uu w'))
    (H5 : Hid (∀ uu, Calls Try.prog 39 #[.float .f64 p, .func (.func 41) #[] #[], .float .f64 h] uu fun r w' => r = .returned (.float .f64 p1) ∧ Below uu.heap.size uu w'))
    (H6 : Hid (∀ uu, Calls Try.prog 39 #[.float .f64 ah, .func (.func 42) #[] #[], .float .f64 bl] uu fun r w' => r = .returned (.float .f64 q) ∧ Below uu.heap.size uu w'))
    (H7 : Hid (∀ uu, Calls Try.prog 39 #[.float .f64 p1, .func (.func 40) #[] #[], .float .f64 q] uu fun r w' => r = .returned (.float .f64 p2) ∧ Below uu.heap.size uu w'))
    (H8 : Hid (∀ uu, Calls Try.prog 39 #[.float .f64 al, .func (.func 42) #[] #[], .float .f64 bh] uu fun r w' => r = .returned (.float .f64 z) ∧ Below uu.heap.size uu w'))
    (H9 : Hid (∀ uu, Calls Try.prog 39 #[.float .f64 p2, .func (.func 40) #[] #[], .float .f64 z] uu fun r w' => r = .returned (.float .f64 p3) ∧ Below uu.heap.size uu w'))
    (H10 : Hid (∀ uu, Calls Try.prog 39 #[.float .f64 al, .func (.func 42) #[] #[], .float .f64 bl] uu fun r w' => r = .returned (.float .f64 s) ∧ Below uu.heap.size uu w'))
    (H11 : Hid (∀ uu, Calls Try.prog 39 #[.float .f64 p3, .func (.func 40) #[] #[], .float .f64 s] uu fun r w' => r = .returned (.float .f64 l) ∧ Below uu.heap.size uu w')) :
    Calls Try.prog 14 #[.float .f64 a, .float .f64 b] w fun r w' => r = .returned (.agg #[.float .f64 h, .float .f64 l]) ∧ Below w.heap.size w w' := by
  go_enter Try.func14, Try.ntmps14
  go_wp2_with fail
  refine (Calls.mono (H1.out _)) ?_
  rintro r w1 ⟨rfl, hb1⟩
  clear H1
  have hz1_0 : w.heap.size < w1.heap.size := by
    have := hb1.size
    try simp only [World.size_alloc, World.size_setCell] at this
    omega
  have S1 := Aside.intro (Below.trans (B := w.heap.size) (a := w) (by repeat (first | exact Below.refl _ _ | assumption | exact Aside.out ‹_› | exact Nat.le_refl _ | (simp only [World.size_alloc, World.size_setCell]; omega) | (simp; done) | (simp; omega) | omega | refine Below.alloc ?_ ?_ _ | refine Below.setCell ?_ ?_ _ | refine Below.drew ?_)) (hb1.mono (by first | omega | (simp only [World.size_alloc, World.size_setCell]; omega) | (simp; done))))
  obtain ⟨hc1, hf1⟩ := bcell hb1
  clear hb1
  have c1_0_0 : w1.cell? ⟨w.heap.size, 0, none⟩ = some (.float .f64 0) := by
    rw [hc1 _ _ (by first | omega | (simp only [World.size_alloc, World.size_setCell]; omega))]
    first | assumption | (simp [go_sem]; done)
  have f1_0_0 : w1.frozen? ⟨w.heap.size, 0, none⟩ = false := by
    rw [hf1 _ _ (by first | omega | (simp only [World.size_alloc, World.size_setCell]; omega))]
    first | assumption | (simp [go_sem]; done)
  have c1_0_1 : w1.cell? ⟨w.heap.size, 1, none⟩ = some (.float .f64 0) := by
    rw [hc1 _ _ (by first | omega | (simp only [World.size_alloc, World.size_setCell]; omega))]
    first | assumption | (simp [go_sem]; done)
  have f1_0_1 : w1.frozen? ⟨w.heap.size, 1, none⟩ = false := by
    rw [hf1 _ _ (by first | omega | (simp only [World.size_alloc, World.size_setCell]; omega))]
    first | assumption | (simp [go_sem]; done)
  clear hc1 hf1 
  go_wp2_with fail
  refine (Calls.mono (H2.out _)) ?_
  rintro r w2 ⟨rfl, hb2⟩
  clear H2
  have hz2_0 : w.heap.size < w2.heap.size := by
    have := hb2.size
    try simp only [World.size_alloc, World.size_setCell] at this
    omega
  have hy2 : w1.heap.size ≤ w2.heap.size := by
    have := hb2.size
    try simp only [World.size_alloc, World.size_setCell] at this
    omega
  have S2 := Aside.intro (Below.trans (B := w.heap.size) (a := w) (by repeat (first | exact Below.refl _ _ | assumption | exact Aside.out ‹_› | exact Nat.le_refl _ | (simp only [World.size_alloc, World.size_setCell]; omega) | (simp; done) | (simp; omega) | omega | refine Below.alloc ?_ ?_ _ | refine Below.setCell ?_ ?_ _ | refine Below.drew ?_)) (hb2.mono (by first | omega | (simp only [World.size_alloc, World.size_setCell]; omega) | (simp; done))))
  clear S1
  obtain ⟨hc2, hf2⟩ := bcell hb2
  clear hb2
  have c2_0_0 : w2.cell? ⟨w.heap.size, 0, none⟩ = some (.float .f64 0) := by
    rw [hc2 _ _ (by first | omega | (simp only [World.size_alloc, World.size_setCell]; omega))]
    first | assumption | (simp [go_sem, c1_0_0, f1_0_0, c1_0_1, f1_0_1, hz1_0]; done)
  have f2_0_0 : w2.frozen? ⟨w.heap.size, 0, none⟩ = false := by
    rw [hf2 _ _ (by first | omega | (simp only [World.size_alloc, World.size_setCell]; omega))]
    first | assumption | (simp [go_sem, c1_0_0, f1_0_0, c1_0_1, f1_0_1, hz1_0]; done)
  have c2_0_1 : w2.cell? ⟨w.heap.size, 1, none⟩ = some (.float .f64 0) := by
    rw [hc2 _ _ (by first | omega | (simp only [World.size_alloc, World.size_setCell]; omega))]
    first | assumption | (simp [go_sem, c1_0_0, f1_0_0, c1_0_1, f1_0_1, hz1_0]; done)
  have f2_0_1 : w2.frozen? ⟨w.heap.size, 1, none⟩ = false := by
    rw [hf2 _ _ (by first | omega | (simp only [World.size_alloc, World.size_setCell]; omega))]
    first | assumption | (simp [go_sem, c1_0_0, f1_0_0, c1_0_1, f1_0_1, hz1_0]; done)
  clear hc2 hf2 c1_0_0 f1_0_0 c1_0_1 f1_0_1
  go_wp2_with fail
  refine (Calls.mono (H3.out _)) ?_
  rintro r w3 ⟨rfl, hb3⟩
  clear H3
  have hz3_0 : w.heap.size < w3.heap.size := by
    have := hb3.size
    try simp only [World.size_alloc, World.size_setCell] at this
    omega
  have hy3 : w2.heap.size ≤ w3.heap.size := by
    have := hb3.size
    try simp only [World.size_alloc, World.size_setCell] at this
    omega
  have S3 := Aside.intro (Below.trans (B := w.heap.size) (a := w) (by repeat (first | exact Below.refl _ _ | assumption | exact Aside.out ‹_› | exact Nat.le_refl _ | (simp only [World.size_alloc, World.size_setCell]; omega) | (simp; done) | (simp; omega) | omega | refine Below.alloc ?_ ?_ _ | refine Below.setCell ?_ ?_ _ | refine Below.drew ?_)) (hb3.mono (by first | omega | (simp only [World.size_alloc, World.size_setCell]; omega) | (simp; done))))
  clear S2
  obtain ⟨hc3, hf3⟩ := bcell hb3
  clear hb3
  have c3_0_0 : w3.cell? ⟨w.heap.size, 0, none⟩ = some (.float .f64 0) := by
    rw [hc3 _ _ (by first | omega | (simp only [World.size_alloc, World.size_setCell]; omega))]
    first | assumption | (simp [go_sem, c2_0_0, f2_0_0, c2_0_1, f2_0_1, hz2_0]; done)
  have f3_0_0 : w3.frozen? ⟨w.heap.size, 0, none⟩ = false := by
    rw [hf3 _ _ (by first | omega | (simp only [World.size_alloc, World.size_setCell]; omega))]
    first | assumption | (simp [go_sem, c2_0_0, f2_0_0, c2_0_1, f2_0_1, hz2_0]; done)
  have c3_0_1 : w3.cell? ⟨w.heap.size, 1, none⟩ = some (.float .f64 0) := by
    rw [hc3 _ _ (by first | omega | (simp only [World.size_alloc, World.size_setCell]; omega))]
    first | assumption | (simp [go_sem, c2_0_0, f2_0_0, c2_0_1, f2_0_1, hz2_0]; done)
  have f3_0_1 : w3.frozen? ⟨w.heap.size, 1, none⟩ = false := by
    rw [hf3 _ _ (by first | omega | (simp only [World.size_alloc, World.size_setCell]; omega))]
    first | assumption | (simp [go_sem, c2_0_0, f2_0_0, c2_0_1, f2_0_1, hz2_0]; done)
  clear hc3 hf3 c2_0_0 f2_0_0 c2_0_1 f2_0_1
  have n1 : w.heap.size ≠ w3.heap.size := by omega
  have n2 : w.heap.size ≠ w3.heap.size + 1 := by omega
  have n3 : w.heap.size ≤ w3.heap.size + 1 := by omega
  have n4 : w3.heap.size ≠ w3.heap.size + 1 := by omega
  go_wp2_with fail
  refine (Calls.mono (H4.out _)) ?_
  rintro r w4 ⟨rfl, hb4⟩
  clear H4
  have hz4_0 : w.heap.size < w4.heap.size := by
    have := hb4.size
    try simp only [World.size_alloc, World.size_setCell] at this
    omega
  have hz4_1 : w3.heap.size < w4.heap.size := by
    have := hb4.size
    try simp only [World.size_alloc, World.size_setCell] at this
    omega
  have hz4_2 : w3.heap.size + 1 < w4.heap.size := by
    have := hb4.size
    try simp only [World.size_alloc, World.size_setCell] at this
    omega
  have hy4 : w3.heap.size ≤ w4.heap.size := by
    have := hb4.size
    try simp only [World.size_alloc, World.size_setCell] at this
    omega
  have S4 := Aside.intro (Below.trans (B := w.heap.size) (a := w) (by repeat (first | exact Below.refl _ _ | assumption | exact Aside.out ‹_› | exact Nat.le_refl _ | (simp only [World.size_alloc, World.size_setCell]; omega) | (simp; done) | (simp; omega) | omega | refine Below.alloc ?_ ?_ _ | refine Below.setCell ?_ ?_ _ | refine Below.drew ?_)) (hb4.mono (by first | omega | (simp only [World.size_alloc, World.size_setCell]; omega) | (simp; done))))
  clear S3
  obtain ⟨hc4, hf4⟩ := bcell hb4
  clear hb4
  have c4_0_0 : w4.cell? ⟨w.heap.size, 0, none⟩ = some (.float .f64 0) := by
    rw [hc4 _ _ (by first | omega | (simp only [World.size_alloc, World.size_setCell]; omega))]
    first | assumption | (simp [go_sem, c3_0_0, f3_0_0, c3_0_1, f3_0_1, hz3_0, n1, n2, n3, n4]; done)
  have f4_0_0 : w4.frozen? ⟨w.heap.size, 0, none⟩ = false := by
    rw [hf4 _ _ (by first | omega | (simp only [World.size_alloc, World.size_setCell]; omega))]
    first | assumption | (simp [go_sem, c3_0_0, f3_0_0, c3_0_1, f3_0_1, hz3_0, n1, n2, n3, n4]; done)
  have c4_0_1 : w4.cell? ⟨w.heap.size, 1, none⟩ = some (.float .f64 0) := by
    rw [hc4 _ _ (by first | omega | (simp only [World.size_alloc, World.size_setCell]; omega))]
    first | assumption | (simp [go_sem, c3_0_0, f3_0_0, c3_0_1, f3_0_1, hz3_0, n1, n2, n3, n4]; done)
  have f4_0_1 : w4.frozen? ⟨w.heap.size, 1, none⟩ = false := by
    rw [hf4 _ _ (by first | omega | (simp only [World.size_alloc, World.size_setCell]; omega))]
    first | assumption | (simp [go_sem, c3_0_0, f3_0_0, c3_0_1, f3_0_1, hz3_0, n1, n2, n3, n4]; done)
  have c4_1_0 : w4.cell? ⟨w3.heap.size, 0, none⟩ = some (.float .f64 ah) := by
    rw [hc4 _ _ (by first | omega | (simp only [World.size_alloc, World.size_setCell]; omega))]
    first | assumption | (simp [go_sem, c3_0_0, f3_0_0, c3_0_1, f3_0_1, hz3_0, n1, n2, n3, n4]; done)
  have f4_1_0 : w4.frozen? ⟨w3.heap.size, 0, none⟩ = false := by
    rw [hf4 _ _ (by first | omega | (simp only [World.size_alloc, World.size_setCell]; omega))]
    first | assumption | (simp [go_sem, c3_0_0, f3_0_0, c3_0_1, f3_0_1, hz3_0, n1, n2, n3, n4]; done)
  have c4_1_1 : w4.cell? ⟨w3.heap.size, 1, none⟩ = some (.float .f64 al) := by
    rw [hc4 _ _ (by first | omega | (simp only [World.size_alloc, World.size_setCell]; omega))]
    first | assumption | (simp [go_sem, c3_0_0, f3_0_0, c3_0_1, f3_0_1, hz3_0, n1, n2, n3, n4]; done)
  have f4_1_1 : w4.frozen? ⟨w3.heap.size, 1, none⟩ = false := by
    rw [hf4 _ _ (by first | omega | (simp only [World.size_alloc, World.size_setCell]; omega))]
    first | assumption | (simp [go_sem, c3_0_0, f3_0_0, c3_0_1, f3_0_1, hz3_0, n1, n2, n3, n4]; done)
  have c4_2_0 : w4.cell? ⟨w3.heap.size + 1, 0, none⟩ = some (.float .f64 bh) := by
    rw [hc4 _ _ (by first | omega | (simp only [World.size_alloc, World.size_setCell]; omega))]
    first | assumption | (simp [go_sem, c3_0_0, f3_0_0, c3_0_1, f3_0_1, hz3_0, n1, n2, n3, n4]; done)
  have f4_2_0 : w4.frozen? ⟨w3.heap.size + 1, 0, none⟩ = false := by
    rw [hf4 _ _ (by first | omega | (simp only [World.size_alloc, World.size_setCell]; omega))]
    first | assumption | (simp [go_sem, c3_0_0, f3_0_0, c3_0_1, f3_0_1, hz3_0, n1, n2, n3, n4]; done)
  have c4_2_1 : w4.cell? ⟨w3.heap.size + 1, 1, none⟩ = some (.float .f64 bl) := by
    rw [hc4 _ _ (by first | omega | (simp only [World.size_alloc, World.size_setCell]; omega))]
    first | assumption | (simp [go_sem, c3_0_0, f3_0_0, c3_0_1, f3_0_1, hz3_0, n1, n2, n3, n4]; done)
  have f4_2_1 : w4.frozen? ⟨w3.heap.size + 1, 1, none⟩ = false := by
    rw [hf4 _ _ (by first | omega | (simp only [World.size_alloc, World.size_setCell]; omega))]
    first | assumption | (simp [go_sem, c3_0_0, f3_0_0, c3_0_1, f3_0_1, hz3_0, n1, n2, n3, n4]; done)
  clear hc4 hf4 c3_0_0 f3_0_0 c3_0_1 f3_0_1
  go_wp2_with fail
  refine (Calls.mono (H5.out _)) ?_
  rintro r w5 ⟨rfl, hb5⟩
  clear H5
  have hz5_0 : w.heap.size < w5.heap.size := by
    have := hb5.size
    try simp only [World.size_alloc, World.size_setCell] at this
    omega
  have hz5_1 : w3.heap.size < w5.heap.size := by
    have := hb5.size
    try simp only [World.size_alloc, World.size_setCell] at this
    omega
  have hz5_2 : w3.heap.size + 1 < w5.heap.size := by
    have := hb5.size
    try simp only [World.size_alloc, World.size_setCell] at this
    omega
  have hy5 : w4.heap.size ≤ w5.heap.size := by
    have := hb5.size
    try simp only [World.size_alloc, World.size_setCell] at this
    omega
  have S5 := Aside.intro (Below.trans (B := w.heap.size) (a := w) (by repeat (first | exact Below.refl _ _ | assumption | exact Aside.out ‹_› | exact Nat.le_refl _ | (simp only [World.size_alloc, World.size_setCell]; omega) | (simp; done) | (simp; omega) | omega | refine Below.alloc ?_ ?_ _ | refine Below.setCell ?_ ?_ _ | refine Below.drew ?_)) (hb5.mono (by first | omega | (simp only [World.size_alloc, World.size_setCell]; omega) | (simp; done))))
  clear S4
  obtain ⟨hc5, hf5⟩ := bcell hb5
  clear hb5
  have c5_0_0 : w5.cell? ⟨w.heap.size, 0, none⟩ = some (.float .f64 0) := by
    rw [hc5 _ _ (by first | omega | (simp only [World.size_alloc, World.size_setCell]; omega))]
    first | assumption | (simp [go_sem, c4_0_0, f4_0_0, c4_0_1, f4_0_1, c4_1_0, f4_1_0, c4_1_1, f4_1_1, c4_2_0, f4_2_0, c4_2_1, f4_2_1, hz4_0, hz4_1, hz4_2, n1, n2, n3, n4]; done)
  have f5_0_0 : w5.frozen? ⟨w.heap.size, 0, none⟩ = false := by
    rw [hf5 _ _ (by first | omega | (simp only [World.size_alloc, World.size_setCell]; omega))]
    first | assumption | (simp [go_sem, c4_0_0, f4_0_0, c4_0_1, f4_0_1, c4_1_0, f4_1_0, c4_1_1, f4_1_1, c4_2_0, f4_2_0, c4_2_1, f4_2_1, hz4_0, hz4_1, hz4_2, n1, n2, n3, n4]; done)
  have c5_0_1 : w5.cell? ⟨w.heap.size, 1, none⟩ = some (.float .f64 0) := by
    rw [hc5 _ _ (by first | omega | (simp only [World.size_alloc, World.size_setCell]; omega))]
    first | assumption | (simp [go_sem, c4_0_0, f4_0_0, c4_0_1, f4_0_1, c4_1_0, f4_1_0, c4_1_1, f4_1_1, c4_2_0, f4_2_0, c4_2_1, f4_2_1, hz4_0, hz4_1, hz4_2, n1, n2, n3, n4]; done)
  have f5_0_1 : w5.frozen? ⟨w.heap.size, 1, none⟩ = false := by
    rw [hf5 _ _ (by first | omega | (simp only [World.size_alloc, World.size_setCell]; omega))]
    first | assumption | (simp [go_sem, c4_0_0, f4_0_0, c4_0_1, f4_0_1, c4_1_0, f4_1_0, c4_1_1, f4_1_1, c4_2_0, f4_2_0, c4_2_1, f4_2_1, hz4_0, hz4_1, hz4_2, n1, n2, n3, n4]; done)
  have c5_1_0 : w5.cell? ⟨w3.heap.size, 0, none⟩ = some (.float .f64 ah) := by
    rw [hc5 _ _ (by first | omega | (simp only [World.size_alloc, World.size_setCell]; omega))]
    first | assumption | (simp [go_sem, c4_0_0, f4_0_0, c4_0_1, f4_0_1, c4_1_0, f4_1_0, c4_1_1, f4_1_1, c4_2_0, f4_2_0, c4_2_1, f4_2_1, hz4_0, hz4_1, hz4_2, n1, n2, n3, n4]; done)
  have f5_1_0 : w5.frozen? ⟨w3.heap.size, 0, none⟩ = false := by
    rw [hf5 _ _ (by first | omega | (simp only [World.size_alloc, World.size_setCell]; omega))]
    first | assumption | (simp [go_sem, c4_0_0, f4_0_0, c4_0_1, f4_0_1, c4_1_0, f4_1_0, c4_1_1, f4_1_1, c4_2_0, f4_2_0, c4_2_1, f4_2_1, hz4_0, hz4_1, hz4_2, n1, n2, n3, n4]; done)
  have c5_1_1 : w5.cell? ⟨w3.heap.size, 1, none⟩ = some (.float .f64 al) := by
    rw [hc5 _ _ (by first | omega | (simp only [World.size_alloc, World.size_setCell]; omega))]
    first | assumption | (simp [go_sem, c4_0_0, f4_0_0, c4_0_1, f4_0_1, c4_1_0, f4_1_0, c4_1_1, f4_1_1, c4_2_0, f4_2_0, c4_2_1, f4_2_1, hz4_0, hz4_1, hz4_2, n1, n2, n3, n4]; done)
  have f5_1_1 : w5.frozen? ⟨w3.heap.size, 1, none⟩ = false := by
    rw [hf5 _ _ (by first | omega | (simp only [World.size_alloc, World.size_setCell]; omega))]
    first | assumption | (simp [go_sem, c4_0_0, f4_0_0, c4_0_1, f4_0_1, c4_1_0, f4_1_0, c4_1_1, f4_1_1, c4_2_0, f4_2_0, c4_2_1, f4_2_1, hz4_0, hz4_1, hz4_2, n1, n2, n3, n4]; done)
  have c5_2_0 : w5.cell? ⟨w3.heap.size + 1, 0, none⟩ = some (.float .f64 bh) := by
    rw [hc5 _ _ (by first | omega | (simp only [World.size_alloc, World.size_setCell]; omega))]
    first | assumption | (simp [go_sem, c4_0_0, f4_0_0, c4_0_1, f4_0_1, c4_1_0, f4_1_0, c4_1_1, f4_1_1, c4_2_0, f4_2_0, c4_2_1, f4_2_1, hz4_0, hz4_1, hz4_2, n1, n2, n3, n4]; done)
  have f5_2_0 : w5.frozen? ⟨w3.heap.size + 1, 0, none⟩ = false := by
    rw [hf5 _ _ (by first | omega | (simp only [World.size_alloc, World.size_setCell]; omega))]
    first | assumption | (simp [go_sem, c4_0_0, f4_0_0, c4_0_1, f4_0_1, c4_1_0, f4_1_0, c4_1_1, f4_1_1, c4_2_0, f4_2_0, c4_2_1, f4_2_1, hz4_0, hz4_1, hz4_2, n1, n2, n3, n4]; done)
  have c5_2_1 : w5.cell? ⟨w3.heap.size + 1, 1, none⟩ = some (.float .f64 bl) := by
    rw [hc5 _ _ (by first | omega | (simp only [World.size_alloc, World.size_setCell]; omega))]
    first | assumption | (simp [go_sem, c4_0_0, f4_0_0, c4_0_1, f4_0_1, c4_1_0, f4_1_0, c4_1_1, f4_1_1, c4_2_0, f4_2_0, c4_2_1, f4_2_1, hz4_0, hz4_1, hz4_2, n1, n2, n3, n4]; done)
  have f5_2_1 : w5.frozen? ⟨w3.heap.size + 1, 1, none⟩ = false := by
    rw [hf5 _ _ (by first | omega | (simp only [World.size_alloc, World.size_setCell]; omega))]
    first | assumption | (simp [go_sem, c4_0_0, f4_0_0, c4_0_1, f4_0_1, c4_1_0, f4_1_0, c4_1_1, f4_1_1, c4_2_0, f4_2_0, c4_2_1, f4_2_1, hz4_0, hz4_1, hz4_2, n1, n2, n3, n4]; done)
  clear hc5 hf5 c4_0_0 f4_0_0 c4_0_1 f4_0_1 c4_1_0 f4_1_0 c4_1_1 f4_1_1 c4_2_0 f4_2_0 c4_2_1 f4_2_1
  go_wp2_with fail
  refine (Calls.mono (H6.out _)) ?_
  rintro r w6 ⟨rfl, hb6⟩
  clear H6
  have hz6_0 : w.heap.size < w6.heap.size := by
    have := hb6.size
    try simp only [World.size_alloc, World.size_setCell] at this
    omega
  have hz6_1 : w3.heap.size < w6.heap.size := by
    have := hb6.size
    try simp only [World.size_alloc, World.size_setCell] at this
    omega
  have hz6_2 : w3.heap.size + 1 < w6.heap.size := by
    have := hb6.size
    try simp only [World.size_alloc, World.size_setCell] at this
    omega
  have hy6 : w5.heap.size ≤ w6.heap.size := by
    have := hb6.size
    try simp only [World.size_alloc, World.size_setCell] at this
    omega
  have S6 := Aside.intro (Below.trans (B := w.heap.size) (a := w) (by repeat (first | exact Below.refl _ _ | assumption | exact Aside.out ‹_› | exact Nat.le_refl _ | (simp only [World.size_alloc, World.size_setCell]; omega) | (simp; done) | (simp; omega) | omega | refine Below.alloc ?_ ?_ _ | refine Below.setCell ?_ ?_ _ | refine Below.drew ?_)) (hb6.mono (by first | omega | (simp only [World.size_alloc, World.size_setCell]; omega) | (simp; done))))
  clear S5
  obtain ⟨hc6, hf6⟩ := bcell hb6
  clear hb6
  have c6_0_0 : w6.cell? ⟨w.heap.size, 0, none⟩ = some (.float .f64 0) := by
    rw [hc6 _ _ (by first | omega | (simp only [World.size_alloc, World.size_setCell]; omega))]
    first | assumption | (simp [go_sem, c5_0_0, f5_0_0, c5_0_1, f5_0_1, c5_1_0, f5_1_0, c5_1_1, f5_1_1, c5_2_0, f5_2_0, c5_2_1, f5_2_1, hz5_0, hz5_1, hz5_2, n1, n2, n3, n4]; done)
  have f6_0_0 : w6.frozen? ⟨w.heap.size, 0, none⟩ = false := by
    rw [hf6 _ _ (by first | omega | (simp only [World.size_alloc, World.size_setCell]; omega))]
    first | assumption | (simp [go_sem, c5_0_0, f5_0_0, c5_0_1, f5_0_1, c5_1_0, f5_1_0, c5_1_1, f5_1_1, c5_2_0, f5_2_0, c5_2_1, f5_2_1, hz5_0, hz5_1, hz5_2, n1, n2, n3, n4]; done)
  have c6_0_1 : w6.cell? ⟨w.heap.size, 1, none⟩ = some (.float .f64 0) := by
    rw [hc6 _ _ (by first | omega | (simp only [World.size_alloc, World.size_setCell]; omega))]
    first | assumption | (simp [go_sem, c5_0_0, f5_0_0, c5_0_1, f5_0_1, c5_1_0, f5_1_0, c5_1_1, f5_1_1, c5_2_0, f5_2_0, c5_2_1, f5_2_1, hz5_0, hz5_1, hz5_2, n1, n2, n3, n4]; done)
  have f6_0_1 : w6.frozen? ⟨w.heap.size, 1, none⟩ = false := by
    rw [hf6 _ _ (by first | omega | (simp only [World.size_alloc, World.size_setCell]; omega))]
    first | assumption | (simp [go_sem, c5_0_0, f5_0_0, c5_0_1, f5_0_1, c5_1_0, f5_1_0, c5_1_1, f5_1_1, c5_2_0, f5_2_0, c5_2_1, f5_2_1, hz5_0, hz5_1, hz5_2, n1, n2, n3, n4]; done)
  have c6_1_0 : w6.cell? ⟨w3.heap.size, 0, none⟩ = some (.float .f64 ah) := by
    rw [hc6 _ _ (by first | omega | (simp only [World.size_alloc, World.size_setCell]; omega))]
    first | assumption | (simp [go_sem, c5_0_0, f5_0_0, c5_0_1, f5_0_1, c5_1_0, f5_1_0, c5_1_1, f5_1_1, c5_2_0, f5_2_0, c5_2_1, f5_2_1, hz5_0, hz5_1, hz5_2, n1, n2, n3, n4]; done)
  have f6_1_0 : w6.frozen? ⟨w3.heap.size, 0, none⟩ = false := by
    rw [hf6 _ _ (by first | omega | (simp only [World.size_alloc, World.size_setCell]; omega))]
    first | assumption | (simp [go_sem, c5_0_0, f5_0_0, c5_0_1, f5_0_1, c5_1_0, f5_1_0, c5_1_1, f5_1_1, c5_2_0, f5_2_0, c5_2_1, f5_2_1, hz5_0, hz5_1, hz5_2, n1, n2, n3, n4]; done)
  have c6_1_1 : w6.cell? ⟨w3.heap.size, 1, none⟩ = some (.float .f64 al) := by
    rw [hc6 _ _ (by first | omega | (simp only [World.size_alloc, World.size_setCell]; omega))]
    first | assumption | (simp [go_sem, c5_0_0, f5_0_0, c5_0_1, f5_0_1, c5_1_0, f5_1_0, c5_1_1, f5_1_1, c5_2_0, f5_2_0, c5_2_1, f5_2_1, hz5_0, hz5_1, hz5_2, n1, n2, n3, n4]; done)
  have f6_1_1 : w6.frozen? ⟨w3.heap.size, 1, none⟩ = false := by
    rw [hf6 _ _ (by first | omega | (simp only [World.size_alloc, World.size_setCell]; omega))]
    first | assumption | (simp [go_sem, c5_0_0, f5_0_0, c5_0_1, f5_0_1, c5_1_0, f5_1_0, c5_1_1, f5_1_1, c5_2_0, f5_2_0, c5_2_1, f5_2_1, hz5_0, hz5_1, hz5_2, n1, n2, n3, n4]; done)
  have c6_2_0 : w6.cell? ⟨w3.heap.size + 1, 0, none⟩ = some (.float .f64 bh) := by
    rw [hc6 _ _ (by first | omega | (simp only [World.size_alloc, World.size_setCell]; omega))]
    first | assumption | (simp [go_sem, c5_0_0, f5_0_0, c5_0_1, f5_0_1, c5_1_0, f5_1_0, c5_1_1, f5_1_1, c5_2_0, f5_2_0, c5_2_1, f5_2_1, hz5_0, hz5_1, hz5_2, n1, n2, n3, n4]; done)
  have f6_2_0 : w6.frozen? ⟨w3.heap.size + 1, 0, none⟩ = false := by
    rw [hf6 _ _ (by first | omega | (simp only [World.size_alloc, World.size_setCell]; omega))]
    first | assumption | (simp [go_sem, c5_0_0, f5_0_0, c5_0_1, f5_0_1, c5_1_0, f5_1_0, c5_1_1, f5_1_1, c5_2_0, f5_2_0, c5_2_1, f5_2_1, hz5_0, hz5_1, hz5_2, n1, n2, n3, n4]; done)
  have c6_2_1 : w6.cell? ⟨w3.heap.size + 1, 1, none⟩ = some (.float .f64 bl) := by
    rw [hc6 _ _ (by first | omega | (simp only [World.size_alloc, World.size_setCell]; omega))]
    first | assumption | (simp [go_sem, c5_0_0, f5_0_0, c5_0_1, f5_0_1, c5_1_0, f5_1_0, c5_1_1, f5_1_1, c5_2_0, f5_2_0, c5_2_1, f5_2_1, hz5_0, hz5_1, hz5_2, n1, n2, n3, n4]; done)
  have f6_2_1 : w6.frozen? ⟨w3.heap.size + 1, 1, none⟩ = false := by
    rw [hf6 _ _ (by first | omega | (simp only [World.size_alloc, World.size_setCell]; omega))]
    first | assumption | (simp [go_sem, c5_0_0, f5_0_0, c5_0_1, f5_0_1, c5_1_0, f5_1_0, c5_1_1, f5_1_1, c5_2_0, f5_2_0, c5_2_1, f5_2_1, hz5_0, hz5_1, hz5_2, n1, n2, n3, n4]; done)
  clear hc6 hf6 c5_0_0 f5_0_0 c5_0_1 f5_0_1 c5_1_0 f5_1_0 c5_1_1 f5_1_1 c5_2_0 f5_2_0 c5_2_1 f5_2_1
  go_wp2_with fail
  refine (Calls.mono (H7.out _)) ?_
  rintro r w7 ⟨rfl, hb7⟩
  clear H7
  have hz7_0 : w.heap.size < w7.heap.size := by
    have := hb7.size
    try simp only [World.size_alloc, World.size_setCell] at this
    omega
  have hz7_1 : w3.heap.size < w7.heap.size := by
    have := hb7.size
    try simp only [World.size_alloc, World.size_setCell] at this
    omega
  have hz7_2 : w3.heap.size + 1 < w7.heap.size := by
    have := hb7.size
    try simp only [World.size_alloc, World.size_setCell] at this
    omega
  have hy7 : w6.heap.size ≤ w7.heap.size := by
    have := hb7.size
    try simp only [World.size_alloc, World.size_setCell] at this
    omega
  have S7 := Aside.intro (Below.trans (B := w.heap.size) (a := w) (by repeat (first | exact Below.refl _ _ | assumption | exact Aside.out ‹_› | exact Nat.le_refl _ | (simp only [World.size_alloc, World.size_setCell]; omega) | (simp; done) | (simp; omega) | omega | refine Below.alloc ?_ ?_ _ | refine Below.setCell ?_ ?_ _ | refine Below.drew ?_)) (hb7.mono (by first | omega | (simp only [World.size_alloc, World.size_setCell]; omega) | (simp; done))))
  clear S6
  obtain ⟨hc7, hf7⟩ := bcell hb7
  clear hb7
  have c7_0_0 : w7.cell? ⟨w.heap.size, 0, none⟩ = some (.float .f64 0) := by
    rw [hc7 _ _ (by first | omega | (simp only [World.size_alloc, World.size_setCell]; omega))]
    first | assumption | (simp [go_sem, c6_0_0, f6_0_0, c6_0_1, f6_0_1, c6_1_0, f6_1_0, c6_1_1, f6_1_1, c6_2_0, f6_2_0, c6_2_1, f6_2_1, hz6_0, hz6_1, hz6_2, n1, n2, n3, n4]; done)
  have f7_0_0 : w7.frozen? ⟨w.heap.size, 0, none⟩ = false := by
    rw [hf7 _ _ (by first | omega | (simp only [World.size_alloc, World.size_setCell]; omega))]
    first | assumption | (simp [go_sem, c6_0_0, f6_0_0, c6_0_1, f6_0_1, c6_1_0, f6_1_0, c6_1_1, f6_1_1, c6_2_0, f6_2_0, c6_2_1, f6_2_1, hz6_0, hz6_1, hz6_2, n1, n2, n3, n4]; done)
  have c7_0_1 : w7.cell? ⟨w.heap.size, 1, none⟩ = some (.float .f64 0) := by
    rw [hc7 _ _ (by first | omega | (simp only [World.size_alloc, World.size_setCell]; omega))]
    first | assumption | (simp [go_sem, c6_0_0, f6_0_0, c6_0_1, f6_0_1, c6_1_0, f6_1_0, c6_1_1, f6_1_1, c6_2_0, f6_2_0, c6_2_1, f6_2_1, hz6_0, hz6_1, hz6_2, n1, n2, n3, n4]; done)
  have f7_0_1 : w7.frozen? ⟨w.heap.size, 1, none⟩ = false := by
    rw [hf7 _ _ (by first | omega | (simp only [World.size_alloc, World.size_setCell]; omega))]
    first | assumption | (simp [go_sem, c6_0_0, f6_0_0, c6_0_1, f6_0_1, c6_1_0, f6_1_0, c6_1_1, f6_1_1, c6_2_0, f6_2_0, c6_2_1, f6_2_1, hz6_0, hz6_1, hz6_2, n1, n2, n3, n4]; done)
  have c7_1_0 : w7.cell? ⟨w3.heap.size, 0, none⟩ = some (.float .f64 ah) := by
    rw [hc7 _ _ (by first | omega | (simp only [World.size_alloc, World.size_setCell]; omega))]
    first | assumption | (simp [go_sem, c6_0_0, f6_0_0, c6_0_1, f6_0_1, c6_1_0, f6_1_0, c6_1_1, f6_1_1, c6_2_0, f6_2_0, c6_2_1, f6_2_1, hz6_0, hz6_1, hz6_2, n1, n2, n3, n4]; done)
  have f7_1_0 : w7.frozen? ⟨w3.heap.size, 0, none⟩ = false := by
    rw [hf7 _ _ (by first | omega | (simp only [World.size_alloc, World.size_setCell]; omega))]
    first | assumption | (simp [go_sem, c6_0_0, f6_0_0, c6_0_1, f6_0_1, c6_1_0, f6_1_0, c6_1_1, f6_1_1, c6_2_0, f6_2_0, c6_2_1, f6_2_1, hz6_0, hz6_1, hz6_2, n1, n2, n3, n4]; done)
  have c7_1_1 : w7.cell? ⟨w3.heap.size, 1, none⟩ = some (.float .f64 al) := by
    rw [hc7 _ _ (by first | omega | (simp only [World.size_alloc, World.size_setCell]; omega))]
    first | assumption | (simp [go_sem, c6_0_0, f6_0_0, c6_0_1, f6_0_1, c6_1_0, f6_1_0, c6_1_1, f6_1_1, c6_2_0, f6_2_0, c6_2_1, f6_2_1, hz6_0, hz6_1, hz6_2, n1, n2, n3, n4]; done)
  have f7_1_1 : w7.frozen? ⟨w3.heap.size, 1, none⟩ = false := by
    rw [hf7 _ _ (by first | omega | (simp only [World.size_alloc, World.size_setCell]; omega))]
    first | assumption | (simp [go_sem, c6_0_0, f6_0_0, c6_0_1, f6_0_1, c6_1_0, f6_1_0, c6_1_1, f6_1_1, c6_2_0, f6_2_0, c6_2_1, f6_2_1, hz6_0, hz6_1, hz6_2, n1, n2, n3, n4]; done)
  have c7_2_0 : w7.cell? ⟨w3.heap.size + 1, 0, none⟩ = some (.float .f64 bh) := by
    rw [hc7 _ _ (by first | omega | (simp only [World.size_alloc, World.size_setCell]; omega))]
    first | assumption | (simp [go_sem, c6_0_0, f6_0_0, c6_0_1, f6_0_1, c6_1_0, f6_1_0, c6_1_1, f6_1_1, c6_2_0, f6_2_0, c6_2_1, f6_2_1, hz6_0, hz6_1, hz6_2, n1, n2, n3, n4]; done)
  have f7_2_0 : w7.frozen? ⟨w3.heap.size + 1, 0, none⟩ = false := by
    rw [hf7 _ _ (by first | omega | (simp only [World.size_alloc, World.size_setCell]; omega))]
    first | assumption | (simp [go_sem, c6_0_0, f6_0_0, c6_0_1, f6_0_1, c6_1_0, f6_1_0, c6_1_1, f6_1_1, c6_2_0, f6_2_0, c6_2_1, f6_2_1, hz6_0, hz6_1, hz6_2, n1, n2, n3, n4]; done)
  have c7_2_1 : w7.cell? ⟨w3.heap.size + 1, 1, none⟩ = some (.float .f64 bl) := by
    rw [hc7 _ _ (by first | omega | (simp only [World.size_alloc, World.size_setCell]; omega))]
    first | assumption | (simp [go_sem, c6_0_0, f6_0_0, c6_0_1, f6_0_1, c6_1_0, f6_1_0, c6_1_1, f6_1_1, c6_2_0, f6_2_0, c6_2_1, f6_2_1, hz6_0, hz6_1, hz6_2, n1, n2, n3, n4]; done)
  have f7_2_1 : w7.frozen? ⟨w3.heap.size + 1, 1, none⟩ = false := by
    rw [hf7 _ _ (by first | omega | (simp only [World.size_alloc, World.size_setCell]; omega))]
    first | assumption | (simp [go_sem, c6_0_0, f6_0_0, c6_0_1, f6_0_1, c6_1_0, f6_1_0, c6_1_1, f6_1_1, c6_2_0, f6_2_0, c6_2_1, f6_2_1, hz6_0, hz6_1, hz6_2, n1, n2, n3, n4]; done)
  clear hc7 hf7 c6_0_0 f6_0_0 c6_0_1 f6_0_1 c6_1_0 f6_1_0 c6_1_1 f6_1_1 c6_2_0 f6_2_0 c6_2_1 f6_2_1
  go_wp2_with fail
  refine (Calls.mono (H8.out _)) ?_
  rintro r w8 ⟨rfl, hb8⟩
  clear H8
  have hz8_0 : w.heap.size < w8.heap.size := by
    have := hb8.size
    try simp only [World.size_alloc, World.size_setCell] at this
    omega
  have hz8_1 : w3.heap.size < w8.heap.size := by
    have := hb8.size
    try simp only [World.size_alloc, World.size_setCell] at this
    omega
  have hz8_2 : w3.heap.size + 1 < w8.heap.size := by
    have := hb8.size
    try simp only [World.size_alloc, World.size_setCell] at this
    omega
  have hy8 : w7.heap.size ≤ w8.heap.size := by
    have := hb8.size
    try simp only [World.size_alloc, World.size_setCell] at this
    omega
  have S8 := Aside.intro (Below.trans (B := w.heap.size) (a := w) (by repeat (first | exact Below.refl _ _ | assumption | exact Aside.out ‹_› | exact Nat.le_refl _ | (simp only [World.size_alloc, World.size_setCell]; omega) | (simp; done) | (simp; omega) | omega | refine Below.alloc ?_ ?_ _ | refine Below.setCell ?_ ?_ _ | refine Below.drew ?_)) (hb8.mono (by first | omega | (simp only [World.size_alloc, World.size_setCell]; omega) | (simp; done))))
  clear S7
  obtain ⟨hc8, hf8⟩ := bcell hb8
  clear hb8
  have c8_0_0 : w8.cell? ⟨w.heap.size, 0, none⟩ = some (.float .f64 0) := by
    rw [hc8 _ _ (by first | omega | (simp only [World.size_alloc, World.size_setCell]; omega))]
    first | assumption | (simp [go_sem, c7_0_0, f7_0_0, c7_0_1, f7_0_1, c7_1_0, f7_1_0, c7_1_1, f7_1_1, c7_2_0, f7_2_0, c7_2_1, f7_2_1, hz7_0, hz7_1, hz7_2, n1, n2, n3, n4]; done)
  have f8_0_0 : w8.frozen? ⟨w.heap.size, 0, none⟩ = false := by
    rw [hf8 _ _ (by first | omega | (simp only [World.size_alloc, World.size_setCell]; omega))]
    first | assumption | (simp [go_sem, c7_0_0, f7_0_0, c7_0_1, f7_0_1, c7_1_0, f7_1_0, c7_1_1, f7_1_1, c7_2_0, f7_2_0, c7_2_1, f7_2_1, hz7_0, hz7_1, hz7_2, n1, n2, n3, n4]; done)
  have c8_0_1 : w8.cell? ⟨w.heap.size, 1, none⟩ = some (.float .f64 0) := by
    rw [hc8 _ _ (by first | omega | (simp only [World.size_alloc, World.size_setCell]; omega))]
    first | assumption | (simp [go_sem, c7_0_0, f7_0_0, c7_0_1, f7_0_1, c7_1_0, f7_1_0, c7_1_1, f7_1_1, c7_2_0, f7_2_0, c7_2_1, f7_2_1, hz7_0, hz7_1, hz7_2, n1, n2, n3, n4]; done)
  have f8_0_1 : w8.frozen? ⟨w.heap.size, 1, none⟩ = false := by
    rw [hf8 _ _ (by first | omega | (simp only [World.size_alloc, World.size_setCell]; omega))]
    first | assumption | (simp [go_sem, c7_0_0, f7_0_0, c7_0_1, f7_0_1, c7_1_0, f7_1_0, c7_1_1, f7_1_1, c7_2_0, f7_2_0, c7_2_1, f7_2_1, hz7_0, hz7_1, hz7_2, n1, n2, n3, n4]; done)
  have c8_1_0 : w8.cell? ⟨w3.heap.size, 0, none⟩ = some (.float .f64 ah) := by
    rw [hc8 _ _ (by first | omega | (simp only [World.size_alloc, World.size_setCell]; omega))]
    first | assumption | (simp [go_sem, c7_0_0, f7_0_0, c7_0_1, f7_0_1, c7_1_0, f7_1_0, c7_1_1, f7_1_1, c7_2_0, f7_2_0, c7_2_1, f7_2_1, hz7_0, hz7_1, hz7_2, n1, n2, n3, n4]; done)
  have f8_1_0 : w8.frozen? ⟨w3.heap.size, 0, none⟩ = false := by
    rw [hf8 _ _ (by first | omega | (simp only [World.size_alloc, World.size_setCell]; omega))]
    first | assumption | (simp [go_sem, c7_0_0, f7_0_0, c7_0_1, f7_0_1, c7_1_0, f7_1_0, c7_1_1, f7_1_1, c7_2_0, f7_2_0, c7_2_1, f7_2_1, hz7_0, hz7_1, hz7_2, n1, n2, n3, n4]; done)
  have c8_1_1 : w8.cell? ⟨w3.heap.size, 1, none⟩ = some (.float .f64 al) := by
    rw [hc8 _ _ (by first | omega | (simp only [World.size_alloc, World.size_setCell]; omega))]
    first | assumption | (simp [go_sem, c7_0_0, f7_0_0, c7_0_1, f7_0_1, c7_1_0, f7_1_0, c7_1_1, f7_1_1, c7_2_0, f7_2_0, c7_2_1, f7_2_1, hz7_0, hz7_1, hz7_2, n1, n2, n3, n4]; done)
  have f8_1_1 : w8.frozen? ⟨w3.heap.size, 1, none⟩ = false := by
    rw [hf8 _ _ (by first | omega | (simp only [World.size_alloc, World.size_setCell]; omega))]
    first | assumption | (simp [go_sem, c7_0_0, f7_0_0, c7_0_1, f7_0_1, c7_1_0, f7_1_0, c7_1_1, f7_1_1, c7_2_0, f7_2_0, c7_2_1, f7_2_1, hz7_0, hz7_1, hz7_2, n1, n2, n3, n4]; done)
  have c8_2_0 : w8.cell? ⟨w3.heap.size + 1, 0, none⟩ = some (.float .f64 bh) := by
    rw [hc8 _ _ (by first | omega | (simp only [World.size_alloc, World.size_setCell]; omega))]
    first | assumption | (simp [go_sem, c7_0_0, f7_0_0, c7_0_1, f7_0_1, c7_1_0, f7_1_0, c7_1_1, f7_1_1, c7_2_0, f7_2_0, c7_2_1, f7_2_1, hz7_0, hz7_1, hz7_2, n1, n2, n3, n4]; done)
  have f8_2_0 : w8.frozen? ⟨w3.heap.size + 1, 0, none⟩ = false := by
    rw [hf8 _ _ (by first | omega | (simp only [World.size_alloc, World.size_setCell]; omega))]
    first | assumption | (simp [go_sem, c7_0_0, f7_0_0, c7_0_1, f7_0_1, c7_1_0, f7_1_0, c7_1_1, f7_1_1, c7_2_0, f7_2_0, c7_2_1, f7_2_1, hz7_0, hz7_1, hz7_2, n1, n2, n3, n4]; done)
  have c8_2_1 : w8.cell? ⟨w3.heap.size + 1, 1, none⟩ = some (.float .f64 bl) := by
    rw [hc8 _ _ (by first | omega | (simp only [World.size_alloc, World.size_setCell]; omega))]
    first | assumption | (simp [go_sem, c7_0_0, f7_0_0, c7_0_1, f7_0_1, c7_1_0, f7_1_0, c7_1_1, f7_1_1, c7_2_0, f7_2_0, c7_2_1, f7_2_1, hz7_0, hz7_1, hz7_2, n1, n2, n3, n4]; done)
  have f8_2_1 : w8.frozen? ⟨w3.heap.size + 1, 1, none⟩ = false := by
    rw [hf8 _ _ (by first | omega | (simp only [World.size_alloc, World.size_setCell]; omega))]
    first | assumption | (simp [go_sem, c7_0_0, f7_0_0, c7_0_1, f7_0_1, c7_1_0, f7_1_0, c7_1_1, f7_1_1, c7_2_0, f7_2_0, c7_2_1, f7_2_1, hz7_0, hz7_1, hz7_2, n1, n2, n3, n4]; done)
  clear hc8 hf8 c7_0_0 f7_0_0 c7_0_1 f7_0_1 c7_1_0 f7_1_0 c7_1_1 f7_1_1 c7_2_0 f7_2_0 c7_2_1 f7_2_1
  go_wp2_with fail
  refine (Calls.mono (H9.out _)) ?_
  rintro r w9 ⟨rfl, hb9⟩
  clear H9
  have hz9_0 : w.heap.size < w9.heap.size := by
    have := hb9.size
    try simp only [World.size_alloc, World.size_setCell] at this
    omega
  have hz9_1 : w3.heap.size < w9.heap.size := by
    have := hb9.size
    try simp only [World.size_alloc, World.size_setCell] at this
    omega
  have hz9_2 : w3.heap.size + 1 < w9.heap.size := by
    have := hb9.size
    try simp only [World.size_alloc, World.size_setCell] at this
    omega
  have hy9 : w8.heap.size ≤ w9.heap.size := by
    have := hb9.size
    try simp only [World.size_alloc, World.size_setCell] at this
    omega
  have S9 := Aside.intro (Below.trans (B := w.heap.size) (a := w) (by repeat (first | exact Below.refl _ _ | assumption | exact Aside.out ‹_› | exact Nat.le_refl _ | (simp only [World.size_alloc, World.size_setCell]; omega) | (simp; done) | (simp; omega) | omega | refine Below.alloc ?_ ?_ _ | refine Below.setCell ?_ ?_ _ | refine Below.drew ?_)) (hb9.mono (by first | omega | (simp only [World.size_alloc, World.size_setCell]; omega) | (simp; done))))
  clear S8
  obtain ⟨hc9, hf9⟩ := bcell hb9
  clear hb9
  have c9_0_0 : w9.cell? ⟨w.heap.size, 0, none⟩ = some (.float .f64 0) := by
    rw [hc9 _ _ (by first | omega | (simp only [World.size_alloc, World.size_setCell]; omega))]
    first | assumption | (simp [go_sem, c8_0_0, f8_0_0, c8_0_1, f8_0_1, c8_1_0, f8_1_0, c8_1_1, f8_1_1, c8_2_0, f8_2_0, c8_2_1, f8_2_1, hz8_0, hz8_1, hz8_2, n1, n2, n3, n4]; done)
  have f9_0_0 : w9.frozen? ⟨w.heap.size, 0, none⟩ = false := by
    rw [hf9 _ _ (by first | omega | (simp only [World.size_alloc, World.size_setCell]; omega))]
    first | assumption | (simp [go_sem, c8_0_0, f8_0_0, c8_0_1, f8_0_1, c8_1_0, f8_1_0, c8_1_1, f8_1_1, c8_2_0, f8_2_0, c8_2_1, f8_2_1, hz8_0, hz8_1, hz8_2, n1, n2, n3, n4]; done)
  have c9_0_1 : w9.cell? ⟨w.heap.size, 1, none⟩ = some (.float .f64 0) := by
    rw [hc9 _ _ (by first | omega | (simp only [World.size_alloc, World.size_setCell]; omega))]
    first | assumption | (simp [go_sem, c8_0_0, f8_0_0, c8_0_1, f8_0_1, c8_1_0, f8_1_0, c8_1_1, f8_1_1, c8_2_0, f8_2_0, c8_2_1, f8_2_1, hz8_0, hz8_1, hz8_2, n1, n2, n3, n4]; done)
  have f9_0_1 : w9.frozen? ⟨w.heap.size, 1, none⟩ = false := by
    rw [hf9 _ _ (by first | omega | (simp only [World.size_alloc, World.size_setCell]; omega))]
    first | assumption | (simp [go_sem, c8_0_0, f8_0_0, c8_0_1, f8_0_1, c8_1_0, f8_1_0, c8_1_1, f8_1_1, c8_2_0, f8_2_0, c8_2_1, f8_2_1, hz8_0, hz8_1, hz8_2, n1, n2, n3, n4]; done)
  have c9_1_0 : w9.cell? ⟨w3.heap.size, 0, none⟩ = some (.float .f64 ah) := by
    rw [hc9 _ _ (by first | omega | (simp only [World.size_alloc, World.size_setCell]; omega))]
    first | assumption | (simp [go_sem, c8_0_0, f8_0_0, c8_0_1, f8_0_1, c8_1_0, f8_1_0, c8_1_1, f8_1_1, c8_2_0, f8_2_0, c8_2_1, f8_2_1, hz8_0, hz8_1, hz8_2, n1, n2, n3, n4]; done)
  have f9_1_0 : w9.frozen? ⟨w3.heap.size, 0, none⟩ = false := by
    rw [hf9 _ _ (by first | omega | (simp only [World.size_alloc, World.size_setCell]; omega))]
    first | assumption | (simp [go_sem, c8_0_0, f8_0_0, c8_0_1, f8_0_1, c8_1_0, f8_1_0, c8_1_1, f8_1_1, c8_2_0, f8_2_0, c8_2_1, f8_2_1, hz8_0, hz8_1, hz8_2, n1, n2, n3, n4]; done)
  have c9_1_1 : w9.cell? ⟨w3.heap.size, 1, none⟩ = some (.float .f64 al) := by
    rw [hc9 _ _ (by first | omega | (simp only [World.size_alloc, World.size_setCell]; omega))]
    first | assumption | (simp [go_sem, c8_0_0, f8_0_0, c8_0_1, f8_0_1, c8_1_0, f8_1_0, c8_1_1, f8_1_1, c8_2_0, f8_2_0, c8_2_1, f8_2_1, hz8_0, hz8_1, hz8_2, n1, n2, n3, n4]; done)
  have f9_1_1 : w9.frozen? ⟨w3.heap.size, 1, none⟩ = false := by
    rw [hf9 _ _ (by first | omega | (simp only [World.size_alloc, World.size_setCell]; omega))]
    first | assumption | (simp [go_sem, c8_0_0, f8_0_0, c8_0_1, f8_0_1, c8_1_0, f8_1_0, c8_1_1, f8_1_1, c8_2_0, f8_2_0, c8_2_1, f8_2_1, hz8_0, hz8_1, hz8_2, n1, n2, n3, n4]; done)
  have c9_2_0 : w9.cell? ⟨w3.heap.size + 1, 0, none⟩ = some (.float .f64 bh) := by
    rw [hc9 _ _ (by first | omega | (simp only [World.size_alloc, World.size_setCell]; omega))]
    first | assumption | (simp [go_sem, c8_0_0, f8_0_0, c8_0_1, f8_0_1, c8_1_0, f8_1_0, c8_1_1, f8_1_1, c8_2_0, f8_2_0, c8_2_1, f8_2_1, hz8_0, hz8_1, hz8_2, n1, n2, n3, n4]; done)
  have f9_2_0 : w9.frozen? ⟨w3.heap.size + 1, 0, none⟩ = false := by
    rw [hf9 _ _ (by first | omega | (simp only [World.size_alloc, World.size_setCell]; omega))]
    first | assumption | (simp [go_sem, c8_0_0, f8_0_0, c8_0_1, f8_0_1, c8_1_0, f8_1_0, c8_1_1, f8_1_1, c8_2_0, f8_2_0, c8_2_1, f8_2_1, hz8_0, hz8_1, hz8_2, n1, n2, n3, n4]; done)
  have c9_2_1 : w9.cell? ⟨w3.heap.size + 1, 1, none⟩ = some (.float .f64 bl) := by
    rw [hc9 _ _ (by first | omega | (simp only [World.size_alloc, World.size_setCell]; omega))]
    first | assumption | (simp [go_sem, c8_0_0, f8_0_0, c8_0_1, f8_0_1, c8_1_0, f8_1_0, c8_1_1, f8_1_1, c8_2_0, f8_2_0, c8_2_1, f8_2_1, hz8_0, hz8_1, hz8_2, n1, n2, n3, n4]; done)
  have f9_2_1 : w9.frozen? ⟨w3.heap.size + 1, 1, none⟩ = false := by
    rw [hf9 _ _ (by first | omega | (simp only [World.size_alloc, World.size_setCell]; omega))]
    first | assumption | (simp [go_sem, c8_0_0, f8_0_0, c8_0_1, f8_0_1, c8_1_0, f8_1_0, c8_1_1, f8_1_1, c8_2_0, f8_2_0, c8_2_1, f8_2_1, hz8_0, hz8_1, hz8_2, n1, n2, n3, n4]; done)
  clear hc9 hf9 c8_0_0 f8_0_0 c8_0_1 f8_0_1 c8_1_0 f8_1_0 c8_1_1 f8_1_1 c8_2_0 f8_2_0 c8_2_1 f8_2_1
  go_wp2_with fail
  refine (Calls.mono (H10.out _)) ?_
  rintro r w10 ⟨rfl, hb10⟩
  clear H10
  have hz10_0 : w.heap.size < w10.heap.size := by
    have := hb10.size
    try simp only [World.size_alloc, World.size_setCell] at this
    omega
  have hz10_1 : w3.heap.size < w10.heap.size := by
    have := hb10.size
    try simp only [World.size_alloc, World.size_setCell] at this
    omega
  have hz10_2 : w3.heap.size + 1 < w10.heap.size := by
    have := hb10.size
    try simp only [World.size_alloc, World.size_setCell] at this
    omega
  have hy10 : w9.heap.size ≤ w10.heap.size := by
    have := hb10.size
    try simp only [World.size_alloc, World.size_setCell] at this
    omega
  have S10 := Aside.intro (Below.trans (B := w.heap.size) (a := w) (by repeat (first | exact Below.refl _ _ | assumption | exact Aside.out ‹_› | exact Nat.le_refl _ | (simp only [World.size_alloc, World.size_setCell]; omega) | (simp; done) | (simp; omega) | omega | refine Below.alloc ?_ ?_ _ | refine Below.setCell ?_ ?_ _ | refine Below.drew ?_)) (hb10.mono (by first | omega | (simp only [World.size_alloc, World.size_setCell]; omega) | (simp; done))))
  clear S9
  obtain ⟨hc10, hf10⟩ := bcell hb10
  clear hb10
  have c10_0_0 : w10.cell? ⟨w.heap.size, 0, none⟩ = some (.float .f64 0) := by
    rw [hc10 _ _ (by first | omega | (simp only [World.size_alloc, World.size_setCell]; omega))]
    first | assumption | (simp [go_sem, c9_0_0, f9_0_0, c9_0_1, f9_0_1, c9_1_0, f9_1_0, c9_1_1, f9_1_1, c9_2_0, f9_2_0, c9_2_1, f9_2_1, hz9_0, hz9_1, hz9_2, n1, n2, n3, n4]; done)
  have f10_0_0 : w10.frozen? ⟨w.heap.size, 0, none⟩ = false := by
    rw [hf10 _ _ (by first | omega | (simp only [World.size_alloc, World.size_setCell]; omega))]
    first | assumption | (simp [go_sem, c9_0_0, f9_0_0, c9_0_1, f9_0_1, c9_1_0, f9_1_0, c9_1_1, f9_1_1, c9_2_0, f9_2_0, c9_2_1, f9_2_1, hz9_0, hz9_1, hz9_2, n1, n2, n3, n4]; done)
  have c10_0_1 : w10.cell? ⟨w.heap.size, 1, none⟩ = some (.float .f64 0) := by
    rw [hc10 _ _ (by first | omega | (simp only [World.size_alloc, World.size_setCell]; omega))]
    first | assumption | (simp [go_sem, c9_0_0, f9_0_0, c9_0_1, f9_0_1, c9_1_0, f9_1_0, c9_1_1, f9_1_1, c9_2_0, f9_2_0, c9_2_1, f9_2_1, hz9_0, hz9_1, hz9_2, n1, n2, n3, n4]; done)
  have f10_0_1 : w10.frozen? ⟨w.heap.size, 1, none⟩ = false := by
    rw [hf10 _ _ (by first | omega | (simp only [World.size_alloc, World.size_setCell]; omega))]
    first | assumption | (simp [go_sem, c9_0_0, f9_0_0, c9_0_1, f9_0_1, c9_1_0, f9_1_0, c9_1_1, f9_1_1, c9_2_0, f9_2_0, c9_2_1, f9_2_1, hz9_0, hz9_1, hz9_2, n1, n2, n3, n4]; done)
  have c10_1_0 : w10.cell? ⟨w3.heap.size, 0, none⟩ = some (.float .f64 ah) := by
    rw [hc10 _ _ (by first | omega | (simp only [World.size_alloc, World.size_setCell]; omega))]
    first | assumption | (simp [go_sem, c9_0_0, f9_0_0, c9_0_1, f9_0_1, c9_1_0, f9_1_0, c9_1_1, f9_1_1, c9_2_0, f9_2_0, c9_2_1, f9_2_1, hz9_0, hz9_1, hz9_2, n1, n2, n3, n4]; done)
  have f10_1_0 : w10.frozen? ⟨w3.heap.size, 0, none⟩ = false := by
    rw [hf10 _ _ (by first | omega | (simp only [World.size_alloc, World.size_setCell]; omega))]
    first | assumption | (simp [go_sem, c9_0_0, f9_0_0, c9_0_1, f9_0_1, c9_1_0, f9_1_0, c9_1_1, f9_1_1, c9_2_0, f9_2_0, c9_2_1, f9_2_1, hz9_0, hz9_1, hz9_2, n1, n2, n3, n4]; done)
  have c10_1_1 : w10.cell? ⟨w3.heap.size, 1, none⟩ = some (.float .f64 al) := by
    rw [hc10 _ _ (by first | omega | (simp only [World.size_alloc, World.size_setCell]; omega))]
    first | assumption | (simp [go_sem, c9_0_0, f9_0_0, c9_0_1, f9_0_1, c9_1_0, f9_1_0, c9_1_1, f9_1_1, c9_2_0, f9_2_0, c9_2_1, f9_2_1, hz9_0, hz9_1, hz9_2, n1, n2, n3, n4]; done)
  have f10_1_1 : w10.frozen? ⟨w3.heap.size, 1, none⟩ = false := by
    rw [hf10 _ _ (by first | omega | (simp only [World.size_alloc, World.size_setCell]; omega))]
    first | assumption | (simp [go_sem, c9_0_0, f9_0_0, c9_0_1, f9_0_1, c9_1_0, f9_1_0, c9_1_1, f9_1_1, c9_2_0, f9_2_0, c9_2_1, f9_2_1, hz9_0, hz9_1, hz9_2, n1, n2, n3, n4]; done)
  have c10_2_0 : w10.cell? ⟨w3.heap.size + 1, 0, none⟩ = some (.float .f64 bh) := by
    rw [hc10 _ _ (by first | omega | (simp only [World.size_alloc, World.size_setCell]; omega))]
    first | assumption | (simp [go_sem, c9_0_0, f9_0_0, c9_0_1, f9_0_1, c9_1_0, f9_1_0, c9_1_1, f9_1_1, c9_2_0, f9_2_0, c9_2_1, f9_2_1, hz9_0, hz9_1, hz9_2, n1, n2, n3, n4]; done)
  have f10_2_0 : w10.frozen? ⟨w3.heap.size + 1, 0, none⟩ = false := by
    rw [hf10 _ _ (by first | omega | (simp only [World.size_alloc, World.size_setCell]; omega))]
    first | assumption | (simp [go_sem, c9_0_0, f9_0_0, c9_0_1, f9_0_1, c9_1_0, f9_1_0, c9_1_1, f9_1_1, c9_2_0, f9_2_0, c9_2_1, f9_2_1, hz9_0, hz9_1, hz9_2, n1, n2, n3, n4]; done)
  have c10_2_1 : w10.cell? ⟨w3.heap.size + 1, 1, none⟩ = some (.float .f64 bl) := by
    rw [hc10 _ _ (by first | omega | (simp only [World.size_alloc, World.size_setCell]; omega))]
    first | assumption | (simp [go_sem, c9_0_0, f9_0_0, c9_0_1, f9_0_1, c9_1_0, f9_1_0, c9_1_1, f9_1_1, c9_2_0, f9_2_0, c9_2_1, f9_2_1, hz9_0, hz9_1, hz9_2, n1, n2, n3, n4]; done)
  have f10_2_1 : w10.frozen? ⟨w3.heap.size + 1, 1, none⟩ = false := by
    rw [hf10 _ _ (by first | omega | (simp only [World.size_alloc, World.size_setCell]; omega))]
    first | assumption | (simp [go_sem, c9_0_0, f9_0_0, c9_0_1, f9_0_1, c9_1_0, f9_1_0, c9_1_1, f9_1_1, c9_2_0, f9_2_0, c9_2_1, f9_2_1, hz9_0, hz9_1, hz9_2, n1, n2, n3, n4]; done)
  clear hc10 hf10 c9_0_0 f9_0_0 c9_0_1 f9_0_1 c9_1_0 f9_1_0 c9_1_1 f9_1_1 c9_2_0 f9_2_0 c9_2_1 f9_2_1
  go_wp2_with fail
  refine (Calls.mono (H11.out _)) ?_
  rintro r w11 ⟨rfl, hb11⟩
  clear H11
  have hz11_0 : w.heap.size < w11.heap.size := by
    have := hb11.size
    try simp only [World.size_alloc, World.size_setCell] at this
    omega
  have hz11_1 : w3.heap.size < w11.heap.size := by
    have := hb11.size
    try simp only [World.size_alloc, World.size_setCell] at this
    omega
  have hz11_2 : w3.heap.size + 1 < w11.heap.size := by
    have := hb11.size
    try simp only [World.size_alloc, World.size_setCell] at this
    omega
  have hy11 : w10.heap.size ≤ w11.heap.size := by
    have := hb11.size
    try simp only [World.size_alloc, World.size_setCell] at this
    omega
  have S11 := Aside.intro (Below.trans (B := w.heap.size) (a := w) (by repeat (first | exact Below.refl _ _ | assumption | exact Aside.out ‹_› | exact Nat.le_refl _ | (simp only [World.size_alloc, World.size_setCell]; omega) | (simp; done) | (simp; omega) | omega | refine Below.alloc ?_ ?_ _ | refine Below.setCell ?_ ?_ _ | refine Below.drew ?_)) (hb11.mono (by first | omega | (simp only [World.size_alloc, World.size_setCell]; omega) | (simp; done))))
  clear S10
  obtain ⟨hc11, hf11⟩ := bcell hb11
  clear hb11
  have c11_0_0 : w11.cell? ⟨w.heap.size, 0, none⟩ = some (.float .f64 0) := by
    rw [hc11 _ _ (by first | omega | (simp only [World.size_alloc, World.size_setCell]; omega))]
    first | assumption | (simp [go_sem, c10_0_0, f10_0_0, c10_0_1, f10_0_1, c10_1_0, f10_1_0, c10_1_1, f10_1_1, c10_2_0, f10_2_0, c10_2_1, f10_2_1, hz10_0, hz10_1, hz10_2, n1, n2, n3, n4]; done)
  have f11_0_0 : w11.frozen? ⟨w.heap.size, 0, none⟩ = false := by
    rw [hf11 _ _ (by first | omega | (simp only [World.size_alloc, World.size_setCell]; omega))]
    first | assumption | (simp [go_sem, c10_0_0, f10_0_0, c10_0_1, f10_0_1, c10_1_0, f10_1_0, c10_1_1, f10_1_1, c10_2_0, f10_2_0, c10_2_1, f10_2_1, hz10_0, hz10_1, hz10_2, n1, n2, n3, n4]; done)
  have c11_0_1 : w11.cell? ⟨w.heap.size, 1, none⟩ = some (.float .f64 0) := by
    rw [hc11 _ _ (by first | omega | (simp only [World.size_alloc, World.size_setCell]; omega))]
    first | assumption | (simp [go_sem, c10_0_0, f10_0_0, c10_0_1, f10_0_1, c10_1_0, f10_1_0, c10_1_1, f10_1_1, c10_2_0, f10_2_0, c10_2_1, f10_2_1, hz10_0, hz10_1, hz10_2, n1, n2, n3, n4]; done)
  have f11_0_1 : w11.frozen? ⟨w.heap.size, 1, none⟩ = false := by
    rw [hf11 _ _ (by first | omega | (simp only [World.size_alloc, World.size_setCell]; omega))]
    first | assumption | (simp [go_sem, c10_0_0, f10_0_0, c10_0_1, f10_0_1, c10_1_0, f10_1_0, c10_1_1, f10_1_1, c10_2_0, f10_2_0, c10_2_1, f10_2_1, hz10_0, hz10_1, hz10_2, n1, n2, n3, n4]; done)
  have c11_1_0 : w11.cell? ⟨w3.heap.size, 0, none⟩ = some (.float .f64 ah) := by
    rw [hc11 _ _ (by first | omega | (simp only [World.size_alloc, World.size_setCell]; omega))]
    first | assumption | (simp [go_sem, c10_0_0, f10_0_0, c10_0_1, f10_0_1, c10_1_0, f10_1_0, c10_1_1, f10_1_1, c10_2_0, f10_2_0, c10_2_1, f10_2_1, hz10_0, hz10_1, hz10_2, n1, n2, n3, n4]; done)
  have f11_1_0 : w11.frozen? ⟨w3.heap.size, 0, none⟩ = false := by
    rw [hf11 _ _ (by first | omega | (simp only [World.size_alloc, World.size_setCell]; omega))]
    first | assumption | (simp [go_sem, c10_0_0, f10_0_0, c10_0_1, f10_0_1, c10_1_0, f10_1_0, c10_1_1, f10_1_1, c10_2_0, f10_2_0, c10_2_1, f10_2_1, hz10_0, hz10_1, hz10_2, n1, n2, n3, n4]; done)
  have c11_1_1 : w11.cell? ⟨w3.heap.size, 1, none⟩ = some (.float .f64 al) := by
    rw [hc11 _ _ (by first | omega | (simp only [World.size_alloc, World.size_setCell]; omega))]
    first | assumption | (simp [go_sem, c10_0_0, f10_0_0, c10_0_1, f10_0_1, c10_1_0, f10_1_0, c10_1_1, f10_1_1, c10_2_0, f10_2_0, c10_2_1, f10_2_1, hz10_0, hz10_1, hz10_2, n1, n2, n3, n4]; done)
  have f11_1_1 : w11.frozen? ⟨w3.heap.size, 1, none⟩ = false := by
    rw [hf11 _ _ (by first | omega | (simp only [World.size_alloc, World.size_setCell]; omega))]
    first | assumption | (simp [go_sem, c10_0_0, f10_0_0, c10_0_1, f10_0_1, c10_1_0, f10_1_0, c10_1_1, f10_1_1, c10_2_0, f10_2_0, c10_2_1, f10_2_1, hz10_0, hz10_1, hz10_2, n1, n2, n3, n4]; done)
  have c11_2_0 : w11.cell? ⟨w3.heap.size + 1, 0, none⟩ = some (.float .f64 bh) := by
    rw [hc11 _ _ (by first | omega | (simp only [World.size_alloc, World.size_setCell]; omega))]
    first | assumption | (simp [go_sem, c10_0_0, f10_0_0, c10_0_1, f10_0_1, c10_1_0, f10_1_0, c10_1_1, f10_1_1, c10_2_0, f10_2_0, c10_2_1, f10_2_1, hz10_0, hz10_1, hz10_2, n1, n2, n3, n4]; done)
  have f11_2_0 : w11.frozen? ⟨w3.heap.size + 1, 0, none⟩ = false := by
    rw [hf11 _ _ (by first | omega | (simp only [World.size_alloc, World.size_setCell]; omega))]
    first | assumption | (simp [go_sem, c10_0_0, f10_0_0, c10_0_1, f10_0_1, c10_1_0, f10_1_0, c10_1_1, f10_1_1, c10_2_0, f10_2_0, c10_2_1, f10_2_1, hz10_0, hz10_1, hz10_2, n1, n2, n3, n4]; done)
  have c11_2_1 : w11.cell? ⟨w3.heap.size + 1, 1, none⟩ = some (.float .f64 bl) := by
    rw [hc11 _ _ (by first | omega | (simp only [World.size_alloc, World.size_setCell]; omega))]
    first | assumption | (simp [go_sem, c10_0_0, f10_0_0, c10_0_1, f10_0_1, c10_1_0, f10_1_0, c10_1_1, f10_1_1, c10_2_0, f10_2_0, c10_2_1, f10_2_1, hz10_0, hz10_1, hz10_2, n1, n2, n3, n4]; done)
  have f11_2_1 : w11.frozen? ⟨w3.heap.size + 1, 1, none⟩ = false := by
    rw [hf11 _ _ (by first | omega | (simp only [World.size_alloc, World.size_setCell]; omega))]
    first | assumption | (simp [go_sem, c10_0_0, f10_0_0, c10_0_1, f10_0_1, c10_1_0, f10_1_0, c10_1_1, f10_1_1, c10_2_0, f10_2_0, c10_2_1, f10_2_1, hz10_0, hz10_1, hz10_2, n1, n2, n3, n4]; done)
  clear hc11 hf11 c10_0_0 f10_0_0 c10_0_1 f10_0_1 c10_1_0 f10_1_0 c10_1_1 f10_1_1 c10_2_0 f10_2_0 c10_2_1 f10_2_1
  go_wp2
  exact bodyPost_ret (v := .agg #[.float .f64 h, .float .f64 l]) (by simp [results, Try.results14, go_sem, c11_0_0, f11_0_0, c11_0_1, f11_0_1, c11_1_0, f11_1_0, c11_1_1, f11_1_1, c11_2_0, f11_2_0, c11_2_1, f11_2_1]) rfl ⟨rfl, (by repeat (first | exact Below.refl _ _ | assumption | exact Aside.out ‹_› | exact Nat.le_refl _ | (simp only [World.size_alloc, World.size_setCell]; omega) | (simp; done) | (simp; omega) | omega | refine Below.alloc ?_ ?_ _ | refine Below.setCell ?_ ?_ _ | refine Below.drew ?_))⟩
end Go.Proofs.Ythilnddhehbjiab

/- The program's Add: a chain of calls. -/
namespace Go.Proofs.Ythilnddhehbjiab
open Go.RowKit
set_option linter.unusedVariables false
set_option maxRecDepth 20000
set_option linter.unusedSimpArgs false
attribute [local go_sem] st_float

set_option maxHeartbeats 4000000 in
theorem Add_core (a b c d s s2 t t2 x v v2 y h l : Nat) (w : World)
    (H1 : Hid (∀ uu, Calls Try.prog 12 #[.float .f64 a, .float .f64 c] uu fun r w' => r = .returned (.agg #[.float .f64 s, .float .f64 s2]) ∧ Below uu.heap.size uu w'))
    (H2 : Hid (∀ uu, Calls Try.prog 12 #[.float .f64 b, .float .f64 d] uu fun r w' => r = .returned (.agg #[.float .f64 t, .float .f64 t2]) ∧ Below uu.heap.size uu w'))
    (H3 : Hid (∀ uu, Calls Try.prog 39 #[.float .f64 s2, .func (.func 40) #[] #[], .float .f64 t] uu fun r w' => r = .returned (.float .f64 x) ∧ Below uu.heap.size uu w'))
    (H4 : Hid (∀ uu, Calls Try.prog 18 #[.float .f64 s, .float .f64 x] uu fun r w' => r = .returned (.agg #[.float .f64 v, .float .f64 v2]) ∧ Below uu.heap.size uu w'))
    (H5 : Hid (∀ uu, Calls Try.prog 39 #[.float .f64 t2, .func (.func 40) #[] #[], .float .f64 v2] uu fun r w' => r = .returned (.float .f64 y) ∧ Below uu.heap.size uu w'))
    (H6 : Hid (∀ uu, Calls Try.prog 18 #[.float .f64 v, .float .f64 y] uu fun r w' => r = .returned (.agg #[.float .f64 h, .float .f64 l]) ∧ Below uu.heap.size uu w')) :
    Calls Try.prog 22 #[.agg #[.float .f64 a, .float .f64 b], .agg #[.float .f64 c, .float .f64 d]] w fun r w' => r = .returned (.agg #[.float .f64 h, .float .f64 l]) ∧ Below w.heap.size w w' := by
  go_enter Try.func22, Try.ntmps22
  go_wp2_with fail
  refine (Calls.mono (H1.out _)) ?_
  rintro r w1 ⟨rfl, hb1⟩
  clear H1
  have hz1_0 : w.heap.size < w1.heap.size := by
    have := hb1.size
    try simp at this
    omega
  have hz1_1 : w.heap.size + 1 < w1.heap.size := by
    have := hb1.size
    try simp at this
    omega
  have hz1_2 : w.heap.size + 2 < w1.heap.size := by
    have := hb1.size
    try simp at this
    omega
  have S1 := Aside.intro (Below.trans (B := w.heap.size) (a := w) (by repeat (first | exact Below.refl _ _ | assumption | exact Aside.out ‹_› | exact Nat.le_refl _ | (simp only [World.size_alloc, World.size_setCell]; omega) | (simp; done) | (simp; omega) | omega | refine Below.alloc ?_ ?_ _ | refine Below.setCell ?_ ?_ _ | refine Below.drew ?_)) (hb1.mono (by first | omega | (simp only [World.size_alloc, World.size_setCell]; omega) | (simp; omega) | (simp; done))))
  obtain ⟨hc1, hf1⟩ := bcell hb1
  clear hb1
  go_wp2_with fail
  refine (Calls.mono (H2.out _)) ?_
  rintro r w2 ⟨rfl, hb2⟩
  clear H2
  have hz2_0 : w.heap.size < w2.heap.size := by
    have := hb2.size
    try simp at this
    omega
  have hz2_1 : w.heap.size + 1 < w2.heap.size := by
    have := hb2.size
    try simp at this
    omega
  have hz2_2 : w.heap.size + 2 < w2.heap.size := by
    have := hb2.size
    try simp at this
    omega
  have hz2_3 : w1.heap.size < w2.heap.size := by
    have := hb2.size
    try simp at this
    omega
  have hy2 : w1.heap.size ≤ w2.heap.size := by
    have := hb2.size
    try simp at this
    omega
  have S2 := Aside.intro (Below.trans (B := w.heap.size) (a := w) (by repeat (first | exact Below.refl _ _ | assumption | exact Aside.out ‹_› | exact Nat.le_refl _ | (simp only [World.size_alloc, World.size_setCell]; omega) | (simp; done) | (simp; omega) | omega | refine Below.alloc ?_ ?_ _ | refine Below.setCell ?_ ?_ _ | refine Below.drew ?_)) (hb2.mono (by first | omega | (simp only [World.size_alloc, World.size_setCell]; omega) | (simp; omega) | (simp; done))))
  clear S1
  obtain ⟨hc2, hf2⟩ := bcell hb2
  clear hb2
  go_wp2_with fail
  refine (Calls.mono (H3.out _)) ?_
  rintro r w3 ⟨rfl, hb3⟩
  clear H3
  have hz3_0 : w.heap.size < w3.heap.size := by
    have := hb3.size
    try simp at this
    omega
  have hz3_1 : w.heap.size + 1 < w3.heap.size := by
    have := hb3.size
    try simp at this
    omega
  have hz3_2 : w.heap.size + 2 < w3.heap.size := by
    have := hb3.size
    try simp at this
    omega
  have hz3_3 : w1.heap.size < w3.heap.size := by
    have := hb3.size
    try simp at this
    omega
  have hz3_4 : w2.heap.size < w3.heap.size := by
    have := hb3.size
    try simp at this
    omega
  have hy3 : w2.heap.size ≤ w3.heap.size := by
    have := hb3.size
    try simp at this
    omega
  have S3 := Aside.intro (Below.trans (B := w.heap.size) (a := w) (by repeat (first | exact Below.refl _ _ | assumption | exact Aside.out ‹_› | exact Nat.le_refl _ | (simp only [World.size_alloc, World.size_setCell]; omega) | (simp; done) | (simp; omega) | omega | refine Below.alloc ?_ ?_ _ | refine Below.setCell ?_ ?_ _ | refine Below.drew ?_)) (hb3.mono (by first | omega | (simp only [World.size_alloc, World.size_setCell]; omega) | (simp; omega) | (simp; done))))
  clear S2
  obtain ⟨hc3, hf3⟩ := bcell hb3
  clear hb3
  go_wp2_with fail
  refine (Calls.mono (H4.out _)) ?_
  rintro r w4 ⟨rfl, hb4⟩
  clear H4
  have hz4_0 : w.heap.size < w4.heap.size := by
    have := hb4.size
    try simp at this
    omega
  have hz4_1 : w.heap.size + 1 < w4.heap.size := by
    have := hb4.size
    try simp at this
    omega
  have hz4_2 : w.heap.size + 2 < w4.heap.size := by
    have := hb4.size
    try simp at this
    omega
  have hz4_3 : w1.heap.size < w4.heap.size := by
    have := hb4.size
    try simp at this
    omega
  have hz4_4 : w2.heap.size < w4.heap.size := by
    have := hb4.size
    try simp at this
    omega
  have hy4 : w3.heap.size ≤ w4.heap.size := by
    have := hb4.size
    try simp at this
    omega
  have S4 := Aside.intro (Below.trans (B := w.heap.size) (a := w) (by repeat (first | exact Below.refl _ _ | assumption | exact Aside.out ‹_› | exact Nat.le_refl _ | (simp only [World.size_alloc, World.size_setCell]; omega) | (simp; done) | (simp; omega) | omega | refine Below.alloc ?_ ?_ _ | refine Below.setCell ?_ ?_ _ | refine Below.drew ?_)) (hb4.mono (by first | omega | (simp only [World.size_alloc, World.size_setCell]; omega) | (simp; omega) | (simp; done))))
  clear S3
  obtain ⟨hc4, hf4⟩ := bcell hb4
  clear hb4
  go_wp2_with fail
  refine (Calls.mono (H5.out _)) ?_
  rintro r w5 ⟨rfl, hb5⟩
  clear H5
  have hz5_0 : w.heap.size < w5.heap.size := by
    have := hb5.size
    try simp at this
    omega
  have hz5_1 : w.heap.size + 1 < w5.heap.size := by
    have := hb5.size
    try simp at this
    omega
  have hz5_2 : w.heap.size + 2 < w5.heap.size := by
    have := hb5.size
    try simp at this
    omega
  have hz5_3 : w1.heap.size < w5.heap.size := by
    have := hb5.size
    try simp at this
    omega
  have hz5_4 : w2.heap.size < w5.heap.size := by
    have := hb5.size
    try simp at this
    omega
  have hz5_5 : w4.heap.size < w5.heap.size := by
    have := hb5.size
    try simp at this
    omega
  have hy5 : w4.heap.size ≤ w5.heap.size := by
    have := hb5.size
    try simp at this
    omega
  have S5 := Aside.intro (Below.trans (B := w.heap.size) (a := w) (by repeat (first | exact Below.refl _ _ | assumption | exact Aside.out ‹_› | exact Nat.le_refl _ | (simp only [World.size_alloc, World.size_setCell]; omega) | (simp; done) | (simp; omega) | omega | refine Below.alloc ?_ ?_ _ | refine Below.setCell ?_ ?_ _ | refine Below.drew ?_)) (hb5.mono (by first | omega | (simp only [World.size_alloc, World.size_setCell]; omega) | (simp; omega) | (simp; done))))
  clear S4
  obtain ⟨hc5, hf5⟩ := bcell hb5
  clear hb5
  go_wp2_with fail
  refine (Calls.mono (H6.out _)) ?_
  rintro r w6 ⟨rfl, hb6⟩
  clear H6
  have hz6_0 : w.heap.size < w6.heap.size := by
    have := hb6.size
    try simp at this
    omega
  have hz6_1 : w.heap.size + 1 < w6.heap.size := by
    have := hb6.size
    try simp at this
    omega
  have hz6_2 : w.heap.size + 2 < w6.heap.size := by
    have := hb6.size
    try simp at this
    omega
  have hz6_3 : w1.heap.size < w6.heap.size := by
    have := hb6.size
    try simp at this
    omega
  have hz6_4 : w2.heap.size < w6.heap.size := by
    have := hb6.size
    try simp at this
    omega
  have hz6_5 : w4.heap.size < w6.heap.size := by
    have := hb6.size
    try simp at this
    omega
  have hy6 : w5.heap.size ≤ w6.heap.size := by
    have := hb6.size
    try simp at this
    omega
  have S6 := Aside.intro (Below.trans (B := w.heap.size) (a := w) (by repeat (first | exact Below.refl _ _ | assumption | exact Aside.out ‹_› | exact Nat.le_refl _ | (simp only [World.size_alloc, World.size_setCell]; omega) | (simp; done) | (simp; omega) | omega | refine Below.alloc ?_ ?_ _ | refine Below.setCell ?_ ?_ _ | refine Below.drew ?_)) (hb6.mono (by first | omega | (simp only [World.size_alloc, World.size_setCell]; omega) | (simp; omega) | (simp; done))))
  clear S5
  obtain ⟨hc6, hf6⟩ := bcell hb6
  clear hb6
  go_wp2
  exact bodyPost_ret (v := .agg #[.float .f64 h, .float .f64 l]) (by simp [results, Try.results22, go_sem, hc1, hc2, hc3, hc4, hc5, hc6, hz1_0, hz1_1, hz1_2, hz2_0, hz2_1, hz2_2, hz2_3, hz3_0, hz3_1, hz3_2, hz3_3, hz3_4, hz4_0, hz4_1, hz4_2, hz4_3, hz4_4, hz5_0, hz5_1, hz5_2, hz5_3, hz5_4, hz5_5, hz6_0, hz6_1, hz6_2, hz6_3, hz6_4, hz6_5]) rfl ⟨rfl, (by repeat (first | exact Below.refl _ _ | assumption | exact Aside.out ‹_› | exact Nat.le_refl _ | (simp only [World.size_alloc, World.size_setCell]; omega) | (simp; done) | (simp; omega) | omega | refine Below.alloc ?_ ?_ _ | refine Below.setCell ?_ ?_ _ | refine Below.drew ?_))⟩
end Go.Proofs.Ythilnddhehbjiab

/- The program's Mul, Value: chains of calls. -/
namespace Go.Proofs.Ythilnddhehbjiab
open Go.RowKit
set_option linter.unusedVariables false
set_option maxRecDepth 20000
set_option linter.unusedSimpArgs false
attribute [local go_sem] st_float

set_option maxHeartbeats 4000000 in
theorem Value_core (a b h : Nat) (w : World)
    (H1 : Hid (∀ uu, Calls Try.prog 39 #[.float .f64 a, .func (.func 40) #[] #[], .float .f64 b] uu fun r w' => r = .returned (.float .f64 h) ∧ Below uu.heap.size uu w')) :
    Calls Try.prog 27 #[.agg #[.float .f64 a, .float .f64 b]] w fun r w' => r = .returned (.float .f64 h) ∧ Below w.heap.size w w' := by
  go_enter Try.func27, Try.ntmps27
  go_wp2_with fail
  refine (Calls.mono (H1.out _)) ?_
  rintro r w1 ⟨rfl, hb1⟩
  clear H1
  have hz1_0 : w.heap.size < w1.heap.size := by
    have := hb1.size
    try simp at this
    omega
  have S1 := Aside.intro (Below.trans (B := w.heap.size) (a := w) (by repeat (first | exact Below.refl _ _ | assumption | exact Aside.out ‹_› | exact Nat.le_refl _ | (simp only [World.size_alloc, World.size_setCell]; omega) | (simp; done) | (simp; omega) | omega | refine Below.alloc ?_ ?_ _ | refine Below.setCell ?_ ?_ _ | refine Below.drew ?_)) (hb1.mono (by first | omega | (simp only [World.size_alloc, World.size_setCell]; omega) | (simp; omega) | (simp; done))))
  obtain ⟨hc1, hf1⟩ := bcell hb1
  clear hb1
  go_wp2
  exact bodyPost_ret (v := .float .f64 h) (by simp [results, Try.results27, go_sem, hc1, hz1_0]) rfl ⟨rfl, (by repeat (first | exact Below.refl _ _ | assumption | exact Aside.out ‹_› | exact Nat.le_refl _ | (simp only [World.size_alloc, World.size_setCell]; omega) | (simp; done) | (simp; omega) | omega | refine Below.alloc ?_ ?_ _ | refine Below.setCell ?_ ?_ _ | refine Below.drew ?_))⟩
set_option maxHeartbeats 4000000 in
theorem Mul_core (a b c d s s2 p q t x h l : Nat) (w : World)
    (H1 : Hid (∀ uu, Calls Try.prog 14 #[.float .f64 a, .float .f64 c] uu fun r w' => r = .returned (.agg #[.float .f64 s, .float .f64 s2]) ∧ Below uu.heap.size uu w'))
    (H2 : Hid (∀ uu, Calls Try.prog 39 #[.float .f64 a, .func (.func 42) #[] #[], .float .f64 d] uu fun r w' => r = .returned (.float .f64 p) ∧ Below uu.heap.size uu w'))
    (H3 : Hid (∀ uu, Calls Try.prog 39 #[.float .f64 b, .func (.func 42) #[] #[], .float .f64 c] uu fun r w' => r = .returned (.float .f64 q) ∧ Below uu.heap.size uu w'))
    (H4 : Hid (∀ uu, Calls Try.prog 39 #[.float .f64 p, .func (.func 40) #[] #[], .float .f64 q] uu fun r w' => r = .returned (.float .f64 t) ∧ Below uu.heap.size uu w'))
    (H5 : Hid (∀ uu, Calls Try.prog 39 #[.float .f64 s2, .func (.func 40) #[] #[], .float .f64 t] uu fun r w' => r = .returned (.float .f64 x) ∧ Below uu.heap.size uu w'))
    (H6 : Hid (∀ uu, Calls Try.prog 18 #[.float .f64 s, .float .f64 x] uu fun r w' => r = .returned (.agg #[.float .f64 h, .float .f64 l]) ∧ Below uu.heap.size uu w')) :
    Calls Try.prog 24 #[.agg #[.float .f64 a, .float .f64 b], .agg #[.float .f64 c, .float .f64 d]] w fun r w' => r = .returned (.agg #[.float .f64 h, .float .f64 l]) ∧ Below w.heap.size w w' := by
  go_enter Try.func24, Try.ntmps24
  go_wp2_with fail
  refine (Calls.mono (H1.out _)) ?_
  rintro r w1 ⟨rfl, hb1⟩
  clear H1
  have hz1_0 : w.heap.size < w1.heap.size := by
    have := hb1.size
    try simp at this
    omega
  have hz1_1 : w.heap.size + 1 < w1.heap.size := by
    have := hb1.size
    try simp at this
    omega
  have hz1_2 : w.heap.size + 2 < w1.heap.size := by
    have := hb1.size
    try simp at this
    omega
  have S1 := Aside.intro (Below.trans (B := w.heap.size) (a := w) (by repeat (first | exact Below.refl _ _ | assumption | exact Aside.out ‹_› | exact Nat.le_refl _ | (simp only [World.size_alloc, World.size_setCell]; omega) | (simp; done) | (simp; omega) | omega | refine Below.alloc ?_ ?_ _ | refine Below.setCell ?_ ?_ _ | refine Below.drew ?_)) (hb1.mono (by first | omega | (simp only [World.size_alloc, World.size_setCell]; omega) | (simp; omega) | (simp; done))))
  obtain ⟨hc1, hf1⟩ := bcell hb1
  clear hb1
  go_wp2_with fail
  refine (Calls.mono (H2.out _)) ?_
  rintro r w2 ⟨rfl, hb2⟩
  clear H2
  have hz2_0 : w.heap.size < w2.heap.size := by
    have := hb2.size
    try simp at this
    omega
  have hz2_1 : w.heap.size + 1 < w2.heap.size := by
    have := hb2.size
    try simp at this
    omega
  have hz2_2 : w.heap.size + 2 < w2.heap.size := by
    have := hb2.size
    try simp at this
    omega
  have hz2_3 : w1.heap.size < w2.heap.size := by
    have := hb2.size
    try simp at this
    omega
  have hy2 : w1.heap.size ≤ w2.heap.size := by
    have := hb2.size
    try simp at this
    omega
  have S2 := Aside.intro (Below.trans (B := w.heap.size) (a := w) (by repeat (first | exact Below.refl _ _ | assumption | exact Aside.out ‹_› | exact Nat.le_refl _ | (simp only [World.size_alloc, World.size_setCell]; omega) | (simp; done) | (simp; omega) | omega | refine Below.alloc ?_ ?_ _ | refine Below.setCell ?_ ?_ _ | refine Below.drew ?_)) (hb2.mono (by first | omega | (simp only [World.size_alloc, World.size_setCell]; omega) | (simp; omega) | (simp; done))))
  clear S1
  obtain ⟨hc2, hf2⟩ := bcell hb2
  clear hb2
  go_wp2_with fail
  refine (Calls.mono (H3.out _)) ?_
  rintro r w3 ⟨rfl, hb3⟩
  clear H3
  have hz3_0 : w.heap.size < w3.heap.size := by
    have := hb3.size
    try simp at this
    omega
  have hz3_1 : w.heap.size + 1 < w3.heap.size := by
    have := hb3.size
    try simp at this
    omega
  have hz3_2 : w.heap.size + 2 < w3.heap.size := by
    have := hb3.size
    try simp at this
    omega
  have hz3_3 : w1.heap.size < w3.heap.size := by
    have := hb3.size
    try simp at this
    omega
  have hy3 : w2.heap.size ≤ w3.heap.size := by
    have := hb3.size
    try simp at this
    omega
  have S3 := Aside.intro (Below.trans (B := w.heap.size) (a := w) (by repeat (first | exact Below.refl _ _ | assumption | exact Aside.out ‹_› | exact Nat.le_refl _ | (simp only [World.size_alloc, World.size_setCell]; omega) | (simp; done) | (simp; omega) | omega | refine Below.alloc ?_ ?_ _ | refine Below.setCell ?_ ?_ _ | refine Below.drew ?_)) (hb3.mono (by first | omega | (simp only [World.size_alloc, World.size_setCell]; omega) | (simp; omega) | (simp; done))))
  clear S2
  obtain ⟨hc3, hf3⟩ := bcell hb3
  clear hb3
  go_wp2_with fail
  refine (Calls.mono (H4.out _)) ?_
  rintro r w4 ⟨rfl, hb4⟩
  clear H4
  have hz4_0 : w.heap.size < w4.heap.size := by
    have := hb4.size
    try simp at this
    omega
  have hz4_1 : w.heap.size + 1 < w4.heap.size := by
    have := hb4.size
    try simp at this
    omega
  have hz4_2 : w.heap.size + 2 < w4.heap.size := by
    have := hb4.size
    try simp at this
    omega
  have hz4_3 : w1.heap.size < w4.heap.size := by
    have := hb4.size
    try simp at this
    omega
  have hy4 : w3.heap.size ≤ w4.heap.size := by
    have := hb4.size
    try simp at this
    omega
  have S4 := Aside.intro (Below.trans (B := w.heap.size) (a := w) (by repeat (first | exact Below.refl _ _ | assumption | exact Aside.out ‹_› | exact Nat.le_refl _ | (simp only [World.size_alloc, World.size_setCell]; omega) | (simp; done) | (simp; omega) | omega | refine Below.alloc ?_ ?_ _ | refine Below.setCell ?_ ?_ _ | refine Below.drew ?_)) (hb4.mono (by first | omega | (simp only [World.size_alloc, World.size_setCell]; omega) | (simp; omega) | (simp; done))))
  clear S3
  obtain ⟨hc4, hf4⟩ := bcell hb4
  clear hb4
  go_wp2_with fail
  refine (Calls.mono (H5.out _)) ?_
  rintro r w5 ⟨rfl, hb5⟩
  clear H5
  have hz5_0 : w.heap.size < w5.heap.size := by
    have := hb5.size
    try simp at this
    omega
  have hz5_1 : w.heap.size + 1 < w5.heap.size := by
    have := hb5.size
    try simp at this
    omega
  have hz5_2 : w.heap.size + 2 < w5.heap.size := by
    have := hb5.size
    try simp at this
    omega
  have hz5_3 : w1.heap.size < w5.heap.size := by
    have := hb5.size
    try simp at this
    omega
  have hy5 : w4.heap.size ≤ w5.heap.size := by
    have := hb5.size
    try simp at this
    omega
  have S5 := Aside.intro (Below.trans (B := w.heap.size) (a := w) (by repeat (first | exact Below.refl _ _ | assumption | exact Aside.out ‹_› | exact Nat.le_refl _ | (simp only [World.size_alloc, World.size_setCell]; omega) | (simp; done) | (simp; omega) | omega | refine Below.alloc ?_ ?_ _ | refine Below.setCell ?_ ?_ _ | refine Below.drew ?_)) (hb5.mono (by first | omega | (simp only [World.size_alloc, World.size_setCell]; omega) | (simp; omega) | (simp; done))))
  clear S4
  obtain ⟨hc5, hf5⟩ := bcell hb5
  clear hb5
  go_wp2_with fail
  refine (Calls.mono (H6.out _)) ?_
  rintro r w6 ⟨rfl, hb6⟩
  clear H6
  have hz6_0 : w.heap.size < w6.heap.size := by
    have := hb6.size
    try simp at this
    omega
  have hz6_1 : w.heap.size + 1 < w6.heap.size := by
    have := hb6.size
    try simp at this
    omega
  have hz6_2 : w.heap.size + 2 < w6.heap.size := by
    have := hb6.size
    try simp at this
    omega
  have hz6_3 : w1.heap.size < w6.heap.size := by
    have := hb6.size
    try simp at this
    omega
  have hy6 : w5.heap.size ≤ w6.heap.size := by
    have := hb6.size
    try simp at this
    omega
  have S6 := Aside.intro (Below.trans (B := w.heap.size) (a := w) (by repeat (first | exact Below.refl _ _ | assumption | exact Aside.out ‹_› | exact Nat.le_refl _ | (simp only [World.size_alloc, World.size_setCell]; omega) | (simp; done) | (simp; omega) | omega | refine Below.alloc ?_ ?_ _ | refine Below.setCell ?_ ?_ _ | refine Below.drew ?_)) (hb6.mono (by first | omega | (simp only [World.size_alloc, World.size_setCell]; omega) | (simp; omega) | (simp; done))))
  clear S5
  obtain ⟨hc6, hf6⟩ := bcell hb6
  clear hb6
  go_wp2
  exact bodyPost_ret (v := .agg #[.float .f64 h, .float .f64 l]) (by simp [results, Try.results24, go_sem, hc1, hc2, hc3, hc4, hc5, hc6, hz1_0, hz1_1, hz1_2, hz2_0, hz2_1, hz2_2, hz2_3, hz3_0, hz3_1, hz3_2, hz3_3, hz4_0, hz4_1, hz4_2, hz4_3, hz5_0, hz5_1, hz5_2, hz5_3, hz6_0, hz6_1, hz6_2, hz6_3]) rfl ⟨rfl, (by repeat (first | exact Below.refl _ _ | assumption | exact Aside.out ‹_› | exact Nat.le_refl _ | (simp only [World.size_alloc, World.size_setCell]; omega) | (simp; done) | (simp; omega) | omega | refine Below.alloc ?_ ?_ _ | refine Below.setCell ?_ ?_ _ | refine Below.drew ?_))⟩
end Go.Proofs.Ythilnddhehbjiab

