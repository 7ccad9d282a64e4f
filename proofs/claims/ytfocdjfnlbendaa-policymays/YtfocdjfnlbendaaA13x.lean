/- Verdict, the program's. -/
import Derived.Test.YtfocdjfnlbendaaA3x
import Derived.Deep.RegionWith
import Derived.BigQuiet
import Derived.Test.YtfocdjfnlbendaaA1x
import Derived.ProofKit
import Derived.OpenShut
import Derived.ChangeOld
import Derived.ChangeArms
import Derived.SizedLaws
import Derived.Laws.Cover2
namespace Go.Proofs.Ytfocdjfnlbendaa
open Go.RowKit
open Go.Proofs.Ytfocdjfnlbendaa.B (f64bits f64frombits bw bcell)
set_option linter.unusedVariables false
set_option maxRecDepth 20000
attribute [local go_sem] st_float f64bits f64frombits

set_option maxHeartbeats 8000000 in
theorem Verdict_any (n u d m p l a b : Int) (w : World) : Calls Try.prog 18 #[.agg #[.int .i64 n, .int .i64 u, .int .i64 d, .int .i64 m, .int .i64 p, .int .i64 l], .agg #[.int .i64 a, .int .i64 b]] w fun r w' => r = .returned (.tuple #[.float .f64 (vd (snd n u d m p l && may a b) n u d a b).1, .bool (vd (snd n u d m p l && may a b) n u d a b).2]) ∧ Below w.heap.size w w' := by
  have HS := hid (sound_any n u d m p l)
  have HM := hid (May_any a b)
  have HN := hid (B.nan_any)
  have HU := hid (mInf_up)
  have HD := hid (mInf_down)
  rcases hs : snd n u d m p l with _ | _
  · rw [hs] at HS
    rw [Bool.false_and]
    have hv : vd false n u d a b = (0, false) := by unfold vd; rw [if_pos rfl]
    rw [hv]
    clear hs hv
    go_enter Try.func18, Try.ntmps18
    go_wp2_with fail
    refine (HS.out _).mono ?_
    rintro r w1 ⟨rfl, hb1⟩
    have hz1 := hb1.size
    simp at hz1
    obtain ⟨hc1, hf1⟩ := bcell hb1
    have B1 := Aside.intro hb1
    clear hb1
    go_wp2
    go_ret2
    exact ⟨by first | rfl | simp, (((Below.refl _ w).alloc (Nat.le_refl _) _).alloc (by simp) _).trans (B1.out.mono (by simp; omega))⟩
  rcases hm : may a b with _ | _
  · rw [hs] at HS
    rw [hm] at HM
    have hv : vd (true && false) n u d a b = (0, false) := if_pos rfl
    rw [hv]
    clear hs hm hv
    go_enter Try.func18, Try.ntmps18
    go_wp2_with fail
    refine (HS.out _).mono ?_
    rintro r w1 ⟨rfl, hb1⟩
    have hz1 := hb1.size
    simp at hz1
    obtain ⟨hc1, hf1⟩ := bcell hb1
    have B1 := Aside.intro hb1
    clear hb1
    go_wp2_with fail
    refine (HM.out _).mono ?_
    rintro r w2 ⟨rfl, hb2⟩
    have hz2 := hb2.size
    obtain ⟨hc2, hf2⟩ := bcell hb2
    have hc3 : ∀ b o, b < w.heap.size + 1 + 1 → w2.cell? ⟨b, o, none⟩ = w1.cell? ⟨b, o, none⟩ := fun b o h => hc2 b o (by omega)
    have B2 := Aside.intro hb2
    clear hb2 hc2 hf2
    go_wp2
    go_ret2
    exact ⟨by first | rfl | simp, ((((Below.refl _ w).alloc (Nat.le_refl _) _).alloc (by simp) _).trans (B1.out.mono (by simp; omega))).trans (B2.out.mono (by omega))⟩
  rw [hs] at HS
  rw [hm] at HM
  rw [Bool.true_and]
  clear hs hm
  have way1 : 0 < n → a = 0 → Calls Try.prog 18 #[.agg #[.int .i64 n, .int .i64 u, .int .i64 d, .int .i64 m, .int .i64 p, .int .i64 l], .agg #[.int .i64 a, .int .i64 b]] w fun r w' => r = .returned (.tuple #[.float .f64 (vd true n u d a b).1, .bool (vd true n u d a b).2]) ∧ Below w.heap.size w w' := by
    intro p1 p2
    have hv : vd true n u d a b = (9221120237041090560, true) := by unfold vd; rw [if_neg (by decide), if_pos ⟨p1, p2⟩]
    rw [hv]
    clear hv
    have q1 : 0 < n := p1
    have q2 : a = 0 := p2
    subst q2
    go_enter Try.func18, Try.ntmps18
    go_wp2_with fail
    refine (HS.out _).mono ?_
    rintro r w1 ⟨rfl, hb1⟩
    have hz1 := hb1.size
    simp at hz1
    obtain ⟨hc1, hf1⟩ := bcell hb1
    have B1 := Aside.intro hb1
    clear hb1
    go_wp2_with fail
    refine (HM.out _).mono ?_
    rintro r w2 ⟨rfl, hb2⟩
    have hz2 := hb2.size
    obtain ⟨hc2, hf2⟩ := bcell hb2
    have hc3 : ∀ b o, b < w.heap.size + 1 + 1 → w2.cell? ⟨b, o, none⟩ = w1.cell? ⟨b, o, none⟩ := fun b o h => hc2 b o (by omega)
    have B2 := Aside.intro hb2
    clear hb2 hc2 hf2
    go_wp2_with fail
    refine (HN.out _).mono ?_
    rintro r w3 ⟨rfl, rfl⟩
    go_wp2
    go_ret2
    exact ⟨by first | rfl | simp, ((((Below.refl _ w).alloc (Nat.le_refl _) _).alloc (by simp) _).trans (B1.out.mono (by simp; omega))).trans (B2.out.mono (by omega))⟩
  have way2 : 0 < n → ¬ (a = 0) → ¬ (b = 0) → Calls Try.prog 18 #[.agg #[.int .i64 n, .int .i64 u, .int .i64 d, .int .i64 m, .int .i64 p, .int .i64 l], .agg #[.int .i64 a, .int .i64 b]] w fun r w' => r = .returned (.tuple #[.float .f64 (vd true n u d a b).1, .bool (vd true n u d a b).2]) ∧ Below w.heap.size w w' := by
    intro p1 p2 p3
    have hv : vd true n u d a b = (0, false) := by unfold vd; rw [if_neg (by decide), if_neg (fun h => p2 h.2), if_pos p3]
    rw [hv]
    clear hv
    have q1 : 0 < n := p1
    have q2 : (a == 0) = false := by rw [beq_eq_false_iff_ne]; exact p2
    have q3 : (b == 0) = false := by rw [beq_eq_false_iff_ne]; exact p3
    go_enter Try.func18, Try.ntmps18
    go_wp2_with fail
    refine (HS.out _).mono ?_
    rintro r w1 ⟨rfl, hb1⟩
    have hz1 := hb1.size
    simp at hz1
    obtain ⟨hc1, hf1⟩ := bcell hb1
    have B1 := Aside.intro hb1
    clear hb1
    go_wp2_with fail
    refine (HM.out _).mono ?_
    rintro r w2 ⟨rfl, hb2⟩
    have hz2 := hb2.size
    obtain ⟨hc2, hf2⟩ := bcell hb2
    have hc3 : ∀ b o, b < w.heap.size + 1 + 1 → w2.cell? ⟨b, o, none⟩ = w1.cell? ⟨b, o, none⟩ := fun b o h => hc2 b o (by omega)
    have B2 := Aside.intro hb2
    clear hb2 hc2 hf2
    go_wp2
    go_ret2
    exact ⟨by first | rfl | simp, ((((Below.refl _ w).alloc (Nat.le_refl _) _).alloc (by simp) _).trans (B1.out.mono (by simp; omega))).trans (B2.out.mono (by omega))⟩
  have way3 : 0 < n → ¬ (a = 0) → b = 0 → 0 < u → 0 < d → Calls Try.prog 18 #[.agg #[.int .i64 n, .int .i64 u, .int .i64 d, .int .i64 m, .int .i64 p, .int .i64 l], .agg #[.int .i64 a, .int .i64 b]] w fun r w' => r = .returned (.tuple #[.float .f64 (vd true n u d a b).1, .bool (vd true n u d a b).2]) ∧ Below w.heap.size w w' := by
    intro p1 p2 p3 p4 p5
    have hv : vd true n u d a b = (9221120237041090560, true) := by unfold vd; rw [if_neg (by decide), if_neg (fun h => p2 h.2), if_neg (not_not_intro p3), if_pos ⟨p4, p5⟩]
    rw [hv]
    clear hv
    have q1 : 0 < n := p1
    have q2 : (a == 0) = false := by rw [beq_eq_false_iff_ne]; exact p2
    have q3 : b = 0 := p3
    have q4 : 0 < u := p4
    have q5 : 0 < d := p5
    subst q3
    go_enter Try.func18, Try.ntmps18
    go_wp2_with fail
    refine (HS.out _).mono ?_
    rintro r w1 ⟨rfl, hb1⟩
    have hz1 := hb1.size
    simp at hz1
    obtain ⟨hc1, hf1⟩ := bcell hb1
    have B1 := Aside.intro hb1
    clear hb1
    go_wp2_with fail
    refine (HM.out _).mono ?_
    rintro r w2 ⟨rfl, hb2⟩
    have hz2 := hb2.size
    obtain ⟨hc2, hf2⟩ := bcell hb2
    have hc3 : ∀ b o, b < w.heap.size + 1 + 1 → w2.cell? ⟨b, o, none⟩ = w1.cell? ⟨b, o, none⟩ := fun b o h => hc2 b o (by omega)
    have B2 := Aside.intro hb2
    clear hb2 hc2 hf2
    go_wp2_with fail
    refine (HN.out _).mono ?_
    rintro r w3 ⟨rfl, rfl⟩
    go_wp2
    go_ret2
    exact ⟨by first | rfl | simp, ((((Below.refl _ w).alloc (Nat.le_refl _) _).alloc (by simp) _).trans (B1.out.mono (by simp; omega))).trans (B2.out.mono (by omega))⟩
  have way4 : 0 < n → ¬ (a = 0) → b = 0 → 0 < u → ¬ (0 < d) → Calls Try.prog 18 #[.agg #[.int .i64 n, .int .i64 u, .int .i64 d, .int .i64 m, .int .i64 p, .int .i64 l], .agg #[.int .i64 a, .int .i64 b]] w fun r w' => r = .returned (.tuple #[.float .f64 (vd true n u d a b).1, .bool (vd true n u d a b).2]) ∧ Below w.heap.size w w' := by
    intro p1 p2 p3 p4 p5
    have hv : vd true n u d a b = (9218868437227405312, true) := by unfold vd; rw [if_neg (by decide), if_neg (fun h => p2 h.2), if_neg (not_not_intro p3), if_neg (fun h => p5 h.2), if_pos p4]
    rw [hv]
    clear hv
    have q1 : 0 < n := p1
    have q2 : (a == 0) = false := by rw [beq_eq_false_iff_ne]; exact p2
    have q3 : b = 0 := p3
    have q4 : 0 < u := p4
    have q5 : decide (0 < d) = false := decide_eq_false p5
    subst q3
    go_enter Try.func18, Try.ntmps18
    go_wp2_with fail
    refine (HS.out _).mono ?_
    rintro r w1 ⟨rfl, hb1⟩
    have hz1 := hb1.size
    simp at hz1
    obtain ⟨hc1, hf1⟩ := bcell hb1
    have B1 := Aside.intro hb1
    clear hb1
    go_wp2_with fail
    refine (HM.out _).mono ?_
    rintro r w2 ⟨rfl, hb2⟩
    have hz2 := hb2.size
    obtain ⟨hc2, hf2⟩ := bcell hb2
    have hc3 : ∀ b o, b < w.heap.size + 1 + 1 → w2.cell? ⟨b, o, none⟩ = w1.cell? ⟨b, o, none⟩ := fun b o h => hc2 b o (by omega)
    have B2 := Aside.intro hb2
    clear hb2 hc2 hf2
    go_wp2_with fail
    refine (HU.out _).mono ?_
    rintro r w3 ⟨rfl, rfl⟩
    go_wp2
    go_ret2
    exact ⟨by first | rfl | simp, ((((Below.refl _ w).alloc (Nat.le_refl _) _).alloc (by simp) _).trans (B1.out.mono (by simp; omega))).trans (B2.out.mono (by omega))⟩
  have way5 : 0 < n → ¬ (a = 0) → b = 0 → ¬ (0 < u) → 0 < d → Calls Try.prog 18 #[.agg #[.int .i64 n, .int .i64 u, .int .i64 d, .int .i64 m, .int .i64 p, .int .i64 l], .agg #[.int .i64 a, .int .i64 b]] w fun r w' => r = .returned (.tuple #[.float .f64 (vd true n u d a b).1, .bool (vd true n u d a b).2]) ∧ Below w.heap.size w w' := by
    intro p1 p2 p3 p4 p5
    have hv : vd true n u d a b = (18442240474082181120, true) := by unfold vd; rw [if_neg (by decide), if_neg (fun h => p2 h.2), if_neg (not_not_intro p3), if_neg (fun h => p4 h.1), if_neg p4, if_pos p5]
    rw [hv]
    clear hv
    have q1 : 0 < n := p1
    have q2 : (a == 0) = false := by rw [beq_eq_false_iff_ne]; exact p2
    have q3 : b = 0 := p3
    have q4 : decide (0 < u) = false := decide_eq_false p4
    have q5 : 0 < d := p5
    subst q3
    go_enter Try.func18, Try.ntmps18
    go_wp2_with fail
    refine (HS.out _).mono ?_
    rintro r w1 ⟨rfl, hb1⟩
    have hz1 := hb1.size
    simp at hz1
    obtain ⟨hc1, hf1⟩ := bcell hb1
    have B1 := Aside.intro hb1
    clear hb1
    go_wp2_with fail
    refine (HM.out _).mono ?_
    rintro r w2 ⟨rfl, hb2⟩
    have hz2 := hb2.size
    obtain ⟨hc2, hf2⟩ := bcell hb2
    have hc3 : ∀ b o, b < w.heap.size + 1 + 1 → w2.cell? ⟨b, o, none⟩ = w1.cell? ⟨b, o, none⟩ := fun b o h => hc2 b o (by omega)
    have B2 := Aside.intro hb2
    clear hb2 hc2 hf2
    go_wp2_with fail
    refine (HD.out _).mono ?_
    rintro r w3 ⟨rfl, rfl⟩
    go_wp2
    go_ret2
    exact ⟨by first | rfl | simp, ((((Below.refl _ w).alloc (Nat.le_refl _) _).alloc (by simp) _).trans (B1.out.mono (by simp; omega))).trans (B2.out.mono (by omega))⟩
  have way6 : 0 < n → ¬ (a = 0) → b = 0 → ¬ (0 < u) → ¬ (0 < d) → Calls Try.prog 18 #[.agg #[.int .i64 n, .int .i64 u, .int .i64 d, .int .i64 m, .int .i64 p, .int .i64 l], .agg #[.int .i64 a, .int .i64 b]] w fun r w' => r = .returned (.tuple #[.float .f64 (vd true n u d a b).1, .bool (vd true n u d a b).2]) ∧ Below w.heap.size w w' := by
    intro p1 p2 p3 p4 p5
    have hv : vd true n u d a b = (0, false) := by unfold vd; rw [if_neg (by decide), if_neg (fun h => p2 h.2), if_neg (not_not_intro p3), if_neg (fun h => p4 h.1), if_neg p4, if_neg p5]
    rw [hv]
    clear hv
    have q1 : 0 < n := p1
    have q2 : (a == 0) = false := by rw [beq_eq_false_iff_ne]; exact p2
    have q3 : b = 0 := p3
    have q4 : decide (0 < u) = false := decide_eq_false p4
    have q5 : decide (0 < d) = false := decide_eq_false p5
    subst q3
    go_enter Try.func18, Try.ntmps18
    go_wp2_with fail
    refine (HS.out _).mono ?_
    rintro r w1 ⟨rfl, hb1⟩
    have hz1 := hb1.size
    simp at hz1
    obtain ⟨hc1, hf1⟩ := bcell hb1
    have B1 := Aside.intro hb1
    clear hb1
    go_wp2_with fail
    refine (HM.out _).mono ?_
    rintro r w2 ⟨rfl, hb2⟩
    have hz2 := hb2.size
    obtain ⟨hc2, hf2⟩ := bcell hb2
    have hc3 : ∀ b o, b < w.heap.size + 1 + 1 → w2.cell? ⟨b, o, none⟩ = w1.cell? ⟨b, o, none⟩ := fun b o h => hc2 b o (by omega)
    have B2 := Aside.intro hb2
    clear hb2 hc2 hf2
    go_wp2
    go_ret2
    exact ⟨by first | rfl | simp, ((((Below.refl _ w).alloc (Nat.le_refl _) _).alloc (by simp) _).trans (B1.out.mono (by simp; omega))).trans (B2.out.mono (by omega))⟩
  have way7 : ¬ (0 < n) → ¬ (b = 0) → Calls Try.prog 18 #[.agg #[.int .i64 n, .int .i64 u, .int .i64 d, .int .i64 m, .int .i64 p, .int .i64 l], .agg #[.int .i64 a, .int .i64 b]] w fun r w' => r = .returned (.tuple #[.float .f64 (vd true n u d a b).1, .bool (vd true n u d a b).2]) ∧ Below w.heap.size w w' := by
    intro p1 p3
    have hv : vd true n u d a b = (0, false) := by unfold vd; rw [if_neg (by decide), if_neg (fun h => p1 h.1), if_pos p3]
    rw [hv]
    clear hv
    have q1 : decide (0 < n) = false := decide_eq_false p1
    have q3 : (b == 0) = false := by rw [beq_eq_false_iff_ne]; exact p3
    go_enter Try.func18, Try.ntmps18
    go_wp2_with fail
    refine (HS.out _).mono ?_
    rintro r w1 ⟨rfl, hb1⟩
    have hz1 := hb1.size
    simp at hz1
    obtain ⟨hc1, hf1⟩ := bcell hb1
    have B1 := Aside.intro hb1
    clear hb1
    go_wp2_with fail
    refine (HM.out _).mono ?_
    rintro r w2 ⟨rfl, hb2⟩
    have hz2 := hb2.size
    obtain ⟨hc2, hf2⟩ := bcell hb2
    have hc3 : ∀ b o, b < w.heap.size + 1 + 1 → w2.cell? ⟨b, o, none⟩ = w1.cell? ⟨b, o, none⟩ := fun b o h => hc2 b o (by omega)
    have B2 := Aside.intro hb2
    clear hb2 hc2 hf2
    go_wp2
    go_ret2
    exact ⟨by first | rfl | simp, ((((Below.refl _ w).alloc (Nat.le_refl _) _).alloc (by simp) _).trans (B1.out.mono (by simp; omega))).trans (B2.out.mono (by omega))⟩
  have way8 : ¬ (0 < n) → b = 0 → 0 < u → 0 < d → Calls Try.prog 18 #[.agg #[.int .i64 n, .int .i64 u, .int .i64 d, .int .i64 m, .int .i64 p, .int .i64 l], .agg #[.int .i64 a, .int .i64 b]] w fun r w' => r = .returned (.tuple #[.float .f64 (vd true n u d a b).1, .bool (vd true n u d a b).2]) ∧ Below w.heap.size w w' := by
    intro p1 p3 p4 p5
    have hv : vd true n u d a b = (9221120237041090560, true) := by unfold vd; rw [if_neg (by decide), if_neg (fun h => p1 h.1), if_neg (not_not_intro p3), if_pos ⟨p4, p5⟩]
    rw [hv]
    clear hv
    have q1 : decide (0 < n) = false := decide_eq_false p1
    have q3 : b = 0 := p3
    have q4 : 0 < u := p4
    have q5 : 0 < d := p5
    subst q3
    go_enter Try.func18, Try.ntmps18
    go_wp2_with fail
    refine (HS.out _).mono ?_
    rintro r w1 ⟨rfl, hb1⟩
    have hz1 := hb1.size
    simp at hz1
    obtain ⟨hc1, hf1⟩ := bcell hb1
    have B1 := Aside.intro hb1
    clear hb1
    go_wp2_with fail
    refine (HM.out _).mono ?_
    rintro r w2 ⟨rfl, hb2⟩
    have hz2 := hb2.size
    obtain ⟨hc2, hf2⟩ := bcell hb2
    have hc3 : ∀ b o, b < w.heap.size + 1 + 1 → w2.cell? ⟨b, o, none⟩ = w1.cell? ⟨b, o, none⟩ := fun b o h => hc2 b o (by omega)
    have B2 := Aside.intro hb2
    clear hb2 hc2 hf2
    go_wp2_with fail
    refine (HN.out _).mono ?_
    rintro r w3 ⟨rfl, rfl⟩
    go_wp2
    go_ret2
    exact ⟨by first | rfl | simp, ((((Below.refl _ w).alloc (Nat.le_refl _) _).alloc (by simp) _).trans (B1.out.mono (by simp; omega))).trans (B2.out.mono (by omega))⟩
  have way9 : ¬ (0 < n) → b = 0 → 0 < u → ¬ (0 < d) → Calls Try.prog 18 #[.agg #[.int .i64 n, .int .i64 u, .int .i64 d, .int .i64 m, .int .i64 p, .int .i64 l], .agg #[.int .i64 a, .int .i64 b]] w fun r w' => r = .returned (.tuple #[.float .f64 (vd true n u d a b).1, .bool (vd true n u d a b).2]) ∧ Below w.heap.size w w' := by
    intro p1 p3 p4 p5
    have hv : vd true n u d a b = (9218868437227405312, true) := by unfold vd; rw [if_neg (by decide), if_neg (fun h => p1 h.1), if_neg (not_not_intro p3), if_neg (fun h => p5 h.2), if_pos p4]
    rw [hv]
    clear hv
    have q1 : decide (0 < n) = false := decide_eq_false p1
    have q3 : b = 0 := p3
    have q4 : 0 < u := p4
    have q5 : decide (0 < d) = false := decide_eq_false p5
    subst q3
    go_enter Try.func18, Try.ntmps18
    go_wp2_with fail
    refine (HS.out _).mono ?_
    rintro r w1 ⟨rfl, hb1⟩
    have hz1 := hb1.size
    simp at hz1
    obtain ⟨hc1, hf1⟩ := bcell hb1
    have B1 := Aside.intro hb1
    clear hb1
    go_wp2_with fail
    refine (HM.out _).mono ?_
    rintro r w2 ⟨rfl, hb2⟩
    have hz2 := hb2.size
    obtain ⟨hc2, hf2⟩ := bcell hb2
    have hc3 : ∀ b o, b < w.heap.size + 1 + 1 → w2.cell? ⟨b, o, none⟩ = w1.cell? ⟨b, o, none⟩ := fun b o h => hc2 b o (by omega)
    have B2 := Aside.intro hb2
    clear hb2 hc2 hf2
    go_wp2_with fail
    refine (HU.out _).mono ?_
    rintro r w3 ⟨rfl, rfl⟩
    go_wp2
    go_ret2
    exact ⟨by first | rfl | simp, ((((Below.refl _ w).alloc (Nat.le_refl _) _).alloc (by simp) _).trans (B1.out.mono (by simp; omega))).trans (B2.out.mono (by omega))⟩
  have way10 : ¬ (0 < n) → b = 0 → ¬ (0 < u) → 0 < d → Calls Try.prog 18 #[.agg #[.int .i64 n, .int .i64 u, .int .i64 d, .int .i64 m, .int .i64 p, .int .i64 l], .agg #[.int .i64 a, .int .i64 b]] w fun r w' => r = .returned (.tuple #[.float .f64 (vd true n u d a b).1, .bool (vd true n u d a b).2]) ∧ Below w.heap.size w w' := by
    intro p1 p3 p4 p5
    have hv : vd true n u d a b = (18442240474082181120, true) := by unfold vd; rw [if_neg (by decide), if_neg (fun h => p1 h.1), if_neg (not_not_intro p3), if_neg (fun h => p4 h.1), if_neg p4, if_pos p5]
    rw [hv]
    clear hv
    have q1 : decide (0 < n) = false := decide_eq_false p1
    have q3 : b = 0 := p3
    have q4 : decide (0 < u) = false := decide_eq_false p4
    have q5 : 0 < d := p5
    subst q3
    go_enter Try.func18, Try.ntmps18
    go_wp2_with fail
    refine (HS.out _).mono ?_
    rintro r w1 ⟨rfl, hb1⟩
    have hz1 := hb1.size
    simp at hz1
    obtain ⟨hc1, hf1⟩ := bcell hb1
    have B1 := Aside.intro hb1
    clear hb1
    go_wp2_with fail
    refine (HM.out _).mono ?_
    rintro r w2 ⟨rfl, hb2⟩
    have hz2 := hb2.size
    obtain ⟨hc2, hf2⟩ := bcell hb2
    have hc3 : ∀ b o, b < w.heap.size + 1 + 1 → w2.cell? ⟨b, o, none⟩ = w1.cell? ⟨b, o, none⟩ := fun b o h => hc2 b o (by omega)
    have B2 := Aside.intro hb2
    clear hb2 hc2 hf2
    go_wp2_with fail
    refine (HD.out _).mono ?_
    rintro r w3 ⟨rfl, rfl⟩
    go_wp2
    go_ret2
    exact ⟨by first | rfl | simp, ((((Below.refl _ w).alloc (Nat.le_refl _) _).alloc (by simp) _).trans (B1.out.mono (by simp; omega))).trans (B2.out.mono (by omega))⟩
  have way11 : ¬ (0 < n) → b = 0 → ¬ (0 < u) → ¬ (0 < d) → Calls Try.prog 18 #[.agg #[.int .i64 n, .int .i64 u, .int .i64 d, .int .i64 m, .int .i64 p, .int .i64 l], .agg #[.int .i64 a, .int .i64 b]] w fun r w' => r = .returned (.tuple #[.float .f64 (vd true n u d a b).1, .bool (vd true n u d a b).2]) ∧ Below w.heap.size w w' := by
    intro p1 p3 p4 p5
    have hv : vd true n u d a b = (0, false) := by unfold vd; rw [if_neg (by decide), if_neg (fun h => p1 h.1), if_neg (not_not_intro p3), if_neg (fun h => p4 h.1), if_neg p4, if_neg p5]
    rw [hv]
    clear hv
    have q1 : decide (0 < n) = false := decide_eq_false p1
    have q3 : b = 0 := p3
    have q4 : decide (0 < u) = false := decide_eq_false p4
    have q5 : decide (0 < d) = false := decide_eq_false p5
    subst q3
    go_enter Try.func18, Try.ntmps18
    go_wp2_with fail
    refine (HS.out _).mono ?_
    rintro r w1 ⟨rfl, hb1⟩
    have hz1 := hb1.size
    simp at hz1
    obtain ⟨hc1, hf1⟩ := bcell hb1
    have B1 := Aside.intro hb1
    clear hb1
    go_wp2_with fail
    refine (HM.out _).mono ?_
    rintro r w2 ⟨rfl, hb2⟩
    have hz2 := hb2.size
    obtain ⟨hc2, hf2⟩ := bcell hb2
    have hc3 : ∀ b o, b < w.heap.size + 1 + 1 → w2.cell? ⟨b, o, none⟩ = w1.cell? ⟨b, o, none⟩ := fun b o h => hc2 b o (by omega)
    have B2 := Aside.intro hb2
    clear hb2 hc2 hf2
    go_wp2
    go_ret2
    exact ⟨by first | rfl | simp, ((((Below.refl _ w).alloc (Nat.le_refl _) _).alloc (by simp) _).trans (B1.out.mono (by simp; omega))).trans (B2.out.mono (by omega))⟩
  by_cases p1 : 0 < n
  · by_cases p2 : a = 0
    · exact way1 p1 p2
    · by_cases p3 : b = 0
      · by_cases p4 : 0 < u <;> by_cases p5 : 0 < d
        · exact way3 p1 p2 p3 p4 p5
        · exact way4 p1 p2 p3 p4 p5
        · exact way5 p1 p2 p3 p4 p5
        · exact way6 p1 p2 p3 p4 p5
      · exact way2 p1 p2 p3
  · by_cases p3 : b = 0
    · by_cases p4 : 0 < u <;> by_cases p5 : 0 < d
      · exact way8 p1 p3 p4 p5
      · exact way9 p1 p3 p4 p5
      · exact way10 p1 p3 p4 p5
      · exact way11 p1 p3 p4 p5
    · exact way7 p1 p3

end Go.Proofs.Ytfocdjfnlbendaa

/- Nought, on both sides. -/
namespace Go.Proofs.Ytfocdjfnlbendaa
open Go.RowKit
open Go.Proofs.Ytfocdjfnlbendaa.B (f64bits f64frombits bw bcell)
set_option linter.unusedVariables false
set_option maxRecDepth 20000
attribute [local go_sem] st_float f64bits f64frombits

set_option maxHeartbeats 8000000 in
theorem Nought_any (n u d m p l mode : Int) (w : World) : Calls Try.prog 20 #[.agg #[.int .i64 n, .int .i64 u, .int .i64 d, .int .i64 m, .int .i64 p, .int .i64 l], .int .i64 mode] w fun r w' => r = .returned (.float .f64 (nt (snd n u d m p l) n u d m p l mode)) ∧ Below w.heap.size w w' := by
  have HS := hid (sound_any n u d m p l)
  have HM := hid (minus_any)
  have HT := hid (Zero_any true)
  have HF := hid (Zero_any false)
  rcases hs : snd n u d m p l with _ | _
  · rw [hs] at HS
    have hv : nt false n u d m p l mode = 0 := if_pos rfl
    rw [hv]
    clear hs hv
    go_enter Try.func20, Try.ntmps20
    go_wp2_with fail
    refine (HS.out _).mono ?_
    rintro r w1 ⟨rfl, hb1⟩
    have hz1 := hb1.size
    simp at hz1
    obtain ⟨hc1, hf1⟩ := bcell hb1
    have B1 := Aside.intro hb1
    clear hb1
    go_wp2
    go_ret
    exact ⟨by first | rfl | simp, ((Below.refl _ w).alloc (Nat.le_refl _) _).trans (B1.out.mono (by simp))⟩
  have bd := snd_bd hs
  rw [hs] at HS
  obtain ⟨f, hf⟩ : ∃ f, l - n - u - d = f := ⟨_, rfl⟩
  have hfb : -9223372036854775808 ≤ f ∧ f ≤ 9223372036854775807 := by omega
  have hb1 : 0 ≤ n ∧ n ≤ 1099511627776 := bd.1
  have hb2 : 0 ≤ u ∧ u ≤ 1099511627776 := bd.2.1
  have hb3 : 0 ≤ d ∧ d ≤ 1099511627776 := bd.2.2.1
  have hb4 : 0 ≤ l ∧ l ≤ 1099511627776 := bd.2.2.2
  unfold nt
  rw [if_neg (by decide), hf]
  clear hs bd
  by_cases p1 : f = 0
  · rw [if_pos p1]
    have q1 : (f == 0) = true := by rw [beq_iff_eq]; exact p1
    clear p1
    go_enter Try.func20, Try.ntmps20
    go_wp2_with fail
    refine (HS.out _).mono ?_
    rintro r w1 ⟨rfl, hb1⟩
    have hz1 := hb1.size
    simp at hz1
    obtain ⟨hc1, hf1⟩ := bcell hb1
    have B1 := Aside.intro hb1
    clear hb1
    go_wp2_with fail
    refine (HM.out _).mono ?_
    rintro r w3 ⟨rfl, rfl⟩
    go_wp2
    go_ret
    exact ⟨by first | rfl | simp, ((Below.refl _ w).alloc (Nat.le_refl _) _).trans (B1.out.mono (by simp))⟩
  rw [if_neg p1]
  have q1 : (f == 0) = false := by rw [beq_eq_false_iff_ne]; exact p1
  clear p1
  by_cases p2 : m = f
  · rw [if_pos p2]
    have q2 : (m == f) = true := by rw [beq_iff_eq]; exact p2
    clear p2
    go_enter Try.func20, Try.ntmps20
    go_wp2_with fail
    refine (HS.out _).mono ?_
    rintro r w1 ⟨rfl, hb1⟩
    have hz1 := hb1.size
    simp at hz1
    obtain ⟨hc1, hf1⟩ := bcell hb1
    have B1 := Aside.intro hb1
    clear hb1
    go_wp2_with fail
    refine (HM.out _).mono ?_
    rintro r w3 ⟨rfl, rfl⟩
    go_wp2
    go_ret
    exact ⟨by first | rfl | simp, ((Below.refl _ w).alloc (Nat.le_refl _) _).trans (B1.out.mono (by simp))⟩
  rw [if_neg p2]
  have q2 : (m == f) = false := by rw [beq_eq_false_iff_ne]; exact p2
  clear p2
  by_cases p3 : p = f
  · rw [if_pos p3]
    have q3 : (p == f) = true := by rw [beq_iff_eq]; exact p3
    clear p3
    go_enter Try.func20, Try.ntmps20
    go_wp2_with fail
    refine (HS.out _).mono ?_
    rintro r w1 ⟨rfl, hb1⟩
    have hz1 := hb1.size
    simp at hz1
    obtain ⟨hc1, hf1⟩ := bcell hb1
    have B1 := Aside.intro hb1
    clear hb1
    go_wp2_with fail
    refine (HM.out _).mono ?_
    rintro r w3 ⟨rfl, rfl⟩
    go_wp2
    go_ret
    exact ⟨by first | rfl | simp, ((Below.refl _ w).alloc (Nat.le_refl _) _).trans (B1.out.mono (by simp))⟩
  rw [if_neg p3]
  have q3 : (p == f) = false := by rw [beq_eq_false_iff_ne]; exact p3
  clear p3
  by_cases p4 : mode = 3
  · rw [if_pos p4]
    subst p4
    go_enter Try.func20, Try.ntmps20
    go_wp2_with fail
    refine (HS.out _).mono ?_
    rintro r w1 ⟨rfl, hb1⟩
    have hz1 := hb1.size
    simp at hz1
    obtain ⟨hc1, hf1⟩ := bcell hb1
    have B1 := Aside.intro hb1
    clear hb1
    go_wp2_with fail
    refine (HM.out _).mono ?_
    rintro r w3 ⟨rfl, rfl⟩
    go_wp2
    go_ret
    exact ⟨by first | rfl | simp, ((Below.refl _ w).alloc (Nat.le_refl _) _).trans (B1.out.mono (by simp))⟩
  · rw [if_neg p4]
    have q4 : (mode == 3) = false := by rw [beq_eq_false_iff_ne]; exact p4
    clear p4
    go_enter Try.func20, Try.ntmps20
    go_wp2_with fail
    refine (HS.out _).mono ?_
    rintro r w1 ⟨rfl, hb1⟩
    have hz1 := hb1.size
    simp at hz1
    obtain ⟨hc1, hf1⟩ := bcell hb1
    have B1 := Aside.intro hb1
    clear hb1
    go_wp2_with fail
    refine (HM.out _).mono ?_
    rintro r w3 ⟨rfl, rfl⟩
    go_wp2
    go_ret
    exact ⟨by first | rfl | simp, ((Below.refl _ w).alloc (Nat.le_refl _) _).trans (B1.out.mono (by simp))⟩

set_option maxHeartbeats 8000000 in
theorem rNought_any (n u d m p l mode : Int) (w : World) : Calls Try.prog 22 #[.agg #[.int .i64 n, .int .i64 u, .int .i64 d, .int .i64 m, .int .i64 p, .int .i64 l], .int .i64 mode] w fun r w' => r = .returned (.float .f64 (nt (snd n u d m p l) n u d m p l mode)) ∧ Below w.heap.size w w' := by
  have HS := hid (MayBe_any n u d m p l)
  have HM := hid (minus_any)
  have HT := hid (Zero_any true)
  have HF := hid (Zero_any false)
  rcases hs : snd n u d m p l with _ | _
  · rw [hs] at HS
    have hv : nt false n u d m p l mode = 0 := if_pos rfl
    rw [hv]
    clear hs hv
    go_enter Try.func22, Try.ntmps22
    go_wp2_with fail
    refine (HS.out _).mono ?_
    rintro r w1 ⟨rfl, hb1⟩
    have hz1 := hb1.size
    simp at hz1
    obtain ⟨hc1, hf1⟩ := bcell hb1
    have B1 := Aside.intro hb1
    clear hb1
    go_wp2_with fail
    refine (HF.out _).mono ?_
    rintro r w3 ⟨rfl, rfl⟩
    go_wp2
    go_ret
    exact ⟨by first | rfl | simp, ((Below.refl _ w).alloc (Nat.le_refl _) _).trans (B1.out.mono (by simp))⟩
  have bd := snd_bd hs
  rw [hs] at HS
  obtain ⟨f, hf⟩ : ∃ f, l - n - u - d = f := ⟨_, rfl⟩
  have hfb : -9223372036854775808 ≤ f ∧ f ≤ 9223372036854775807 := by omega
  have hb1 : 0 ≤ n ∧ n ≤ 1099511627776 := bd.1
  have hb2 : 0 ≤ u ∧ u ≤ 1099511627776 := bd.2.1
  have hb3 : 0 ≤ d ∧ d ≤ 1099511627776 := bd.2.2.1
  have hb4 : 0 ≤ l ∧ l ≤ 1099511627776 := bd.2.2.2
  unfold nt
  rw [if_neg (by decide), hf]
  clear hs bd
  by_cases p1 : f = 0
  · rw [if_pos p1]
    have q1 : (f == 0) = true := by rw [beq_iff_eq]; exact p1
    clear p1
    go_enter Try.func22, Try.ntmps22
    go_wp2_with fail
    refine (HS.out _).mono ?_
    rintro r w1 ⟨rfl, hb1⟩
    have hz1 := hb1.size
    simp at hz1
    obtain ⟨hc1, hf1⟩ := bcell hb1
    have B1 := Aside.intro hb1
    clear hb1
    go_wp2_with fail
    refine (HF.out _).mono ?_
    rintro r w3 ⟨rfl, rfl⟩
    go_wp2
    go_ret
    exact ⟨by first | rfl | simp, ((Below.refl _ w).alloc (Nat.le_refl _) _).trans (B1.out.mono (by simp))⟩
  rw [if_neg p1]
  have q1 : (f == 0) = false := by rw [beq_eq_false_iff_ne]; exact p1
  clear p1
  by_cases p2 : m = f
  · rw [if_pos p2]
    have q2 : (m == f) = true := by rw [beq_iff_eq]; exact p2
    clear p2
    go_enter Try.func22, Try.ntmps22
    go_wp2_with fail
    refine (HS.out _).mono ?_
    rintro r w1 ⟨rfl, hb1⟩
    have hz1 := hb1.size
    simp at hz1
    obtain ⟨hc1, hf1⟩ := bcell hb1
    have B1 := Aside.intro hb1
    clear hb1
    go_wp2_with fail
    refine (HT.out _).mono ?_
    rintro r w3 ⟨rfl, rfl⟩
    go_wp2
    go_ret
    exact ⟨by first | rfl | simp, ((Below.refl _ w).alloc (Nat.le_refl _) _).trans (B1.out.mono (by simp))⟩
  rw [if_neg p2]
  have q2 : (m == f) = false := by rw [beq_eq_false_iff_ne]; exact p2
  clear p2
  by_cases p3 : p = f
  · rw [if_pos p3]
    have q3 : (p == f) = true := by rw [beq_iff_eq]; exact p3
    clear p3
    go_enter Try.func22, Try.ntmps22
    go_wp2_with fail
    refine (HS.out _).mono ?_
    rintro r w1 ⟨rfl, hb1⟩
    have hz1 := hb1.size
    simp at hz1
    obtain ⟨hc1, hf1⟩ := bcell hb1
    have B1 := Aside.intro hb1
    clear hb1
    go_wp2_with fail
    refine (HF.out _).mono ?_
    rintro r w3 ⟨rfl, rfl⟩
    go_wp2
    go_ret
    exact ⟨by first | rfl | simp, ((Below.refl _ w).alloc (Nat.le_refl _) _).trans (B1.out.mono (by simp))⟩
  rw [if_neg p3]
  have q3 : (p == f) = false := by rw [beq_eq_false_iff_ne]; exact p3
  clear p3
  by_cases p4 : mode = 3
  · rw [if_pos p4]
    subst p4
    go_enter Try.func22, Try.ntmps22
    go_wp2_with fail
    refine (HS.out _).mono ?_
    rintro r w1 ⟨rfl, hb1⟩
    have hz1 := hb1.size
    simp at hz1
    obtain ⟨hc1, hf1⟩ := bcell hb1
    have B1 := Aside.intro hb1
    clear hb1
    go_wp2_with fail
    refine (HT.out _).mono ?_
    rintro r w3 ⟨rfl, rfl⟩
    go_wp2
    go_ret
    exact ⟨by first | rfl | simp, ((Below.refl _ w).alloc (Nat.le_refl _) _).trans (B1.out.mono (by simp))⟩
  · rw [if_neg p4]
    have q4 : (mode == 3) = false := by rw [beq_eq_false_iff_ne]; exact p4
    clear p4
    go_enter Try.func22, Try.ntmps22
    go_wp2_with fail
    refine (HS.out _).mono ?_
    rintro r w1 ⟨rfl, hb1⟩
    have hz1 := hb1.size
    simp at hz1
    obtain ⟨hc1, hf1⟩ := bcell hb1
    have B1 := Aside.intro hb1
    clear hb1
    go_wp2_with fail
    refine (HF.out _).mono ?_
    rintro r w3 ⟨rfl, rfl⟩
    go_wp2
    go_ret
    exact ⟨by first | rfl | simp, ((Below.refl _ w).alloc (Nat.le_refl _) _).trans (B1.out.mono (by simp))⟩

end Go.Proofs.Ytfocdjfnlbendaa

/- Lists that are alike; awake. -/
namespace Go.Proofs.Ytfocdjfnlbendaa
open Go.RowKit
open Go.Proofs.Ytfocdjfnlbendaa.B (f64bits f64frombits bw bcell)
set_option linter.unusedVariables false
set_option maxRecDepth 20000
attribute [local go_sem] st_float f64bits f64frombits

set_option maxHeartbeats 2000000 in
theorem alikeLists_any (xs : List Nat) (ao bo : Option Addr) (n cap cap' B : Nat) (w : World) (hn : n = xs.length) (hm : n ≤ 35184372088832) (hR : Rd B w ao xs) (hR' : Rd B w bo xs) :
    Calls Try.prog 15 #[.slice ao n cap, .slice bo n cap'] w fun r w' => r = .returned (.bool true) ∧ Below w.heap.size w w' := by
  have HX := (Aside.intro (And.intro hn (And.intro hR hR')))
  clear hn hR hR'
  go_enter Try.func15, Try.ntmps15
  go_wp2
  go_loopg [5] n (fun gk iv wr => ∃ (i : Nat), gk + i = n ∧ iv = .int .i64 (i : Nat) ∧ Aside (Below w.heap.size w wr ∧ wr.heap = w.heap))
  case atStart => exact ⟨0, by omega, rfl, Below.refl _ _, rfl⟩
  case round =>
    obtain ⟨i, hi, rfl, HA⟩ := hrel
    by_cases hin : i = n
    · obtain rfl : gk = 0 := by omega
      subst hin
      go_wp2
      go_ret
      exact ⟨rfl, HA.out.1⟩
    · have hil : i < n := by omega
      obtain ⟨hn, hR, hR'⟩ := HX.out
      have hne : xs ≠ [] := by intro e; rw [e] at hn; simp at hn; omega
      obtain ⟨b1, o1, _, rfl, hc1⟩ := hR hne
      obtain ⟨b2, o2, _, rfl, hc2⟩ := hR' hne
      have hcw : ∀ a, wr.cell? a = w.cell? a := fun a => by simp only [World.cell?, HA.out.2]
      have h1 : wr.cell? ⟨b1, o1 + i, none⟩ = _ := (hcw _).trans (hc1 i (by omega))
      have h2 : wr.cell? ⟨b2, o2 + i, none⟩ = _ := (hcw _).trans (hc2 i (by omega))
      obtain ⟨x, hx⟩ : ∃ x, xs.getD i 0 = x := ⟨_, rfl⟩
      rw [hx] at h1 h2
      clear hn hR hR' hne hc1 hc2 hcw hx
      go_wp2
      go_quiet (first | (go_at_call 21; exact Calls.quiet_of_same (alike_same x _)))
      go_wp2
      go_roundg (gk - 1)
      case measure => omega
      case rel => exact ⟨i + 1, by omega, by first | go_num | (congr 1; omega), ⟨HA.out.1.os, HA.out.1.tape, HA.out.1.output, HA.out.1.size, HA.out.1.block⟩, HA.out.2⟩

/-- The list of the chapter's first example. -/
def exL : List Nat := [4607182418800017408, 9221120237041090560, 9223372036854775808, 9218868437227405312, 4612811918334230528]
theorem exE : siftE 0 0 exL = 0 := by decide +kernel
theorem exE2 : siftE 1 2 exL = 61 := by decide +kernel
theorem exF : siftL 0 0 exL = [4607182418800017408, 9223372036854775808, 4612811918334230528] := by decide +kernel
theorem exS : siftS 0 0 exL = .agg #[.int .i64 1, .int .i64 1, .int .i64 0, .int .i64 1, .int .i64 0, .int .i64 5] := by
  unfold siftS; rw [if_pos exE]
  have h1 : cn 5 exL = 1 := by decide +kernel
  have h2 : cn 3 exL = 1 := by decide +kernel
  have h3 : cn 4 exL = 0 := by decide +kernel
  have h4 : cn 1 exL = 1 := by decide +kernel
  have h5 : cn 2 exL = 0 := by decide +kernel
  rw [h1, h2, h3, h4, h5]; rfl
theorem exS2 : siftS 1 2 exL = .agg #[.int .i64 0, .int .i64 0, .int .i64 0, .int .i64 0, .int .i64 0, .int .i64 0] := by unfold siftS; rw [if_neg (by rw [exE2]; decide)]
theorem exV : vd (snd 0 2 0 0 0 3 && may 0 0) 0 2 0 0 0 = (9218868437227405312, true) := by decide +kernel
theorem exN : nt (snd 0 0 0 2 0 2) 0 0 0 2 0 2 0 = 9223372036854775808 := by decide +kernel
theorem exW : Wf exL := by intro x hx; simp [exL] at hx; rcases hx with rfl | rfl | rfl | rfl | rfl <;> decide
theorem ord25 : (FloatKind.f64.format.order 4612811918334230528 4612811918334230528 == some .eq) = true := by decide +kernel
attribute [local go_sem] ord25

set_option maxHeartbeats 8000000 in
set_option maxRecDepth 100000 in
theorem awake_any (w : World) : Calls Try.prog 7 #[] w fun r w' => r = .returned (.bool true) ∧ Below w.heap.size w w' := by
  have HT := hid TheNaN_any
  have HZ := hid (Zero_any true)
  have HI := hid (rInf_any false)
  have HP := hid Plain_any
  have HV := hid (Verdict_any 0 2 0 0 0 3 0 0)
  have HN := hid (Nought_any 0 0 0 2 0 2 0)
  have HA1 := hid (alike_same 9218868437227405312)
  have HA2 := hid (alike_same 9223372036854775808)
  have hz : zr true = 9223372036854775808 := rfl
  have hi : inf false = 9218868437227405312 := rfl
  rw [exV] at HV
  rw [exN] at HN
  rw [hz] at HZ
  rw [hi] at HI
  clear hz hi
  go_enter Try.func7, Try.ntmps7
  go_wp2_with fail
  refine (HT.out _).mono ?_
  rintro r w1 ⟨rfl, rfl⟩
  go_wp2_with fail
  refine (HZ.out _).mono ?_
  rintro r w1 ⟨rfl, rfl⟩
  go_wp2_with fail
  refine (HI.out _).mono ?_
  rintro r w1 ⟨rfl, rfl⟩
  go_wp2_with fail
  obtain ⟨W0, hW0⟩ : ∃ W, W = w1.alloc (.cells #[.float .f64 4607182418800017408, .float .f64 9221120237041090560, .float .f64 9223372036854775808, .float .f64 9218868437227405312, .float .f64 4612811918334230528] 41) := ⟨_, rfl⟩
  have hO : Own W0 w1.heap.size exL := by rw [hW0]; exact heap_alloc_new w1 _
  have hB0 : Below w1.heap.size w1 W0 := by rw [hW0]; exact (Below.refl _ _).alloc (Nat.le_refl _) _
  have hs0 : W0.heap.size = w1.heap.size + 1 := by rw [hW0]; simp
  rw [← hW0]
  have HW := (Aside.intro (And.intro hO hB0))
  clear hW0 hO hB0
  refine (HP.out _).mono ?_
  rintro r w2 ⟨rfl, hb2⟩
  have hs2 := hb2.size
  have hO2 := HW.out.1.below hb2 (by omega)
  have hB2 := HW.out.2.trans (hb2.mono (by omega))
  have HW2 := (Aside.intro (And.intro hO2 hB2))
  clear hb2 hO2 hB2
  obtain ⟨W3, hW3⟩ : ∃ W, W = w2.alloc (.cells #[.int .i64 0, .int .i64 0] 23) := ⟨_, rfl⟩
  have hO3 : Own W3 w1.heap.size exL := by rw [hW3]; exact HW2.out.1.alloc _
  have HS1 := hid (Sift_any exL (some ⟨w1.heap.size, 0, none⟩) 5 5 (w1.heap.size + 1) 0 0 W3 rfl (by omega) exW (by have := Rd.ofOwn hO3 0 5; exact this) (by rw [hW3]; simp; omega))
  have HW3 := (Aside.intro (And.intro hO3 hW3))
  clear hO3
  go_wp2_with fail
  rw [← hW3]
  refine (HS1.out).mono ?_
  rintro r w4 ⟨v4, rfl, hL4, hb4⟩
  rw [exF] at hL4
  rw [exS, exE]
  obtain ⟨ao, cap, rfl, hcap, hcm, hR4⟩ := hL4.shape
  obtain ⟨gb, off, hgl, rfl, hcell⟩ := hR4 (by simp)
  have hm2 : w4.cell? ⟨gb, off + 2, none⟩ = some (.float .f64 4612811918334230528) := hcell 2 (by simp)
  have hs3 : W3.heap.size = w2.heap.size + 1 := by rw [hW3]; simp
  have hs4 := hb4.size
  have hO4 := HW3.out.1.below hb4 (by omega)
  have hB4 : Below w1.heap.size w1 w4 := (by rw [hW3] at hb4; exact (HW2.out.2.alloc (by omega) _).trans (hb4.mono (by simp; omega)))
  have hp4 : w4.heap[w2.heap.size]? = some (.cells #[.int .i64 0, .int .i64 0] 23 (0, 0)) := by rw [hb4.block _ (by omega), hW3]; exact heap_alloc_new w2 _
  obtain ⟨W5, hW5⟩ : ∃ W, W = w4.alloc (.cells #[.int .i64 1, .int .i64 1, .int .i64 0, .int .i64 1, .int .i64 0, .int .i64 5] 30) := ⟨_, rfl⟩
  have hO5 : Own W5 w1.heap.size exL := by rw [hW5]; exact hO4.alloc _
  have hB5 : Below w1.heap.size w1 W5 := by rw [hW5]; exact hB4.alloc (by omega) _
  have hs5 : W5.heap.size = w4.heap.size + 1 := by rw [hW5]; simp
  have hp5 : W5.heap[w2.heap.size]? = some (.cells #[.int .i64 0, .int .i64 0] 23 (0, 0)) := by rw [hW5, Below.heap_alloc _ _ _ (by omega)]; exact hp4
  have hT5 : SpB W5 w4.heap.size 1 1 0 1 0 5 := by rw [hW5]; exact SpB.made _ _ _ _ _ _ _
  have hm5 : W5.cell? ⟨gb, off + 2, none⟩ = some (.float .f64 4612811918334230528) := by
    have h9 : Below w4.heap.size w4 W5 := by rw [hW5]; exact (Below.refl _ _).alloc (Nat.le_refl _) _
    rw [h9.cell (p := ⟨gb, off + 2, none⟩) hgl]; exact hm2
  have HS2 := hid (Sift_any exL (some ⟨w1.heap.size, 0, none⟩) 5 5 (w1.heap.size + 1) 1 2 W5 rfl (by omega) exW (by have := Rd.ofOwn hO5 0 5; exact this) (by omega))
  have HW5 := (Aside.intro (And.intro hO5 (And.intro hB5 (And.intro hp5 (And.intro hT5 (And.intro hm5 hgl))))))
  clear hO5 hB5 hp5 hT5 hm5 hgl hO4 hB4 hp4 hm2 hcell hR4 hL4 hb4 HW3 hW3 HS1 HW2
  go_wp2_with fail
  rw [← hW5]
  refine (HS2.out).mono ?_
  rintro r w6 ⟨v6, rfl, hL6, hb6⟩
  rw [exS2, exE2]
  obtain ⟨a6, c6, rfl, _, _, _⟩ := hL6.shape
  have hs6 := hb6.size
  obtain ⟨W7, hW7⟩ : ∃ W, W = w6.alloc (.cells #[.int .i64 0, .int .i64 0, .int .i64 0, .int .i64 0, .int .i64 0, .int .i64 0] 30) := ⟨_, rfl⟩
  have hb7 : Below W5.heap.size W5 W7 := by rw [hW7]; exact hb6.alloc (by omega) _
  have hs7 : W7.heap.size = w6.heap.size + 1 := by rw [hW7]; simp
  have hp6 : w6.heap[w2.heap.size]? = some (.cells #[.int .i64 0, .int .i64 0] 23 (0, 0)) := by rw [hb6.block _ (by omega)]; exact HW5.out.2.2.1
  have hq0 : w6.cell? ⟨w2.heap.size, 0, none⟩ = some (.int .i64 0) := by simp [World.cell?, hp6]
  have hq1 : w6.cell? ⟨w2.heap.size, 1, none⟩ = some (.int .i64 0) := by simp [World.cell?, hp6]
  have hlt6 : w2.heap.size < w6.heap.size := by omega
  have HW7 := Aside.intro hb7
  clear hL6 hb6 hb7 HS2 hp6 hW5
  go_wp2_with fail
  rw [← hW7]
  refine (HV.out _).mono ?_
  rintro r w8 ⟨rfl, hb8⟩
  have hs8 := hb8.size
  have hb58 := HW7.out.trans (hb8.mono (by omega))
  have HW8 := Aside.intro hb58
  clear hb8 hb58 hq0 hq1 HW7 hW7
  go_wp2_with fail
  refine (HN.out _).mono ?_
  rintro r w9 ⟨rfl, hb9⟩
  have hs9 := hb9.size
  have hb59 := HW8.out.trans (hb9.mono (by omega))
  have hm9 : w9.cell? ⟨gb, off + 2, none⟩ = some (.float .f64 4612811918334230528) := by rw [hb59.cell (p := ⟨gb, off + 2, none⟩) (by have := HW5.out.2.2.2.2.2; simp; omega)]; exact HW5.out.2.2.2.2.1
  have hp9 : w9.heap[w2.heap.size]? = some (.cells #[.int .i64 0, .int .i64 0] 23 (0, 0)) := by rw [hb59.block _ (by omega)]; exact HW5.out.2.2.1
  have hq0 : w9.cell? ⟨w2.heap.size, 0, none⟩ = some (.int .i64 0) := by simp [World.cell?, hp9]
  have hq1 : w9.cell? ⟨w2.heap.size, 1, none⟩ = some (.int .i64 0) := by simp [World.cell?, hp9]
  have hT9 := HW5.out.2.2.2.1.below hb59 (by omega)
  have ht0 := hT9.c0
  have ht1 := hT9.c1
  have ht2 := hT9.c2
  have ht3 := hT9.c3
  have ht4 := hT9.c4
  have ht5 := hT9.c5
  have HB9 : Aside (Below w1.heap.size w1 w9) := HW5.out.2.1.trans (hb59.mono (by omega))
  clear hb9 hb59 hp9 hT9 HW5 HW8
  go_wp2_with fail
  refine (HI.out _).mono ?_
  rintro r w9 ⟨rfl, rfl⟩
  go_wp2_with fail
  refine (HA1.out _).mono ?_
  rintro r w9 ⟨rfl, rfl⟩
  go_wp2_with fail
  refine (HZ.out _).mono ?_
  rintro r w9 ⟨rfl, rfl⟩
  go_wp2_with fail
  refine (HA2.out _).mono ?_
  rintro r w9 ⟨rfl, rfl⟩
  go_wp2
  go_ret
  exact ⟨by first | rfl | simp, HB9.out⟩
end Go.Proofs.Ytfocdjfnlbendaa

/- PolicyMays' walk. -/
namespace Go.Proofs.Ytfocdjfnlbendaa
open Go.RowKit
open Go.Proofs.Ytfocdjfnlbendaa.B (bcell)
set_option linter.unusedVariables false
set_option maxRecDepth 20000

theorem mayPlain : may 0 0 = true := by decide

set_option maxHeartbeats 4000000 in
theorem walk_PolicyMays (a b : Int) (w : World) : Calls Try.prog 3 #[.agg #[.int .i64 a, .int .i64 b]] w fun r w' => r = .returned (.bool true) ∧ Below w.heap.size w w' := by
  have HW := hid awake_any
  have HM := hid (May_any a b)
  have HP := hid Plain_any
  have HM0 := hid (May_any 0 0)
  have HR := hid (rMay_any a b)
  rw [mayPlain] at HM0
  obtain ⟨mb, hmb⟩ : ∃ mb, may a b = mb := ⟨_, rfl⟩
  rw [hmb] at HM HR
  clear hmb
  go_enter Try.func3, Try.ntmps3
  go_wp2_with fail
  refine (HW.out _).mono ?_
  rintro r w1 ⟨rfl, hb1⟩
  have hs1 := hb1.size
  simp at hs1
  have hB1 : Below w.heap.size w w1 := ((Below.refl _ w).alloc (Nat.le_refl _) _).trans (hb1.mono (by simp))
  have hp1 : w1.heap[w.heap.size]? = some (.cells #[.int .i64 a, .int .i64 b] 23 (0, 0)) := by rw [hb1.block _ (by simp)]; exact heap_alloc_new w _
  have hq0 : w1.cell? ⟨w.heap.size, 0, none⟩ = some (.int .i64 a) := by simp [World.cell?, hp1]
  have hq1 : w1.cell? ⟨w.heap.size, 1, none⟩ = some (.int .i64 b) := by simp [World.cell?, hp1]
  have X1 := (Aside.intro (And.intro hB1 hp1))
  clear hb1 hB1 hp1
  go_wp2_with fail
  refine (HM.out _).mono ?_
  rintro r w2 ⟨rfl, hb2⟩
  have hs2 := hb2.size
  have hB2 := X1.out.1.trans (hb2.mono (by omega))
  have hp2 : w2.heap[w.heap.size]? = some (.cells #[.int .i64 a, .int .i64 b] 23 (0, 0)) := by rw [hb2.block _ (by omega)]; exact X1.out.2
  have X2 := (Aside.intro (And.intro hB2 hp2))
  clear hb2 hB2 hp2 hq0 hq1
  go_wp2_with fail
  refine (HP.out _).mono ?_
  rintro r w3 ⟨rfl, hb3⟩
  have hs3 := hb3.size
  have hB3 := X2.out.1.trans (hb3.mono (by omega))
  have hp3 : w3.heap[w.heap.size]? = some (.cells #[.int .i64 a, .int .i64 b] 23 (0, 0)) := by rw [hb3.block _ (by omega)]; exact X2.out.2
  have X3 := (Aside.intro (And.intro hB3 hp3))
  clear hb3 hB3 hp3
  go_wp2_with fail
  refine (HM0.out _).mono ?_
  rintro r w4 ⟨rfl, hb4⟩
  have hs4 := hb4.size
  have hB4 := X3.out.1.trans (hb4.mono (by omega))
  have hp4 : w4.heap[w.heap.size]? = some (.cells #[.int .i64 a, .int .i64 b] 23 (0, 0)) := by rw [hb4.block _ (by omega)]; exact X3.out.2
  have hq0 : w4.cell? ⟨w.heap.size, 0, none⟩ = some (.int .i64 a) := by simp [World.cell?, hp4]
  have hq1 : w4.cell? ⟨w.heap.size, 1, none⟩ = some (.int .i64 b) := by simp [World.cell?, hp4]
  have X4 := (Aside.intro (And.intro hB4 hp4))
  clear hb4 hB4 hp4
  go_wp2_with fail
  refine (HR.out _).mono ?_
  rintro r w5 ⟨rfl, hb5⟩
  have hB5 := Aside.intro (X4.out.1.trans (hb5.mono (by omega)))
  clear hb5
  go_wp2
  go_ret
  exact ⟨by first | rfl | simp, hB5.out⟩
end Go.Proofs.Ytfocdjfnlbendaa

/- What came in: policies, Specials, lists. -/
namespace Go.Proofs.Ytfocdjfnlbendaa
open Go.ChangeShapes Go.WideShapes Go.ChangeAt Go.RowKit
set_option linter.unusedVariables false
set_option maxRecDepth 20000

theorem ints_of {H : Type} {enc : TypeId × Value → H} {W : World} {k : Nat} {c : Value} {x : Option (DataW H × List MemPlace)} {y : DataW H × List MemPlace} (h : DataW.trod enc Try.prog W 0 (fun _ => true) true k 3 [c] = x) (hx : x = some y) : ∃ n : Int, c = .int .i64 n ∧ y.1 = .lit (.int .i64 n) ∧ -9223372036854775808 ≤ n ∧ n ≤ 9223372036854775807 := by
  subst hx
  obtain ⟨e, e2, rfl, hw⟩ := DataW.trod_int Try.underlying3 h
  cases e2
  have hw' : -9223372036854775808 ≤ e ∧ e ≤ 9223372036854775807 := by
    simp [Lit.wf, IntKind.min, IntKind.max, IntKind.signed, IntKind.bits] at hw
    omega
  exact ⟨e, rfl, rfl, hw'.1, hw'.2⟩

theorem pol_of {H : Type} {enc : TypeId × Value → H} {W : World} {r : Reach} {b0 : Nat} {v : Value} {d : DataW H} {p : List MemPlace} (hv : Value.okWide Try.prog W r b0 23 v) (h : DataW.Trod enc Try.prog W 0 (fun _ => true) true 23 v d p) :
    ∃ a b : Int, v = .agg #[.int .i64 a, .int .i64 b] := by
  obtain ⟨cs, rfl, hsz⟩ := okWide_struct Try.underlying23 hv
  obtain ⟨fuel, hf⟩ := h
  have hC : Try.prog.cellsOf 23 = 2 := by kernel_rfl
  have c3 : Try.prog.cellsOf 3 = 1 := by kernel_rfl
  obtain ⟨xs, k, rfl, hx, hl, hxl, hfs⟩ := DataW.trod_struct Try.underlying23 hf
  rw [hC] at hsz
  obtain ⟨c0, c1, rfl⟩ : ∃ c0 c1, cs = #[c0, c1] := by
    obtain ⟨l⟩ := cs
    match l, hsz with
    | [a, b], _ => exact ⟨a, b, rfl⟩
  have h0 : DataW.trod enc Try.prog W 0 (fun _ => true) true k 3 (List.take (Try.prog.cellsOf 3) (List.drop 0 [c0, c1])) = xs[0]? := hfs 0 _ rfl
  have h1 : DataW.trod enc Try.prog W 0 (fun _ => true) true k 3 (List.take (Try.prog.cellsOf 3) (List.drop 1 [c0, c1])) = xs[1]? := hfs 1 _ rfl
  rw [c3] at h0 h1
  match xs, hxl with
  | [x0, x1], _ =>
    obtain ⟨a, rfl, _⟩ := ints_of (c := c0) h0 rfl
    obtain ⟨b, rfl, _⟩ := ints_of (c := c1) h1 rfl
    exact ⟨a, b, rfl⟩

theorem spc_of {H : Type} {enc : TypeId × Value → H} {W : World} {r : Reach} {b0 : Nat} {v : Value} {d : DataW H} {p : List MemPlace} (hv : Value.okWide Try.prog W r b0 30 v) (h : DataW.Trod enc Try.prog W 0 (fun _ => true) true 30 v d p) :
    ∃ n u dd m pp a : Int, v = .agg #[.int .i64 n, .int .i64 u, .int .i64 dd, .int .i64 m, .int .i64 pp, .int .i64 a] := by
  obtain ⟨cs, rfl, hsz⟩ := okWide_struct Try.underlying30 hv
  obtain ⟨fuel, hf⟩ := h
  have hC : Try.prog.cellsOf 30 = 6 := by kernel_rfl
  have c3 : Try.prog.cellsOf 3 = 1 := by kernel_rfl
  obtain ⟨xs, k, rfl, hx, hl, hxl, hfs⟩ := DataW.trod_struct Try.underlying30 hf
  rw [hC] at hsz
  obtain ⟨c0, c1, c2, c3', c4, c5, rfl⟩ : ∃ c0 c1 c2 c3 c4 c5, cs = #[c0, c1, c2, c3, c4, c5] := by
    obtain ⟨l⟩ := cs
    match l, hsz with
    | [a, b, c, d, e, f], _ => exact ⟨a, b, c, d, e, f, rfl⟩
  have h0 : DataW.trod enc Try.prog W 0 (fun _ => true) true k 3 (List.take (Try.prog.cellsOf 3) (List.drop 0 [c0, c1, c2, c3', c4, c5])) = xs[0]? := hfs 0 _ rfl
  have h1 : DataW.trod enc Try.prog W 0 (fun _ => true) true k 3 (List.take (Try.prog.cellsOf 3) (List.drop 1 [c0, c1, c2, c3', c4, c5])) = xs[1]? := hfs 1 _ rfl
  have h2 : DataW.trod enc Try.prog W 0 (fun _ => true) true k 3 (List.take (Try.prog.cellsOf 3) (List.drop 2 [c0, c1, c2, c3', c4, c5])) = xs[2]? := hfs 2 _ rfl
  have h3 : DataW.trod enc Try.prog W 0 (fun _ => true) true k 3 (List.take (Try.prog.cellsOf 3) (List.drop 3 [c0, c1, c2, c3', c4, c5])) = xs[3]? := hfs 3 _ rfl
  have h4 : DataW.trod enc Try.prog W 0 (fun _ => true) true k 3 (List.take (Try.prog.cellsOf 3) (List.drop 4 [c0, c1, c2, c3', c4, c5])) = xs[4]? := hfs 4 _ rfl
  have h5 : DataW.trod enc Try.prog W 0 (fun _ => true) true k 3 (List.take (Try.prog.cellsOf 3) (List.drop 5 [c0, c1, c2, c3', c4, c5])) = xs[5]? := hfs 5 _ rfl
  rw [c3] at h0 h1 h2 h3 h4 h5
  match xs, hxl with
  | [x0, x1, x2, x3, x4, x5], _ =>
    obtain ⟨n, rfl, _⟩ := ints_of (c := c0) h0 rfl
    obtain ⟨u, rfl, _⟩ := ints_of (c := c1) h1 rfl
    obtain ⟨dd, rfl, _⟩ := ints_of (c := c2) h2 rfl
    obtain ⟨m, rfl, _⟩ := ints_of (c := c3') h3 rfl
    obtain ⟨pp, rfl, _⟩ := ints_of (c := c4) h4 rfl
    obtain ⟨a, rfl, _⟩ := ints_of (c := c5) h5 rfl
    exact ⟨n, u, dd, m, pp, a, rfl⟩

theorem trodF {H : Type} {enc : TypeId × Value → H} {P : Program} {w : World} {base : Nat} {spare : Nat → Bool} {held : Bool} {fuel : Nat} {t : TypeId} {cs : List Value} {x : DataW H × List MemPlace} {k : FloatKind} (ht : P.underlying t = some (.float k)) (h : DataW.trod enc P w base spare held fuel t cs = some x) : ∃ n, cs = [.float k n] ∧ x = (.lit (.float k n), []) ∧ (Lit.float k n).wf = true := by
  cases fuel with
  | zero => simp [DataW.trod] at h
  | succ m =>
    simp only [DataW.trod, ht] at h
    split at h <;> simp_all

/-- A list that came in: its numbers, its room. -/
structure Came (w : World) (a : Option Addr) (n c : Nat) (xs : List Nat) : Prop where
  len : n = xs.length
  cap : n ≤ c
  wf : Wf xs
  rd : Rd w.heap.size w a xs
  nil : a = none → c = 0

theorem add_none (b off i : Nat) : (⟨b, off, none⟩ : Addr).add i = ⟨b, off + i, none⟩ := by unfold Addr.add; split <;> simp_all

def numF {H : Type} (y : DataW H × List MemPlace) : Nat := match y.1 with | .lit (.float _ n) => n | _ => 0

theorem Try.cellsF : Try.prog.cellsOf 41 = 1 := by kernel_rfl
theorem Try.bytesF : Try.prog.bytesOf 41 = 8 := by kernel_rfl

theorem came_of {H : Type} {enc : TypeId × Value → H} {W : World} {a : Option Addr} {n c : Nat} {d : DataW H} {p : List MemPlace} (h : DataW.Trod enc Try.prog W 0 (fun _ => true) true 27 (.slice a n c) d p) :
    ∃ xs, Came W a n c xs ∧ ((d = .nil ∧ c = 0) ∨ ∃ elems spare : List (DataW H), d = .slice elems spare ∧ elems.length + spare.length = c) := by
  obtain ⟨fuel, hf⟩ := h
  rcases DataW.trod_slice Try.underlying27 hf with ⟨hcs, hx⟩ | ⟨x, l, cp, elems, rest, m, _, hcs, hx, hb, hl, hm, hlen, hel, hsp, hns⟩
  · simp [Value.cells] at hcs
    obtain ⟨rfl, rfl, rfl⟩ := hcs
    exact ⟨[], ⟨rfl, Nat.le_refl _, Wf.nil, Rd.nil _ _ _, fun _ => rfl⟩, .inl ⟨(Prod.mk.inj hx).1, rfl⟩⟩
  · simp [Value.cells] at hcs
    obtain ⟨rfl, rfl, rfl⟩ := hcs
    have each : ∀ i y, i < n → elems[i]? = some y → y = (.lit (.float .f64 (numF y)), []) ∧ (Lit.float .f64 (numF y)).wf = true ∧ W.cell? (x.add i) = some (.float .f64 (numF y)) := by
      intro i y hi hy
      have hb' := hel i hi
      rw [hy, Try.cellsF, Nat.mul_one, Option.bind_eq_some_iff] at hb'
      obtain ⟨cs', hcs, hy'⟩ := hb'
      obtain ⟨k, rfl, rfl, hw⟩ := trodF Try.underlying41 hy'
      exact ⟨rfl, hw, cell_of_cells?_one hcs⟩
    refine ⟨elems.map numF, ⟨by simp [hlen], hl, ?_, ?_, fun e => by cases e⟩, .inr ⟨_, _, (Prod.mk.inj hx).1, ?_⟩⟩
    · intro y hy
      obtain ⟨z, hz, rfl⟩ := List.mem_map.1 hy
      obtain ⟨i, hi⟩ := List.getElem?_of_mem hz
      have hil := (List.getElem?_eq_some_iff.1 hi).1
      have := (each i z (by omega) hi).2.1
      exact of_decide_eq_true this
    · intro hne
      obtain ⟨b, off, spot⟩ := x
      have hn0 : 0 < n := by
        rcases Nat.eq_zero_or_pos n with h0 | h0
        · rw [h0] at hlen; have := List.eq_nil_of_length_eq_zero hlen; subst this; simp at hne
        · exact h0
      have hc0 := (each 0 (elems[0]'(by omega)) hn0 (List.getElem?_eq_getElem _)).2.2
      have hspot : spot = none := by simpa [Addr.add] using World.cell?_spot hc0
      subst hspot
      refine ⟨b, off, World.block_lt_of_cell? W _ (by simpa [Addr.add] using hc0), rfl, fun i hi => ?_⟩
      rw [List.length_map] at hi
      have hadd := add_none b off i
      have := (each i (elems[i]'hi) (by omega) (List.getElem?_eq_getElem _)).2.2
      rw [hadd] at this
      rw [this]
      simp [List.getD_eq_getElem?_getD, hi]
    · have hr := (hsp rfl).1
      simp only [List.length_map]
      omega

/-- The form's own reach. -/
theorem came_reach {H : Type} {ts : List TypeId} {ds : List (DataW H)} (h : (DataW.weightsEach Try.prog ts ds).all (· ≤ reachBytes) = true) {j : Nat} {d : DataW H} {c n : Nat} (ht : ts[j]? = some 27) (hd : ds[j]? = some d) (hn : n ≤ c)
    (hc : (d = .nil ∧ c = 0) ∨ ∃ elems spare : List (DataW H), d = .slice elems spare ∧ elems.length + spare.length = c) : n ≤ 17592186043904 := by
  rcases hc with ⟨_, rfl⟩ | ⟨elems, spare, rfl, hl⟩
  · omega
  · have := sized_slice h ht hd Try.underlying27
    rw [Try.bytesF, hl] at this
    simp only [reachBytes] at this
    omega
end Go.Proofs.Ytfocdjfnlbendaa

