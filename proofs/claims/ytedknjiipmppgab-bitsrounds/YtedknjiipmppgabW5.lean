/- What Join answers: at parts that a number has, the number; at other parts, nought and ErrParts. -/
import Derived.Test.YtedknjiipmppgabW4
namespace Go.Proofs.Ytedknjiipmppgab
open Go.RowKit
attribute [local go_sem] f64bits f64frombits fld0 fld1 fld2 fld3

set_option maxHeartbeats 2000000 in
theorem join_same (s : Bool) (e f : Nat) (he : e < 2048) (hf : f < 4503599627370496)
    (hasm : Hid (∀ w, Calls Try.prog 48 #[(.agg #[.bool (ng s e f), .int .i64 (cls e f), .int .i64 (xp e), .int .u64 (fr e f)])] w fun r w' => r = .returned (.float .f64 (bw s e f)) ∧ Below w.heap.size w w')) (w : World) :
    Calls Try.prog 23 #[(.agg #[.bool (ng s e f), .int .i64 (cls e f), .int .i64 (xp e), .int .u64 (fr e f)])] w fun r w' => r = .returned (.tuple #[.float .f64 (bw s e f), .int .i64 0]) ∧ Below w.heap.size w w' := by
  go_enter Try.func23, Try.ntmps23
  go_wp2_with fail
  refine (hasm.out _).mono ?_
  rintro r w1 ⟨rfl, hb⟩
  (obtain ⟨hc, hfz⟩ := bcell hb; have hz : w.heap.size < w1.heap.size := by (have := hb.size; simp at this; omega))
  have hbb : Below w.heap.size w w1 := ((Below.refl _ _).alloc (Nat.le_refl _) _).trans (hb.mono (by simp))
  go_wp2_with fail
  go_region_with (go_at_call 22; refine (Split_any s e f he hf _).mono ?_; rintro r w2 ⟨rfl, hb2⟩; have hc2 : ∀ o, w2.cell? ⟨w.heap.size, o, none⟩ = w1.cell? ⟨w.heap.size, o, none⟩ := fun o => hb2.cell (p := ⟨w.heap.size, o, none⟩) hz)
  all_goals go_wp2_with fail
  all_goals go_ret2
  all_goals exact ⟨rfl, hbb.drew.trans (hb2.mono (Nat.le_of_lt hz))⟩

/-- two Parts differ: the first field at which they do. -/
def Differ (s : Bool) (e f : Nat) (n : Bool) (c x : Int) (g : Nat) : Prop :=
  (ng s e f == n) = false ∨ ((ng s e f == n) = true ∧ (cls e f == c) = false) ∨ ((ng s e f == n) = true ∧ (cls e f == c) = true ∧ (xp e == x) = false) ∨ ((ng s e f == n) = true ∧ (cls e f == c) = true ∧ (xp e == x) = true ∧ (fr e f == (g : Int)) = false)

theorem differ_of (s : Bool) (e f : Nat) (n : Bool) (c x : Int) (g : Nat) (h : splitV s e f ≠ .agg #[.bool n, .int .i64 c, .int .i64 x, .int .u64 g]) : Differ s e f n c x g := by
  unfold Differ
  by_cases h1 : ng s e f = n
  · by_cases h2 : cls e f = c
    · by_cases h3 : xp e = x
      · by_cases h4 : fr e f = (g : Int)
        · exact absurd (by unfold splitV pv; rw [h1, h2, h3, h4]) h
        · simp [h1, h2, h3, h4]
      · simp [h1, h2, h3]
    · simp [h1, h2]
  · simp [h1]

set_option maxHeartbeats 4000000 in
theorem join_other (n : Bool) (c x : Int) (g : Nat) (hg : g < 18446744073709551616)
    (hne : Hid (∀ s e f, e < 2048 → f < 4503599627370496 → splitV s e f ≠ .agg #[.bool n, .int .i64 c, .int .i64 x, .int .u64 g])) (w : World) :
    Calls Try.prog 23 #[.agg #[.bool n, .int .i64 c, .int .i64 x, .int .u64 g]] w fun r w' => r = .returned (.tuple #[.float .f64 0, .int .i64 10]) ∧ Below w.heap.size w w' := by
  go_enter Try.func23, Try.ntmps23
  go_wp2_with fail
  refine (asm_any n c x g hg _).mono ?_
  rintro r w1 ⟨⟨b, hb0, rfl⟩, hb⟩
  obtain ⟨s, e, f, he, hf, hbe⟩ := bw_of b hb0
  rw [hbe]
  clear hbe hb0
  rcases differ_of s e f n c x g (hne.out s e f he hf) with h | ⟨h, h3⟩ | ⟨h, h3, h4⟩ | ⟨h, h3, h4, h5⟩
  · (obtain ⟨hc, hfz⟩ := bcell hb; have hz : w.heap.size < w1.heap.size := by (have := hb.size; simp at this; omega))
    have hbb : Below w.heap.size w w1 := ((Below.refl _ _).alloc (Nat.le_refl _) _).trans (hb.mono (by simp))
    go_wp2_with fail
    go_region_with (go_at_call 22; refine (Split_any s e f he hf _).mono ?_; rintro r w2 ⟨rfl, hb2⟩; have hc2 : ∀ o, w2.cell? ⟨w.heap.size, o, none⟩ = w1.cell? ⟨w.heap.size, o, none⟩ := fun o => hb2.cell (p := ⟨w.heap.size, o, none⟩) hz)
    all_goals go_wp2_with fail
    all_goals go_ret2
    all_goals exact ⟨rfl, hbb.drew.trans (hb2.mono (Nat.le_of_lt hz))⟩
  · (obtain ⟨hc, hfz⟩ := bcell hb; have hz : w.heap.size < w1.heap.size := by (have := hb.size; simp at this; omega))
    have hbb : Below w.heap.size w w1 := ((Below.refl _ _).alloc (Nat.le_refl _) _).trans (hb.mono (by simp))
    go_wp2_with fail
    go_region_with (go_at_call 22; refine (Split_any s e f he hf _).mono ?_; rintro r w2 ⟨rfl, hb2⟩; have hc2 : ∀ o, w2.cell? ⟨w.heap.size, o, none⟩ = w1.cell? ⟨w.heap.size, o, none⟩ := fun o => hb2.cell (p := ⟨w.heap.size, o, none⟩) hz)
    all_goals go_wp2_with fail
    all_goals go_ret2
    all_goals exact ⟨rfl, hbb.drew.trans (hb2.mono (Nat.le_of_lt hz))⟩
  · (obtain ⟨hc, hfz⟩ := bcell hb; have hz : w.heap.size < w1.heap.size := by (have := hb.size; simp at this; omega))
    have hbb : Below w.heap.size w w1 := ((Below.refl _ _).alloc (Nat.le_refl _) _).trans (hb.mono (by simp))
    go_wp2_with fail
    go_region_with (go_at_call 22; refine (Split_any s e f he hf _).mono ?_; rintro r w2 ⟨rfl, hb2⟩; have hc2 : ∀ o, w2.cell? ⟨w.heap.size, o, none⟩ = w1.cell? ⟨w.heap.size, o, none⟩ := fun o => hb2.cell (p := ⟨w.heap.size, o, none⟩) hz)
    all_goals go_wp2_with fail
    all_goals go_ret2
    all_goals exact ⟨rfl, hbb.drew.trans (hb2.mono (Nat.le_of_lt hz))⟩
  · (obtain ⟨hc, hfz⟩ := bcell hb; have hz : w.heap.size < w1.heap.size := by (have := hb.size; simp at this; omega))
    have hbb : Below w.heap.size w w1 := ((Below.refl _ _).alloc (Nat.le_refl _) _).trans (hb.mono (by simp))
    go_wp2_with fail
    go_region_with (go_at_call 22; refine (Split_any s e f he hf _).mono ?_; rintro r w2 ⟨rfl, hb2⟩; have hc2 : ∀ o, w2.cell? ⟨w.heap.size, o, none⟩ = w1.cell? ⟨w.heap.size, o, none⟩ := fun o => hb2.cell (p := ⟨w.heap.size, o, none⟩) hz)
    all_goals go_wp2_with fail
    all_goals go_ret2
    all_goals exact ⟨rfl, hbb.drew.trans (hb2.mono (Nat.le_of_lt hz))⟩
end Go.Proofs.Ytedknjiipmppgab
