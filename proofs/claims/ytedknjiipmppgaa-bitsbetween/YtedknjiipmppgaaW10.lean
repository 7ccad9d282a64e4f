/- What the document's Join answers at parts out of range, at classes 3, 4 and others. -/
import Derived.Test.YtedknjiipmppgaaW9
namespace Go.Proofs.Ytedknjiipmppgaa
open Go.RowKit
attribute [local go_sem] f64bits f64frombits

set_option maxHeartbeats 2000000 in
theorem rjoin_low0 (s : Bool) (x g : Int) (h : x < -1074) (w : World) :
    Calls Try.prog 19 #[.agg #[.bool s, .int .i64 0, .int .i64 x, .int .u64 g]] w fun r w' => r = .returned (.tuple #[.float .f64 0, .int .i64 10]) ∧ Below w.heap.size w w' := by
  go_enter Try.func19, Try.ntmps19
  go_wp2_with (first
    | (go_at_call 38; refine (rnan_any _).mono ?_; rintro r w1 ⟨rfl, rfl⟩)
    | (go_at_call 39; refine (of_any _ _).mono ?_; rintro r w1 ⟨rfl, rfl⟩)
    | (go_at_call 41; refine (endless_any _ _).mono ?_; rintro r w1 ⟨rfl, rfl⟩))
  go_ret2
  exact ⟨rfl, (Below.refl _ _).alloc (Nat.le_refl _) _⟩

set_option maxHeartbeats 2000000 in
theorem rjoin_high0 (s : Bool) (x g : Int) (h0 : -1074 ≤ x) (h : 971 < x) (w : World) :
    Calls Try.prog 19 #[.agg #[.bool s, .int .i64 0, .int .i64 x, .int .u64 g]] w fun r w' => r = .returned (.tuple #[.float .f64 0, .int .i64 10]) ∧ Below w.heap.size w w' := by
  go_enter Try.func19, Try.ntmps19
  go_wp2_with (first
    | (go_at_call 38; refine (rnan_any _).mono ?_; rintro r w1 ⟨rfl, rfl⟩)
    | (go_at_call 39; refine (of_any _ _).mono ?_; rintro r w1 ⟨rfl, rfl⟩)
    | (go_at_call 41; refine (endless_any _ _).mono ?_; rintro r w1 ⟨rfl, rfl⟩))
  go_ret2
  exact ⟨rfl, (Below.refl _ _).alloc (Nat.le_refl _) _⟩

set_option maxHeartbeats 2000000 in
theorem rjoin_wide0 (s : Bool) (x g : Int) (h0 : -1074 ≤ x) (h1 : x ≤ 971) (h : 9007199254740992 ≤ g) (w : World) :
    Calls Try.prog 19 #[.agg #[.bool s, .int .i64 0, .int .i64 x, .int .u64 g]] w fun r w' => r = .returned (.tuple #[.float .f64 0, .int .i64 10]) ∧ Below w.heap.size w w' := by
  go_enter Try.func19, Try.ntmps19
  go_wp2_with (first
    | (go_at_call 38; refine (rnan_any _).mono ?_; rintro r w1 ⟨rfl, rfl⟩)
    | (go_at_call 39; refine (of_any _ _).mono ?_; rintro r w1 ⟨rfl, rfl⟩)
    | (go_at_call 41; refine (endless_any _ _).mono ?_; rintro r w1 ⟨rfl, rfl⟩))
  go_ret2
  exact ⟨rfl, (Below.refl _ _).alloc (Nat.le_refl _) _⟩

set_option maxHeartbeats 2000000 in
theorem rjoin_low1 (s : Bool) (x g : Int) (h : x < -1074) (w : World) :
    Calls Try.prog 19 #[.agg #[.bool s, .int .i64 1, .int .i64 x, .int .u64 g]] w fun r w' => r = .returned (.tuple #[.float .f64 0, .int .i64 10]) ∧ Below w.heap.size w w' := by
  go_enter Try.func19, Try.ntmps19
  go_wp2_with (first
    | (go_at_call 38; refine (rnan_any _).mono ?_; rintro r w1 ⟨rfl, rfl⟩)
    | (go_at_call 39; refine (of_any _ _).mono ?_; rintro r w1 ⟨rfl, rfl⟩)
    | (go_at_call 41; refine (endless_any _ _).mono ?_; rintro r w1 ⟨rfl, rfl⟩))
  go_ret2
  exact ⟨rfl, (Below.refl _ _).alloc (Nat.le_refl _) _⟩

set_option maxHeartbeats 2000000 in
theorem rjoin_high1 (s : Bool) (x g : Int) (h0 : -1074 ≤ x) (h : 971 < x) (w : World) :
    Calls Try.prog 19 #[.agg #[.bool s, .int .i64 1, .int .i64 x, .int .u64 g]] w fun r w' => r = .returned (.tuple #[.float .f64 0, .int .i64 10]) ∧ Below w.heap.size w w' := by
  go_enter Try.func19, Try.ntmps19
  go_wp2_with (first
    | (go_at_call 38; refine (rnan_any _).mono ?_; rintro r w1 ⟨rfl, rfl⟩)
    | (go_at_call 39; refine (of_any _ _).mono ?_; rintro r w1 ⟨rfl, rfl⟩)
    | (go_at_call 41; refine (endless_any _ _).mono ?_; rintro r w1 ⟨rfl, rfl⟩))
  go_ret2
  exact ⟨rfl, (Below.refl _ _).alloc (Nat.le_refl _) _⟩

set_option maxHeartbeats 2000000 in
theorem rjoin_wide1 (s : Bool) (x g : Int) (h0 : -1074 ≤ x) (h1 : x ≤ 971) (h : 9007199254740992 ≤ g) (w : World) :
    Calls Try.prog 19 #[.agg #[.bool s, .int .i64 1, .int .i64 x, .int .u64 g]] w fun r w' => r = .returned (.tuple #[.float .f64 0, .int .i64 10]) ∧ Below w.heap.size w w' := by
  go_enter Try.func19, Try.ntmps19
  go_wp2_with (first
    | (go_at_call 38; refine (rnan_any _).mono ?_; rintro r w1 ⟨rfl, rfl⟩)
    | (go_at_call 39; refine (of_any _ _).mono ?_; rintro r w1 ⟨rfl, rfl⟩)
    | (go_at_call 41; refine (endless_any _ _).mono ?_; rintro r w1 ⟨rfl, rfl⟩))
  go_ret2
  exact ⟨rfl, (Below.refl _ _).alloc (Nat.le_refl _) _⟩

set_option maxHeartbeats 2000000 in
theorem rjoin_low2 (s : Bool) (x g : Int) (h : x < -1074) (w : World) :
    Calls Try.prog 19 #[.agg #[.bool s, .int .i64 2, .int .i64 x, .int .u64 g]] w fun r w' => r = .returned (.tuple #[.float .f64 0, .int .i64 10]) ∧ Below w.heap.size w w' := by
  go_enter Try.func19, Try.ntmps19
  go_wp2_with (first
    | (go_at_call 38; refine (rnan_any _).mono ?_; rintro r w1 ⟨rfl, rfl⟩)
    | (go_at_call 39; refine (of_any _ _).mono ?_; rintro r w1 ⟨rfl, rfl⟩)
    | (go_at_call 41; refine (endless_any _ _).mono ?_; rintro r w1 ⟨rfl, rfl⟩))
  go_ret2
  exact ⟨rfl, (Below.refl _ _).alloc (Nat.le_refl _) _⟩

set_option maxHeartbeats 2000000 in
theorem rjoin_high2 (s : Bool) (x g : Int) (h0 : -1074 ≤ x) (h : 971 < x) (w : World) :
    Calls Try.prog 19 #[.agg #[.bool s, .int .i64 2, .int .i64 x, .int .u64 g]] w fun r w' => r = .returned (.tuple #[.float .f64 0, .int .i64 10]) ∧ Below w.heap.size w w' := by
  go_enter Try.func19, Try.ntmps19
  go_wp2_with (first
    | (go_at_call 38; refine (rnan_any _).mono ?_; rintro r w1 ⟨rfl, rfl⟩)
    | (go_at_call 39; refine (of_any _ _).mono ?_; rintro r w1 ⟨rfl, rfl⟩)
    | (go_at_call 41; refine (endless_any _ _).mono ?_; rintro r w1 ⟨rfl, rfl⟩))
  go_ret2
  exact ⟨rfl, (Below.refl _ _).alloc (Nat.le_refl _) _⟩

set_option maxHeartbeats 2000000 in
theorem rjoin_wide2 (s : Bool) (x g : Int) (h0 : -1074 ≤ x) (h1 : x ≤ 971) (h : 9007199254740992 ≤ g) (w : World) :
    Calls Try.prog 19 #[.agg #[.bool s, .int .i64 2, .int .i64 x, .int .u64 g]] w fun r w' => r = .returned (.tuple #[.float .f64 0, .int .i64 10]) ∧ Below w.heap.size w w' := by
  go_enter Try.func19, Try.ntmps19
  go_wp2_with (first
    | (go_at_call 38; refine (rnan_any _).mono ?_; rintro r w1 ⟨rfl, rfl⟩)
    | (go_at_call 39; refine (of_any _ _).mono ?_; rintro r w1 ⟨rfl, rfl⟩)
    | (go_at_call 41; refine (endless_any _ _).mono ?_; rintro r w1 ⟨rfl, rfl⟩))
  go_ret2
  exact ⟨rfl, (Below.refl _ _).alloc (Nat.le_refl _) _⟩

set_option maxHeartbeats 2000000 in
theorem rjoin_endx (s : Bool) (x g : Int) (hk : ((0 : Int) == x) = false) (w : World) :
    Calls Try.prog 19 #[.agg #[.bool s, .int .i64 3, .int .i64 x, .int .u64 g]] w fun r w' => r = .returned (.tuple #[.float .f64 0, .int .i64 10]) ∧ Below w.heap.size w w' := by
  go_enter Try.func19, Try.ntmps19
  go_wp2_with (first
    | (go_at_call 38; refine (rnan_any _).mono ?_; rintro r w1 ⟨rfl, rfl⟩)
    | (go_at_call 39; refine (of_any _ _).mono ?_; rintro r w1 ⟨rfl, rfl⟩)
    | (go_at_call 41; refine (endless_any _ _).mono ?_; rintro r w1 ⟨rfl, rfl⟩))
  refine (rSplit_end s _).mono ?_
  rintro r w2 ⟨rfl, hb⟩
  have hz : w.heap.size < w2.heap.size := by (have := hb.size; simp at this; omega)
  obtain ⟨hc, hfz⟩ := bcell hb
  go_wp2_with (go_at_call 39; refine (of_any _ _).mono ?_; rintro r w1 ⟨rfl, rfl⟩)
  go_ret2
  exact ⟨rfl, (((Below.refl _ _).alloc (Nat.le_refl _) _).trans (hb.mono (by simp))).alloc (Nat.le_of_lt hz) _⟩

set_option maxHeartbeats 2000000 in
theorem rjoin_endg (s : Bool) (g : Int) (hk : ((0 : Int) == g) = false) (w : World) :
    Calls Try.prog 19 #[.agg #[.bool s, .int .i64 3, .int .i64 0, .int .u64 g]] w fun r w' => r = .returned (.tuple #[.float .f64 0, .int .i64 10]) ∧ Below w.heap.size w w' := by
  go_enter Try.func19, Try.ntmps19
  go_wp2_with (first
    | (go_at_call 38; refine (rnan_any _).mono ?_; rintro r w1 ⟨rfl, rfl⟩)
    | (go_at_call 39; refine (of_any _ _).mono ?_; rintro r w1 ⟨rfl, rfl⟩)
    | (go_at_call 41; refine (endless_any _ _).mono ?_; rintro r w1 ⟨rfl, rfl⟩))
  refine (rSplit_end s _).mono ?_
  rintro r w2 ⟨rfl, hb⟩
  have hz : w.heap.size < w2.heap.size := by (have := hb.size; simp at this; omega)
  obtain ⟨hc, hfz⟩ := bcell hb
  go_wp2_with (go_at_call 39; refine (of_any _ _).mono ?_; rintro r w1 ⟨rfl, rfl⟩)
  go_ret2
  exact ⟨rfl, (((Below.refl _ _).alloc (Nat.le_refl _) _).trans (hb.mono (by simp))).alloc (Nat.le_of_lt hz) _⟩

set_option maxHeartbeats 2000000 in
theorem rjoin_nann (c x g : Int) (h0 : (c == 0) = false) (h1 : (c == 1) = false) (h2 : (c == 2) = false) (h3 : (c == 3) = false) (w : World) :
    Calls Try.prog 19 #[.agg #[.bool true, .int .i64 c, .int .i64 x, .int .u64 g]] w fun r w' => r = .returned (.tuple #[.float .f64 0, .int .i64 10]) ∧ Below w.heap.size w w' := by
  go_enter Try.func19, Try.ntmps19
  go_wp2_with (first
    | (go_at_call 38; refine (rnan_any _).mono ?_; rintro r w1 ⟨rfl, rfl⟩)
    | (go_at_call 39; refine (of_any _ _).mono ?_; rintro r w1 ⟨rfl, rfl⟩)
    | (go_at_call 41; refine (endless_any _ _).mono ?_; rintro r w1 ⟨rfl, rfl⟩))
  refine (rSplit_nan _).mono ?_
  rintro r w2 ⟨rfl, hb⟩
  have hz : w.heap.size < w2.heap.size := by (have := hb.size; simp at this; omega)
  obtain ⟨hc, hfz⟩ := bcell hb
  go_wp2_with (go_at_call 39; refine (of_any _ _).mono ?_; rintro r w1 ⟨rfl, rfl⟩)
  go_ret2
  exact ⟨rfl, (((Below.refl _ _).alloc (Nat.le_refl _) _).trans (hb.mono (by simp))).alloc (Nat.le_of_lt hz) _⟩

set_option maxHeartbeats 2000000 in
theorem rjoin_nanc (c x g : Int) (h0 : (c == 0) = false) (h1 : (c == 1) = false) (h2 : (c == 2) = false) (h3 : (c == 3) = false) (hk : ((4 : Int) == c) = false) (w : World) :
    Calls Try.prog 19 #[.agg #[.bool false, .int .i64 c, .int .i64 x, .int .u64 g]] w fun r w' => r = .returned (.tuple #[.float .f64 0, .int .i64 10]) ∧ Below w.heap.size w w' := by
  go_enter Try.func19, Try.ntmps19
  go_wp2_with (first
    | (go_at_call 38; refine (rnan_any _).mono ?_; rintro r w1 ⟨rfl, rfl⟩)
    | (go_at_call 39; refine (of_any _ _).mono ?_; rintro r w1 ⟨rfl, rfl⟩)
    | (go_at_call 41; refine (endless_any _ _).mono ?_; rintro r w1 ⟨rfl, rfl⟩))
  refine (rSplit_nan _).mono ?_
  rintro r w2 ⟨rfl, hb⟩
  have hz : w.heap.size < w2.heap.size := by (have := hb.size; simp at this; omega)
  obtain ⟨hc, hfz⟩ := bcell hb
  go_wp2_with (go_at_call 39; refine (of_any _ _).mono ?_; rintro r w1 ⟨rfl, rfl⟩)
  go_ret2
  exact ⟨rfl, (((Below.refl _ _).alloc (Nat.le_refl _) _).trans (hb.mono (by simp))).alloc (Nat.le_of_lt hz) _⟩

set_option maxHeartbeats 2000000 in
theorem rjoin_nanx (x g : Int) (hk : ((0 : Int) == x) = false) (w : World) :
    Calls Try.prog 19 #[.agg #[.bool false, .int .i64 4, .int .i64 x, .int .u64 g]] w fun r w' => r = .returned (.tuple #[.float .f64 0, .int .i64 10]) ∧ Below w.heap.size w w' := by
  go_enter Try.func19, Try.ntmps19
  go_wp2_with (first
    | (go_at_call 38; refine (rnan_any _).mono ?_; rintro r w1 ⟨rfl, rfl⟩)
    | (go_at_call 39; refine (of_any _ _).mono ?_; rintro r w1 ⟨rfl, rfl⟩)
    | (go_at_call 41; refine (endless_any _ _).mono ?_; rintro r w1 ⟨rfl, rfl⟩))
  refine (rSplit_nan _).mono ?_
  rintro r w2 ⟨rfl, hb⟩
  have hz : w.heap.size < w2.heap.size := by (have := hb.size; simp at this; omega)
  obtain ⟨hc, hfz⟩ := bcell hb
  go_wp2_with (go_at_call 39; refine (of_any _ _).mono ?_; rintro r w1 ⟨rfl, rfl⟩)
  go_ret2
  exact ⟨rfl, (((Below.refl _ _).alloc (Nat.le_refl _) _).trans (hb.mono (by simp))).alloc (Nat.le_of_lt hz) _⟩

set_option maxHeartbeats 2000000 in
theorem rjoin_nang (g : Int) (hk : ((0 : Int) == g) = false) (w : World) :
    Calls Try.prog 19 #[.agg #[.bool false, .int .i64 4, .int .i64 0, .int .u64 g]] w fun r w' => r = .returned (.tuple #[.float .f64 0, .int .i64 10]) ∧ Below w.heap.size w w' := by
  go_enter Try.func19, Try.ntmps19
  go_wp2_with (first
    | (go_at_call 38; refine (rnan_any _).mono ?_; rintro r w1 ⟨rfl, rfl⟩)
    | (go_at_call 39; refine (of_any _ _).mono ?_; rintro r w1 ⟨rfl, rfl⟩)
    | (go_at_call 41; refine (endless_any _ _).mono ?_; rintro r w1 ⟨rfl, rfl⟩))
  refine (rSplit_nan _).mono ?_
  rintro r w2 ⟨rfl, hb⟩
  have hz : w.heap.size < w2.heap.size := by (have := hb.size; simp at this; omega)
  obtain ⟨hc, hfz⟩ := bcell hb
  go_wp2_with (go_at_call 39; refine (of_any _ _).mono ?_; rintro r w1 ⟨rfl, rfl⟩)
  go_ret2
  exact ⟨rfl, (((Below.refl _ _).alloc (Nat.le_refl _) _).trans (hb.mono (by simp))).alloc (Nat.le_of_lt hz) _⟩
end Go.Proofs.Ytedknjiipmppgaa
