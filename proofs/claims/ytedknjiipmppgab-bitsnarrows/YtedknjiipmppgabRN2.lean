/- What Ways, Of32 and the document's Narrow answer, over what Split and narrow answer. -/
import Derived.Test.YtedknjiipmppgabW7
namespace Go.Proofs.Ytedknjiipmppgab
open Go.RowKit
attribute [local go_sem] f64bits f64frombits f32bits f32frombits
set_option linter.unusedVariables false

theorem ret_f32 {a b : Nat} {k : Int} (h : a = b) : Ending.returned (.tuple #[.float .f32 a, .int .i64 k]) = .returned (.tuple #[.float .f32 b, .int .i64 k]) := by rw [h]

set_option maxHeartbeats 1000000 in
theorem of32_any (n : Int) (w : World) : Calls Try.prog 34 #[.int .u32 n] w fun r w' => r = .returned (.float .f32 n.toNat) ∧ w' = w := by
  go_enter Try.func34, Try.ntmps34
  go_wp2
  go_ret
  exact ⟨rfl, rfl⟩

set_option maxHeartbeats 1000000 in
theorem ways_0 (s : Bool) (w : World) : Calls Try.prog 37 #[.int .i64 0, .bool s] w fun r w' => r = .returned (.tuple #[.bool true, .bool false, .bool (false)]) ∧ w' = w := by
  go_enter Try.func37, Try.ntmps37
  go_wp2
  go_ret3
  exact ⟨rfl, rfl⟩

set_option maxHeartbeats 1000000 in
theorem ways_1 (s : Bool) (w : World) : Calls Try.prog 37 #[.int .i64 1, .bool s] w fun r w' => r = .returned (.tuple #[.bool false, .bool false, .bool (false)]) ∧ w' = w := by
  go_enter Try.func37, Try.ntmps37
  go_wp2
  go_ret3
  exact ⟨rfl, rfl⟩

set_option maxHeartbeats 1000000 in
theorem ways_2 (s : Bool) (w : World) : Calls Try.prog 37 #[.int .i64 2, .bool s] w fun r w' => r = .returned (.tuple #[.bool false, .bool false, .bool (!s)]) ∧ w' = w := by
  go_enter Try.func37, Try.ntmps37
  go_wp2
  go_ret3
  exact ⟨rfl, rfl⟩

set_option maxHeartbeats 1000000 in
theorem ways_3 (s : Bool) (w : World) : Calls Try.prog 37 #[.int .i64 3, .bool s] w fun r w' => r = .returned (.tuple #[.bool false, .bool false, .bool (s)]) ∧ w' = w := by
  go_enter Try.func37, Try.ntmps37
  go_wp2
  go_ret3
  exact ⟨rfl, rfl⟩

set_option maxHeartbeats 1000000 in
theorem ways_4 (s : Bool) (w : World) : Calls Try.prog 37 #[.int .i64 4, .bool s] w fun r w' => r = .returned (.tuple #[.bool true, .bool true, .bool (false)]) ∧ w' = w := by
  go_enter Try.func37, Try.ntmps37
  go_wp2
  go_ret3
  exact ⟨rfl, rfl⟩

set_option maxHeartbeats 2000000 in
theorem rnw_low (X : Nat) (k : Int) (h : k < 0) (w : World) :
    Calls Try.prog 13 #[.float .f64 X, .int .i64 k] w fun r w' => r = .returned (.tuple #[.float .f32 0, .int .i64 1]) ∧ w' = w := by
  go_enter Try.func13, Try.ntmps13
  go_wp2_with (first
    | (go_at_call 34; refine (of32_any _ _).mono ?_; rintro r w2 ⟨rfl, rfl⟩)
    | (go_at_call 34; refine (of32_any _ _).mono ?_; rintro r w2 ⟨rfl, rfl⟩))
  go_ret2
  exact ⟨rfl, rfl⟩

set_option maxHeartbeats 2000000 in
theorem rnw_high (X : Nat) (k : Int) (h0 : ¬ k < 0) (h : 4 < k) (w : World) :
    Calls Try.prog 13 #[.float .f64 X, .int .i64 k] w fun r w' => r = .returned (.tuple #[.float .f32 0, .int .i64 1]) ∧ w' = w := by
  go_enter Try.func13, Try.ntmps13
  go_wp2_with (first
    | (go_at_call 34; refine (of32_any _ _).mono ?_; rintro r w2 ⟨rfl, rfl⟩)
    | (go_at_call 34; refine (of32_any _ _).mono ?_; rintro r w2 ⟨rfl, rfl⟩))
  go_ret2
  exact ⟨rfl, rfl⟩

set_option maxHeartbeats 2000000 in
theorem rnw_odd_f (X : Nat) (k : Int) (k0 : 0 ≤ k) (k4 : k ≤ 4) (x g : Int) (H0 : Hid (∀ w, Calls Try.prog 35 #[.float .f64 X] w fun r w' => r = .returned (.agg #[.bool false, .int .i64 4, .int .i64 x, .int .u64 g]) ∧ Below w.heap.size w w')) (w : World) :
    Calls Try.prog 13 #[.float .f64 X, .int .i64 k] w fun r w' => r = .returned (.tuple #[.float .f32 2143289344, .int .i64 0]) ∧ Below w.heap.size w w' := by
  go_enter Try.func13, Try.ntmps13
  go_wp2_with fail
  refine (H0.out _).mono ?_
  rintro r w1 ⟨rfl, hb⟩
  go_wp2_with (first
    | (go_at_call 34; refine (of32_any _ _).mono ?_; rintro r w2 ⟨rfl, rfl⟩)
    | (go_at_call 34; refine (of32_any _ _).mono ?_; rintro r w2 ⟨rfl, rfl⟩))
  go_ret2
  exact ⟨rfl, hb.alloc hb.size _⟩

set_option maxHeartbeats 2000000 in
theorem rnw_end_f (X : Nat) (k : Int) (k0 : 0 ≤ k) (k4 : k ≤ 4) (x g : Int) (H0 : Hid (∀ w, Calls Try.prog 35 #[.float .f64 X] w fun r w' => r = .returned (.agg #[.bool false, .int .i64 3, .int .i64 x, .int .u64 g]) ∧ Below w.heap.size w w')) (w : World) :
    Calls Try.prog 13 #[.float .f64 X, .int .i64 k] w fun r w' => r = .returned (.tuple #[.float .f32 2139095040, .int .i64 0]) ∧ Below w.heap.size w w' := by
  go_enter Try.func13, Try.ntmps13
  go_wp2_with fail
  refine (H0.out _).mono ?_
  rintro r w1 ⟨rfl, hb⟩
  go_wp2_with (first
    | (go_at_call 34; refine (of32_any _ _).mono ?_; rintro r w2 ⟨rfl, rfl⟩)
    | (go_at_call 34; refine (of32_any _ _).mono ?_; rintro r w2 ⟨rfl, rfl⟩))
  go_ret2
  exact ⟨rfl, hb.alloc hb.size _⟩

set_option maxHeartbeats 2000000 in
theorem rnw_zero_f (X : Nat) (k : Int) (k0 : 0 ≤ k) (k4 : k ≤ 4) (x g : Int) (H0 : Hid (∀ w, Calls Try.prog 35 #[.float .f64 X] w fun r w' => r = .returned (.agg #[.bool false, .int .i64 0, .int .i64 x, .int .u64 g]) ∧ Below w.heap.size w w')) (w : World) :
    Calls Try.prog 13 #[.float .f64 X, .int .i64 k] w fun r w' => r = .returned (.tuple #[.float .f32 0, .int .i64 0]) ∧ Below w.heap.size w w' := by
  go_enter Try.func13, Try.ntmps13
  go_wp2_with fail
  refine (H0.out _).mono ?_
  rintro r w1 ⟨rfl, hb⟩
  go_wp2_with (first
    | (go_at_call 34; refine (of32_any _ _).mono ?_; rintro r w2 ⟨rfl, rfl⟩)
    | (go_at_call 34; refine (of32_any _ _).mono ?_; rintro r w2 ⟨rfl, rfl⟩))
  go_ret2
  exact ⟨rfl, hb.alloc hb.size _⟩

set_option maxHeartbeats 2000000 in
theorem rnw_big_near_f (X : Nat) (n t v : Bool) (k : Int) (k0 : 0 ≤ k) (k4 : k ≤ 4) (c x g q st : Int) (c4 : (c == 4) = false) (c3 : (c == 3) = false) (c0 : (c == 0) = false) (q0 : 0 ≤ q) (s0 : -149 ≤ st) (H0 : Hid (∀ w, Calls Try.prog 35 #[.float .f64 X] w fun r w' => r = .returned (.agg #[.bool false, .int .i64 c, .int .i64 x, .int .u64 g]) ∧ Below w.heap.size w w')) (H1 : Hid (∀ w, Calls Try.prog 36 #[.agg #[.bool false, .int .i64 c, .int .i64 x, .int .u64 g], .int .i64 k] w fun r w' => r = .returned (.tuple #[.int .u64 q, .int .i64 st]) ∧ Below w.heap.size w w')) (s1 : st ≤ 1100)(f1 : (q == 16777216) = false) (f2 : 104 < st) (wf : n = true) (HW : Hid (∀ w, Calls Try.prog 37 #[.int .i64 k, .bool false] w fun r w' => r = .returned (.tuple #[.bool n, .bool t, .bool v]) ∧ w' = w)) (w : World) :
    Calls Try.prog 13 #[.float .f64 X, .int .i64 k] w fun r w' => r = .returned (.tuple #[.float .f32 2139095040, .int .i64 0]) ∧ Below w.heap.size w w' := by
  go_enter Try.func13, Try.ntmps13
  go_wp2_with fail
  refine (H0.out _).mono ?_
  rintro r w1 ⟨rfl, hb⟩
  subst wf
  go_wp2_with fail
  refine (H1.out _).mono ?_
  rintro r w3 ⟨rfl, hb3⟩
  obtain ⟨hc, hfz⟩ := bcell hb3
  have B3 := (hb.alloc hb.size (.cells #[.bool false, .int .i64 c, .int .i64 x, .int .u64 g] 37)).trans (hb3.mono (by simp; exact Nat.le_succ_of_le hb.size))
  go_wp2_with fail
  refine (HW.out _).mono ?_
  rintro r w4 ⟨rfl, rfl⟩
  go_wp2_with (first
    | (go_at_call 34; refine (of32_any _ _).mono ?_; rintro r w2 ⟨rfl, rfl⟩)
    | (go_at_call 34; refine (of32_any _ _).mono ?_; rintro r w2 ⟨rfl, rfl⟩))
  go_ret2
  exact ⟨rfl, B3⟩

set_option maxHeartbeats 2000000 in
theorem rnw_big_away_f (X : Nat) (n t v : Bool) (k : Int) (k0 : 0 ≤ k) (k4 : k ≤ 4) (c x g q st : Int) (c4 : (c == 4) = false) (c3 : (c == 3) = false) (c0 : (c == 0) = false) (q0 : 0 ≤ q) (s0 : -149 ≤ st) (H0 : Hid (∀ w, Calls Try.prog 35 #[.float .f64 X] w fun r w' => r = .returned (.agg #[.bool false, .int .i64 c, .int .i64 x, .int .u64 g]) ∧ Below w.heap.size w w')) (H1 : Hid (∀ w, Calls Try.prog 36 #[.agg #[.bool false, .int .i64 c, .int .i64 x, .int .u64 g], .int .i64 k] w fun r w' => r = .returned (.tuple #[.int .u64 q, .int .i64 st]) ∧ Below w.heap.size w w')) (s1 : st ≤ 1100)(f1 : (q == 16777216) = false) (f2 : 104 < st) (wf : n = false) (wv : v = true) (HW : Hid (∀ w, Calls Try.prog 37 #[.int .i64 k, .bool false] w fun r w' => r = .returned (.tuple #[.bool n, .bool t, .bool v]) ∧ w' = w)) (w : World) :
    Calls Try.prog 13 #[.float .f64 X, .int .i64 k] w fun r w' => r = .returned (.tuple #[.float .f32 2139095040, .int .i64 0]) ∧ Below w.heap.size w w' := by
  go_enter Try.func13, Try.ntmps13
  go_wp2_with fail
  refine (H0.out _).mono ?_
  rintro r w1 ⟨rfl, hb⟩
  subst wf
  subst wv
  go_wp2_with fail
  refine (H1.out _).mono ?_
  rintro r w3 ⟨rfl, hb3⟩
  obtain ⟨hc, hfz⟩ := bcell hb3
  have B3 := (hb.alloc hb.size (.cells #[.bool false, .int .i64 c, .int .i64 x, .int .u64 g] 37)).trans (hb3.mono (by simp; exact Nat.le_succ_of_le hb.size))
  go_wp2_with fail
  refine (HW.out _).mono ?_
  rintro r w4 ⟨rfl, rfl⟩
  go_wp2_with (first
    | (go_at_call 34; refine (of32_any _ _).mono ?_; rintro r w2 ⟨rfl, rfl⟩)
    | (go_at_call 34; refine (of32_any _ _).mono ?_; rintro r w2 ⟨rfl, rfl⟩))
  go_ret2
  exact ⟨rfl, B3⟩

set_option maxHeartbeats 2000000 in
theorem rnw_big_stay_f (X : Nat) (n t v : Bool) (k : Int) (k0 : 0 ≤ k) (k4 : k ≤ 4) (c x g q st : Int) (c4 : (c == 4) = false) (c3 : (c == 3) = false) (c0 : (c == 0) = false) (q0 : 0 ≤ q) (s0 : -149 ≤ st) (H0 : Hid (∀ w, Calls Try.prog 35 #[.float .f64 X] w fun r w' => r = .returned (.agg #[.bool false, .int .i64 c, .int .i64 x, .int .u64 g]) ∧ Below w.heap.size w w')) (H1 : Hid (∀ w, Calls Try.prog 36 #[.agg #[.bool false, .int .i64 c, .int .i64 x, .int .u64 g], .int .i64 k] w fun r w' => r = .returned (.tuple #[.int .u64 q, .int .i64 st]) ∧ Below w.heap.size w w')) (s1 : st ≤ 1100)(f1 : (q == 16777216) = false) (f2 : 104 < st) (wf : n = false) (wv : v = false) (HW : Hid (∀ w, Calls Try.prog 37 #[.int .i64 k, .bool false] w fun r w' => r = .returned (.tuple #[.bool n, .bool t, .bool v]) ∧ w' = w)) (w : World) :
    Calls Try.prog 13 #[.float .f64 X, .int .i64 k] w fun r w' => r = .returned (.tuple #[.float .f32 2139095039, .int .i64 0]) ∧ Below w.heap.size w w' := by
  go_enter Try.func13, Try.ntmps13
  go_wp2_with fail
  refine (H0.out _).mono ?_
  rintro r w1 ⟨rfl, hb⟩
  subst wf
  subst wv
  go_wp2_with fail
  refine (H1.out _).mono ?_
  rintro r w3 ⟨rfl, hb3⟩
  obtain ⟨hc, hfz⟩ := bcell hb3
  have B3 := (hb.alloc hb.size (.cells #[.bool false, .int .i64 c, .int .i64 x, .int .u64 g] 37)).trans (hb3.mono (by simp; exact Nat.le_succ_of_le hb.size))
  go_wp2_with fail
  refine (HW.out _).mono ?_
  rintro r w4 ⟨rfl, rfl⟩
  go_wp2_with (first
    | (go_at_call 34; refine (of32_any _ _).mono ?_; rintro r w2 ⟨rfl, rfl⟩)
    | (go_at_call 34; refine (of32_any _ _).mono ?_; rintro r w2 ⟨rfl, rfl⟩))
  go_ret2
  exact ⟨rfl, B3⟩

set_option maxHeartbeats 2000000 in
theorem rnw_bigc_near_f (X : Nat) (n t v : Bool) (k : Int) (k0 : 0 ≤ k) (k4 : k ≤ 4) (c x g q st : Int) (c4 : (c == 4) = false) (c3 : (c == 3) = false) (c0 : (c == 0) = false) (q0 : 0 ≤ q) (s0 : -149 ≤ st) (H0 : Hid (∀ w, Calls Try.prog 35 #[.float .f64 X] w fun r w' => r = .returned (.agg #[.bool false, .int .i64 c, .int .i64 x, .int .u64 g]) ∧ Below w.heap.size w w')) (H1 : Hid (∀ w, Calls Try.prog 36 #[.agg #[.bool false, .int .i64 c, .int .i64 x, .int .u64 g], .int .i64 k] w fun r w' => r = .returned (.tuple #[.int .u64 q, .int .i64 st]) ∧ Below w.heap.size w w')) (s1 : st ≤ 1100)(f1 : (q == 16777216) = true) (f2 : 104 < st + 1) (wf : n = true) (HW : Hid (∀ w, Calls Try.prog 37 #[.int .i64 k, .bool false] w fun r w' => r = .returned (.tuple #[.bool n, .bool t, .bool v]) ∧ w' = w)) (w : World) :
    Calls Try.prog 13 #[.float .f64 X, .int .i64 k] w fun r w' => r = .returned (.tuple #[.float .f32 2139095040, .int .i64 0]) ∧ Below w.heap.size w w' := by
  go_enter Try.func13, Try.ntmps13
  go_wp2_with fail
  refine (H0.out _).mono ?_
  rintro r w1 ⟨rfl, hb⟩
  subst wf
  go_wp2_with fail
  refine (H1.out _).mono ?_
  rintro r w3 ⟨rfl, hb3⟩
  obtain ⟨hc, hfz⟩ := bcell hb3
  have B3 := (hb.alloc hb.size (.cells #[.bool false, .int .i64 c, .int .i64 x, .int .u64 g] 37)).trans (hb3.mono (by simp; exact Nat.le_succ_of_le hb.size))
  go_wp2_with fail
  refine (HW.out _).mono ?_
  rintro r w4 ⟨rfl, rfl⟩
  go_wp2_with (first
    | (go_at_call 34; refine (of32_any _ _).mono ?_; rintro r w2 ⟨rfl, rfl⟩)
    | (go_at_call 34; refine (of32_any _ _).mono ?_; rintro r w2 ⟨rfl, rfl⟩))
  go_ret2
  exact ⟨rfl, B3⟩

set_option maxHeartbeats 2000000 in
theorem rnw_bigc_away_f (X : Nat) (n t v : Bool) (k : Int) (k0 : 0 ≤ k) (k4 : k ≤ 4) (c x g q st : Int) (c4 : (c == 4) = false) (c3 : (c == 3) = false) (c0 : (c == 0) = false) (q0 : 0 ≤ q) (s0 : -149 ≤ st) (H0 : Hid (∀ w, Calls Try.prog 35 #[.float .f64 X] w fun r w' => r = .returned (.agg #[.bool false, .int .i64 c, .int .i64 x, .int .u64 g]) ∧ Below w.heap.size w w')) (H1 : Hid (∀ w, Calls Try.prog 36 #[.agg #[.bool false, .int .i64 c, .int .i64 x, .int .u64 g], .int .i64 k] w fun r w' => r = .returned (.tuple #[.int .u64 q, .int .i64 st]) ∧ Below w.heap.size w w')) (s1 : st ≤ 1100)(f1 : (q == 16777216) = true) (f2 : 104 < st + 1) (wf : n = false) (wv : v = true) (HW : Hid (∀ w, Calls Try.prog 37 #[.int .i64 k, .bool false] w fun r w' => r = .returned (.tuple #[.bool n, .bool t, .bool v]) ∧ w' = w)) (w : World) :
    Calls Try.prog 13 #[.float .f64 X, .int .i64 k] w fun r w' => r = .returned (.tuple #[.float .f32 2139095040, .int .i64 0]) ∧ Below w.heap.size w w' := by
  go_enter Try.func13, Try.ntmps13
  go_wp2_with fail
  refine (H0.out _).mono ?_
  rintro r w1 ⟨rfl, hb⟩
  subst wf
  subst wv
  go_wp2_with fail
  refine (H1.out _).mono ?_
  rintro r w3 ⟨rfl, hb3⟩
  obtain ⟨hc, hfz⟩ := bcell hb3
  have B3 := (hb.alloc hb.size (.cells #[.bool false, .int .i64 c, .int .i64 x, .int .u64 g] 37)).trans (hb3.mono (by simp; exact Nat.le_succ_of_le hb.size))
  go_wp2_with fail
  refine (HW.out _).mono ?_
  rintro r w4 ⟨rfl, rfl⟩
  go_wp2_with (first
    | (go_at_call 34; refine (of32_any _ _).mono ?_; rintro r w2 ⟨rfl, rfl⟩)
    | (go_at_call 34; refine (of32_any _ _).mono ?_; rintro r w2 ⟨rfl, rfl⟩))
  go_ret2
  exact ⟨rfl, B3⟩

set_option maxHeartbeats 2000000 in
theorem rnw_bigc_stay_f (X : Nat) (n t v : Bool) (k : Int) (k0 : 0 ≤ k) (k4 : k ≤ 4) (c x g q st : Int) (c4 : (c == 4) = false) (c3 : (c == 3) = false) (c0 : (c == 0) = false) (q0 : 0 ≤ q) (s0 : -149 ≤ st) (H0 : Hid (∀ w, Calls Try.prog 35 #[.float .f64 X] w fun r w' => r = .returned (.agg #[.bool false, .int .i64 c, .int .i64 x, .int .u64 g]) ∧ Below w.heap.size w w')) (H1 : Hid (∀ w, Calls Try.prog 36 #[.agg #[.bool false, .int .i64 c, .int .i64 x, .int .u64 g], .int .i64 k] w fun r w' => r = .returned (.tuple #[.int .u64 q, .int .i64 st]) ∧ Below w.heap.size w w')) (s1 : st ≤ 1100)(f1 : (q == 16777216) = true) (f2 : 104 < st + 1) (wf : n = false) (wv : v = false) (HW : Hid (∀ w, Calls Try.prog 37 #[.int .i64 k, .bool false] w fun r w' => r = .returned (.tuple #[.bool n, .bool t, .bool v]) ∧ w' = w)) (w : World) :
    Calls Try.prog 13 #[.float .f64 X, .int .i64 k] w fun r w' => r = .returned (.tuple #[.float .f32 2139095039, .int .i64 0]) ∧ Below w.heap.size w w' := by
  go_enter Try.func13, Try.ntmps13
  go_wp2_with fail
  refine (H0.out _).mono ?_
  rintro r w1 ⟨rfl, hb⟩
  subst wf
  subst wv
  go_wp2_with fail
  refine (H1.out _).mono ?_
  rintro r w3 ⟨rfl, hb3⟩
  obtain ⟨hc, hfz⟩ := bcell hb3
  have B3 := (hb.alloc hb.size (.cells #[.bool false, .int .i64 c, .int .i64 x, .int .u64 g] 37)).trans (hb3.mono (by simp; exact Nat.le_succ_of_le hb.size))
  go_wp2_with fail
  refine (HW.out _).mono ?_
  rintro r w4 ⟨rfl, rfl⟩
  go_wp2_with (first
    | (go_at_call 34; refine (of32_any _ _).mono ?_; rintro r w2 ⟨rfl, rfl⟩)
    | (go_at_call 34; refine (of32_any _ _).mono ?_; rintro r w2 ⟨rfl, rfl⟩))
  go_ret2
  exact ⟨rfl, B3⟩

set_option maxHeartbeats 2000000 in
theorem rnw_sub_f (X : Nat) (k : Int) (k0 : 0 ≤ k) (k4 : k ≤ 4) (c x g q st : Int) (c4 : (c == 4) = false) (c3 : (c == 3) = false) (c0 : (c == 0) = false) (q0 : 0 ≤ q) (s0 : -149 ≤ st) (H0 : Hid (∀ w, Calls Try.prog 35 #[.float .f64 X] w fun r w' => r = .returned (.agg #[.bool false, .int .i64 c, .int .i64 x, .int .u64 g]) ∧ Below w.heap.size w w')) (H1 : Hid (∀ w, Calls Try.prog 36 #[.agg #[.bool false, .int .i64 c, .int .i64 x, .int .u64 g], .int .i64 k] w fun r w' => r = .returned (.tuple #[.int .u64 q, .int .i64 st]) ∧ Below w.heap.size w w')) (f1 : (q == 16777216) = false) (f2 : ¬ 104 < st) (f3 : q < 8388608) (w : World) :
    Calls Try.prog 13 #[.float .f64 X, .int .i64 k] w fun r w' => r = .returned (.tuple #[.float .f32 q.toNat, .int .i64 0]) ∧ Below w.heap.size w w' := by
  go_enter Try.func13, Try.ntmps13
  go_wp2_with fail
  refine (H0.out _).mono ?_
  rintro r w1 ⟨rfl, hb⟩
  go_wp2_with fail
  refine (H1.out _).mono ?_
  rintro r w3 ⟨rfl, hb3⟩
  obtain ⟨hc, hfz⟩ := bcell hb3
  have B3 := (hb.alloc hb.size (.cells #[.bool false, .int .i64 c, .int .i64 x, .int .u64 g] 37)).trans (hb3.mono (by simp; exact Nat.le_succ_of_le hb.size))
  go_wp2_with (first
    | (go_at_call 34; refine (of32_any _ _).mono ?_; rintro r w2 ⟨rfl, rfl⟩)
    | (go_at_call 34; refine (of32_any _ _).mono ?_; rintro r w2 ⟨rfl, rfl⟩))
  go_ret2
  exact ⟨ret_f32 (by omega), B3⟩

set_option maxHeartbeats 2000000 in
theorem rnw_nrm_f (X : Nat) (k : Int) (k0 : 0 ≤ k) (k4 : k ≤ 4) (c x g q st : Int) (c4 : (c == 4) = false) (c3 : (c == 3) = false) (c0 : (c == 0) = false) (q0 : 0 ≤ q) (s0 : -149 ≤ st) (H0 : Hid (∀ w, Calls Try.prog 35 #[.float .f64 X] w fun r w' => r = .returned (.agg #[.bool false, .int .i64 c, .int .i64 x, .int .u64 g]) ∧ Below w.heap.size w w')) (H1 : Hid (∀ w, Calls Try.prog 36 #[.agg #[.bool false, .int .i64 c, .int .i64 x, .int .u64 g], .int .i64 k] w fun r w' => r = .returned (.tuple #[.int .u64 q, .int .i64 st]) ∧ Below w.heap.size w w')) (f1 : (q == 16777216) = false) (f2 : st ≤ 104) (f3 : 8388608 ≤ q) (f4 : q < 16777216) (w : World) :
    Calls Try.prog 13 #[.float .f64 X, .int .i64 k] w fun r w' => r = .returned (.tuple #[.float .f32 ((st + 150) * 8388608 + q - 8388608 : Int).toNat, .int .i64 0]) ∧ Below w.heap.size w w' := by
  go_enter Try.func13, Try.ntmps13
  go_wp2_with fail
  refine (H0.out _).mono ?_
  rintro r w1 ⟨rfl, hb⟩
  go_wp2_with fail
  refine (H1.out _).mono ?_
  rintro r w3 ⟨rfl, hb3⟩
  obtain ⟨hc, hfz⟩ := bcell hb3
  have B3 := (hb.alloc hb.size (.cells #[.bool false, .int .i64 c, .int .i64 x, .int .u64 g] 37)).trans (hb3.mono (by simp; exact Nat.le_succ_of_le hb.size))
  go_wp2_with (first
    | (go_at_call 34; refine (of32_any _ _).mono ?_; rintro r w2 ⟨rfl, rfl⟩)
    | (go_at_call 34; refine (of32_any _ _).mono ?_; rintro r w2 ⟨rfl, rfl⟩))
  go_ret2
  exact ⟨ret_f32 (by omega), B3⟩

set_option maxHeartbeats 2000000 in
theorem rnw_car_f (X : Nat) (k : Int) (k0 : 0 ≤ k) (k4 : k ≤ 4) (c x g q st : Int) (c4 : (c == 4) = false) (c3 : (c == 3) = false) (c0 : (c == 0) = false) (q0 : 0 ≤ q) (s0 : -149 ≤ st) (H0 : Hid (∀ w, Calls Try.prog 35 #[.float .f64 X] w fun r w' => r = .returned (.agg #[.bool false, .int .i64 c, .int .i64 x, .int .u64 g]) ∧ Below w.heap.size w w')) (H1 : Hid (∀ w, Calls Try.prog 36 #[.agg #[.bool false, .int .i64 c, .int .i64 x, .int .u64 g], .int .i64 k] w fun r w' => r = .returned (.tuple #[.int .u64 q, .int .i64 st]) ∧ Below w.heap.size w w')) (f1 : (q == 16777216) = true) (f2 : st + 1 ≤ 104) (w : World) :
    Calls Try.prog 13 #[.float .f64 X, .int .i64 k] w fun r w' => r = .returned (.tuple #[.float .f32 ((st + 1 + 150) * 8388608 : Int).toNat, .int .i64 0]) ∧ Below w.heap.size w w' := by
  go_enter Try.func13, Try.ntmps13
  go_wp2_with fail
  refine (H0.out _).mono ?_
  rintro r w1 ⟨rfl, hb⟩
  go_wp2_with fail
  refine (H1.out _).mono ?_
  rintro r w3 ⟨rfl, hb3⟩
  obtain ⟨hc, hfz⟩ := bcell hb3
  have B3 := (hb.alloc hb.size (.cells #[.bool false, .int .i64 c, .int .i64 x, .int .u64 g] 37)).trans (hb3.mono (by simp; exact Nat.le_succ_of_le hb.size))
  go_wp2_with (first
    | (go_at_call 34; refine (of32_any _ _).mono ?_; rintro r w2 ⟨rfl, rfl⟩)
    | (go_at_call 34; refine (of32_any _ _).mono ?_; rintro r w2 ⟨rfl, rfl⟩))
  go_ret2
  exact ⟨ret_f32 (by omega), B3⟩

set_option maxHeartbeats 2000000 in
theorem rnw_odd_t (X : Nat) (k : Int) (k0 : 0 ≤ k) (k4 : k ≤ 4) (x g : Int) (H0 : Hid (∀ w, Calls Try.prog 35 #[.float .f64 X] w fun r w' => r = .returned (.agg #[.bool true, .int .i64 4, .int .i64 x, .int .u64 g]) ∧ Below w.heap.size w w')) (w : World) :
    Calls Try.prog 13 #[.float .f64 X, .int .i64 k] w fun r w' => r = .returned (.tuple #[.float .f32 2143289344, .int .i64 0]) ∧ Below w.heap.size w w' := by
  go_enter Try.func13, Try.ntmps13
  go_wp2_with fail
  refine (H0.out _).mono ?_
  rintro r w1 ⟨rfl, hb⟩
  go_wp2_with (first
    | (go_at_call 34; refine (of32_any _ _).mono ?_; rintro r w2 ⟨rfl, rfl⟩)
    | (go_at_call 34; refine (of32_any _ _).mono ?_; rintro r w2 ⟨rfl, rfl⟩))
  go_ret2
  exact ⟨rfl, hb.alloc hb.size _⟩

set_option maxHeartbeats 2000000 in
theorem rnw_end_t (X : Nat) (k : Int) (k0 : 0 ≤ k) (k4 : k ≤ 4) (x g : Int) (H0 : Hid (∀ w, Calls Try.prog 35 #[.float .f64 X] w fun r w' => r = .returned (.agg #[.bool true, .int .i64 3, .int .i64 x, .int .u64 g]) ∧ Below w.heap.size w w')) (w : World) :
    Calls Try.prog 13 #[.float .f64 X, .int .i64 k] w fun r w' => r = .returned (.tuple #[.float .f32 4286578688, .int .i64 0]) ∧ Below w.heap.size w w' := by
  go_enter Try.func13, Try.ntmps13
  go_wp2_with fail
  refine (H0.out _).mono ?_
  rintro r w1 ⟨rfl, hb⟩
  go_wp2_with (first
    | (go_at_call 34; refine (of32_any _ _).mono ?_; rintro r w2 ⟨rfl, rfl⟩)
    | (go_at_call 34; refine (of32_any _ _).mono ?_; rintro r w2 ⟨rfl, rfl⟩))
  go_ret2
  exact ⟨rfl, hb.alloc hb.size _⟩

set_option maxHeartbeats 2000000 in
theorem rnw_zero_t (X : Nat) (k : Int) (k0 : 0 ≤ k) (k4 : k ≤ 4) (x g : Int) (H0 : Hid (∀ w, Calls Try.prog 35 #[.float .f64 X] w fun r w' => r = .returned (.agg #[.bool true, .int .i64 0, .int .i64 x, .int .u64 g]) ∧ Below w.heap.size w w')) (w : World) :
    Calls Try.prog 13 #[.float .f64 X, .int .i64 k] w fun r w' => r = .returned (.tuple #[.float .f32 2147483648, .int .i64 0]) ∧ Below w.heap.size w w' := by
  go_enter Try.func13, Try.ntmps13
  go_wp2_with fail
  refine (H0.out _).mono ?_
  rintro r w1 ⟨rfl, hb⟩
  go_wp2_with (first
    | (go_at_call 34; refine (of32_any _ _).mono ?_; rintro r w2 ⟨rfl, rfl⟩)
    | (go_at_call 34; refine (of32_any _ _).mono ?_; rintro r w2 ⟨rfl, rfl⟩))
  go_ret2
  exact ⟨rfl, hb.alloc hb.size _⟩

set_option maxHeartbeats 2000000 in
theorem rnw_big_near_t (X : Nat) (n t v : Bool) (k : Int) (k0 : 0 ≤ k) (k4 : k ≤ 4) (c x g q st : Int) (c4 : (c == 4) = false) (c3 : (c == 3) = false) (c0 : (c == 0) = false) (q0 : 0 ≤ q) (s0 : -149 ≤ st) (H0 : Hid (∀ w, Calls Try.prog 35 #[.float .f64 X] w fun r w' => r = .returned (.agg #[.bool true, .int .i64 c, .int .i64 x, .int .u64 g]) ∧ Below w.heap.size w w')) (H1 : Hid (∀ w, Calls Try.prog 36 #[.agg #[.bool true, .int .i64 c, .int .i64 x, .int .u64 g], .int .i64 k] w fun r w' => r = .returned (.tuple #[.int .u64 q, .int .i64 st]) ∧ Below w.heap.size w w')) (s1 : st ≤ 1100)(f1 : (q == 16777216) = false) (f2 : 104 < st) (wf : n = true) (HW : Hid (∀ w, Calls Try.prog 37 #[.int .i64 k, .bool true] w fun r w' => r = .returned (.tuple #[.bool n, .bool t, .bool v]) ∧ w' = w)) (w : World) :
    Calls Try.prog 13 #[.float .f64 X, .int .i64 k] w fun r w' => r = .returned (.tuple #[.float .f32 4286578688, .int .i64 0]) ∧ Below w.heap.size w w' := by
  go_enter Try.func13, Try.ntmps13
  go_wp2_with fail
  refine (H0.out _).mono ?_
  rintro r w1 ⟨rfl, hb⟩
  subst wf
  go_wp2_with fail
  refine (H1.out _).mono ?_
  rintro r w3 ⟨rfl, hb3⟩
  obtain ⟨hc, hfz⟩ := bcell hb3
  have B3 := (hb.alloc hb.size (.cells #[.bool true, .int .i64 c, .int .i64 x, .int .u64 g] 37)).trans (hb3.mono (by simp; exact Nat.le_succ_of_le hb.size))
  go_wp2_with fail
  refine (HW.out _).mono ?_
  rintro r w4 ⟨rfl, rfl⟩
  go_wp2_with (first
    | (go_at_call 34; refine (of32_any _ _).mono ?_; rintro r w2 ⟨rfl, rfl⟩)
    | (go_at_call 34; refine (of32_any _ _).mono ?_; rintro r w2 ⟨rfl, rfl⟩))
  go_ret2
  exact ⟨rfl, B3⟩

set_option maxHeartbeats 2000000 in
theorem rnw_big_away_t (X : Nat) (n t v : Bool) (k : Int) (k0 : 0 ≤ k) (k4 : k ≤ 4) (c x g q st : Int) (c4 : (c == 4) = false) (c3 : (c == 3) = false) (c0 : (c == 0) = false) (q0 : 0 ≤ q) (s0 : -149 ≤ st) (H0 : Hid (∀ w, Calls Try.prog 35 #[.float .f64 X] w fun r w' => r = .returned (.agg #[.bool true, .int .i64 c, .int .i64 x, .int .u64 g]) ∧ Below w.heap.size w w')) (H1 : Hid (∀ w, Calls Try.prog 36 #[.agg #[.bool true, .int .i64 c, .int .i64 x, .int .u64 g], .int .i64 k] w fun r w' => r = .returned (.tuple #[.int .u64 q, .int .i64 st]) ∧ Below w.heap.size w w')) (s1 : st ≤ 1100)(f1 : (q == 16777216) = false) (f2 : 104 < st) (wf : n = false) (wv : v = true) (HW : Hid (∀ w, Calls Try.prog 37 #[.int .i64 k, .bool true] w fun r w' => r = .returned (.tuple #[.bool n, .bool t, .bool v]) ∧ w' = w)) (w : World) :
    Calls Try.prog 13 #[.float .f64 X, .int .i64 k] w fun r w' => r = .returned (.tuple #[.float .f32 4286578688, .int .i64 0]) ∧ Below w.heap.size w w' := by
  go_enter Try.func13, Try.ntmps13
  go_wp2_with fail
  refine (H0.out _).mono ?_
  rintro r w1 ⟨rfl, hb⟩
  subst wf
  subst wv
  go_wp2_with fail
  refine (H1.out _).mono ?_
  rintro r w3 ⟨rfl, hb3⟩
  obtain ⟨hc, hfz⟩ := bcell hb3
  have B3 := (hb.alloc hb.size (.cells #[.bool true, .int .i64 c, .int .i64 x, .int .u64 g] 37)).trans (hb3.mono (by simp; exact Nat.le_succ_of_le hb.size))
  go_wp2_with fail
  refine (HW.out _).mono ?_
  rintro r w4 ⟨rfl, rfl⟩
  go_wp2_with (first
    | (go_at_call 34; refine (of32_any _ _).mono ?_; rintro r w2 ⟨rfl, rfl⟩)
    | (go_at_call 34; refine (of32_any _ _).mono ?_; rintro r w2 ⟨rfl, rfl⟩))
  go_ret2
  exact ⟨rfl, B3⟩

set_option maxHeartbeats 2000000 in
theorem rnw_big_stay_t (X : Nat) (n t v : Bool) (k : Int) (k0 : 0 ≤ k) (k4 : k ≤ 4) (c x g q st : Int) (c4 : (c == 4) = false) (c3 : (c == 3) = false) (c0 : (c == 0) = false) (q0 : 0 ≤ q) (s0 : -149 ≤ st) (H0 : Hid (∀ w, Calls Try.prog 35 #[.float .f64 X] w fun r w' => r = .returned (.agg #[.bool true, .int .i64 c, .int .i64 x, .int .u64 g]) ∧ Below w.heap.size w w')) (H1 : Hid (∀ w, Calls Try.prog 36 #[.agg #[.bool true, .int .i64 c, .int .i64 x, .int .u64 g], .int .i64 k] w fun r w' => r = .returned (.tuple #[.int .u64 q, .int .i64 st]) ∧ Below w.heap.size w w')) (s1 : st ≤ 1100)(f1 : (q == 16777216) = false) (f2 : 104 < st) (wf : n = false) (wv : v = false) (HW : Hid (∀ w, Calls Try.prog 37 #[.int .i64 k, .bool true] w fun r w' => r = .returned (.tuple #[.bool n, .bool t, .bool v]) ∧ w' = w)) (w : World) :
    Calls Try.prog 13 #[.float .f64 X, .int .i64 k] w fun r w' => r = .returned (.tuple #[.float .f32 4286578687, .int .i64 0]) ∧ Below w.heap.size w w' := by
  go_enter Try.func13, Try.ntmps13
  go_wp2_with fail
  refine (H0.out _).mono ?_
  rintro r w1 ⟨rfl, hb⟩
  subst wf
  subst wv
  go_wp2_with fail
  refine (H1.out _).mono ?_
  rintro r w3 ⟨rfl, hb3⟩
  obtain ⟨hc, hfz⟩ := bcell hb3
  have B3 := (hb.alloc hb.size (.cells #[.bool true, .int .i64 c, .int .i64 x, .int .u64 g] 37)).trans (hb3.mono (by simp; exact Nat.le_succ_of_le hb.size))
  go_wp2_with fail
  refine (HW.out _).mono ?_
  rintro r w4 ⟨rfl, rfl⟩
  go_wp2_with (first
    | (go_at_call 34; refine (of32_any _ _).mono ?_; rintro r w2 ⟨rfl, rfl⟩)
    | (go_at_call 34; refine (of32_any _ _).mono ?_; rintro r w2 ⟨rfl, rfl⟩))
  go_ret2
  exact ⟨rfl, B3⟩

set_option maxHeartbeats 2000000 in
theorem rnw_bigc_near_t (X : Nat) (n t v : Bool) (k : Int) (k0 : 0 ≤ k) (k4 : k ≤ 4) (c x g q st : Int) (c4 : (c == 4) = false) (c3 : (c == 3) = false) (c0 : (c == 0) = false) (q0 : 0 ≤ q) (s0 : -149 ≤ st) (H0 : Hid (∀ w, Calls Try.prog 35 #[.float .f64 X] w fun r w' => r = .returned (.agg #[.bool true, .int .i64 c, .int .i64 x, .int .u64 g]) ∧ Below w.heap.size w w')) (H1 : Hid (∀ w, Calls Try.prog 36 #[.agg #[.bool true, .int .i64 c, .int .i64 x, .int .u64 g], .int .i64 k] w fun r w' => r = .returned (.tuple #[.int .u64 q, .int .i64 st]) ∧ Below w.heap.size w w')) (s1 : st ≤ 1100)(f1 : (q == 16777216) = true) (f2 : 104 < st + 1) (wf : n = true) (HW : Hid (∀ w, Calls Try.prog 37 #[.int .i64 k, .bool true] w fun r w' => r = .returned (.tuple #[.bool n, .bool t, .bool v]) ∧ w' = w)) (w : World) :
    Calls Try.prog 13 #[.float .f64 X, .int .i64 k] w fun r w' => r = .returned (.tuple #[.float .f32 4286578688, .int .i64 0]) ∧ Below w.heap.size w w' := by
  go_enter Try.func13, Try.ntmps13
  go_wp2_with fail
  refine (H0.out _).mono ?_
  rintro r w1 ⟨rfl, hb⟩
  subst wf
  go_wp2_with fail
  refine (H1.out _).mono ?_
  rintro r w3 ⟨rfl, hb3⟩
  obtain ⟨hc, hfz⟩ := bcell hb3
  have B3 := (hb.alloc hb.size (.cells #[.bool true, .int .i64 c, .int .i64 x, .int .u64 g] 37)).trans (hb3.mono (by simp; exact Nat.le_succ_of_le hb.size))
  go_wp2_with fail
  refine (HW.out _).mono ?_
  rintro r w4 ⟨rfl, rfl⟩
  go_wp2_with (first
    | (go_at_call 34; refine (of32_any _ _).mono ?_; rintro r w2 ⟨rfl, rfl⟩)
    | (go_at_call 34; refine (of32_any _ _).mono ?_; rintro r w2 ⟨rfl, rfl⟩))
  go_ret2
  exact ⟨rfl, B3⟩

set_option maxHeartbeats 2000000 in
theorem rnw_bigc_away_t (X : Nat) (n t v : Bool) (k : Int) (k0 : 0 ≤ k) (k4 : k ≤ 4) (c x g q st : Int) (c4 : (c == 4) = false) (c3 : (c == 3) = false) (c0 : (c == 0) = false) (q0 : 0 ≤ q) (s0 : -149 ≤ st) (H0 : Hid (∀ w, Calls Try.prog 35 #[.float .f64 X] w fun r w' => r = .returned (.agg #[.bool true, .int .i64 c, .int .i64 x, .int .u64 g]) ∧ Below w.heap.size w w')) (H1 : Hid (∀ w, Calls Try.prog 36 #[.agg #[.bool true, .int .i64 c, .int .i64 x, .int .u64 g], .int .i64 k] w fun r w' => r = .returned (.tuple #[.int .u64 q, .int .i64 st]) ∧ Below w.heap.size w w')) (s1 : st ≤ 1100)(f1 : (q == 16777216) = true) (f2 : 104 < st + 1) (wf : n = false) (wv : v = true) (HW : Hid (∀ w, Calls Try.prog 37 #[.int .i64 k, .bool true] w fun r w' => r = .returned (.tuple #[.bool n, .bool t, .bool v]) ∧ w' = w)) (w : World) :
    Calls Try.prog 13 #[.float .f64 X, .int .i64 k] w fun r w' => r = .returned (.tuple #[.float .f32 4286578688, .int .i64 0]) ∧ Below w.heap.size w w' := by
  go_enter Try.func13, Try.ntmps13
  go_wp2_with fail
  refine (H0.out _).mono ?_
  rintro r w1 ⟨rfl, hb⟩
  subst wf
  subst wv
  go_wp2_with fail
  refine (H1.out _).mono ?_
  rintro r w3 ⟨rfl, hb3⟩
  obtain ⟨hc, hfz⟩ := bcell hb3
  have B3 := (hb.alloc hb.size (.cells #[.bool true, .int .i64 c, .int .i64 x, .int .u64 g] 37)).trans (hb3.mono (by simp; exact Nat.le_succ_of_le hb.size))
  go_wp2_with fail
  refine (HW.out _).mono ?_
  rintro r w4 ⟨rfl, rfl⟩
  go_wp2_with (first
    | (go_at_call 34; refine (of32_any _ _).mono ?_; rintro r w2 ⟨rfl, rfl⟩)
    | (go_at_call 34; refine (of32_any _ _).mono ?_; rintro r w2 ⟨rfl, rfl⟩))
  go_ret2
  exact ⟨rfl, B3⟩

set_option maxHeartbeats 2000000 in
theorem rnw_bigc_stay_t (X : Nat) (n t v : Bool) (k : Int) (k0 : 0 ≤ k) (k4 : k ≤ 4) (c x g q st : Int) (c4 : (c == 4) = false) (c3 : (c == 3) = false) (c0 : (c == 0) = false) (q0 : 0 ≤ q) (s0 : -149 ≤ st) (H0 : Hid (∀ w, Calls Try.prog 35 #[.float .f64 X] w fun r w' => r = .returned (.agg #[.bool true, .int .i64 c, .int .i64 x, .int .u64 g]) ∧ Below w.heap.size w w')) (H1 : Hid (∀ w, Calls Try.prog 36 #[.agg #[.bool true, .int .i64 c, .int .i64 x, .int .u64 g], .int .i64 k] w fun r w' => r = .returned (.tuple #[.int .u64 q, .int .i64 st]) ∧ Below w.heap.size w w')) (s1 : st ≤ 1100)(f1 : (q == 16777216) = true) (f2 : 104 < st + 1) (wf : n = false) (wv : v = false) (HW : Hid (∀ w, Calls Try.prog 37 #[.int .i64 k, .bool true] w fun r w' => r = .returned (.tuple #[.bool n, .bool t, .bool v]) ∧ w' = w)) (w : World) :
    Calls Try.prog 13 #[.float .f64 X, .int .i64 k] w fun r w' => r = .returned (.tuple #[.float .f32 4286578687, .int .i64 0]) ∧ Below w.heap.size w w' := by
  go_enter Try.func13, Try.ntmps13
  go_wp2_with fail
  refine (H0.out _).mono ?_
  rintro r w1 ⟨rfl, hb⟩
  subst wf
  subst wv
  go_wp2_with fail
  refine (H1.out _).mono ?_
  rintro r w3 ⟨rfl, hb3⟩
  obtain ⟨hc, hfz⟩ := bcell hb3
  have B3 := (hb.alloc hb.size (.cells #[.bool true, .int .i64 c, .int .i64 x, .int .u64 g] 37)).trans (hb3.mono (by simp; exact Nat.le_succ_of_le hb.size))
  go_wp2_with fail
  refine (HW.out _).mono ?_
  rintro r w4 ⟨rfl, rfl⟩
  go_wp2_with (first
    | (go_at_call 34; refine (of32_any _ _).mono ?_; rintro r w2 ⟨rfl, rfl⟩)
    | (go_at_call 34; refine (of32_any _ _).mono ?_; rintro r w2 ⟨rfl, rfl⟩))
  go_ret2
  exact ⟨rfl, B3⟩

set_option maxHeartbeats 2000000 in
theorem rnw_sub_t (X : Nat) (k : Int) (k0 : 0 ≤ k) (k4 : k ≤ 4) (c x g q st : Int) (c4 : (c == 4) = false) (c3 : (c == 3) = false) (c0 : (c == 0) = false) (q0 : 0 ≤ q) (s0 : -149 ≤ st) (H0 : Hid (∀ w, Calls Try.prog 35 #[.float .f64 X] w fun r w' => r = .returned (.agg #[.bool true, .int .i64 c, .int .i64 x, .int .u64 g]) ∧ Below w.heap.size w w')) (H1 : Hid (∀ w, Calls Try.prog 36 #[.agg #[.bool true, .int .i64 c, .int .i64 x, .int .u64 g], .int .i64 k] w fun r w' => r = .returned (.tuple #[.int .u64 q, .int .i64 st]) ∧ Below w.heap.size w w')) (f1 : (q == 16777216) = false) (f2 : ¬ 104 < st) (f3 : q < 8388608) (w : World) :
    Calls Try.prog 13 #[.float .f64 X, .int .i64 k] w fun r w' => r = .returned (.tuple #[.float .f32 (2147483648 + q : Int).toNat, .int .i64 0]) ∧ Below w.heap.size w w' := by
  go_enter Try.func13, Try.ntmps13
  go_wp2_with fail
  refine (H0.out _).mono ?_
  rintro r w1 ⟨rfl, hb⟩
  go_wp2_with fail
  refine (H1.out _).mono ?_
  rintro r w3 ⟨rfl, hb3⟩
  obtain ⟨hc, hfz⟩ := bcell hb3
  have B3 := (hb.alloc hb.size (.cells #[.bool true, .int .i64 c, .int .i64 x, .int .u64 g] 37)).trans (hb3.mono (by simp; exact Nat.le_succ_of_le hb.size))
  go_wp2_with (first
    | (go_at_call 34; refine (of32_any _ _).mono ?_; rintro r w2 ⟨rfl, rfl⟩)
    | (go_at_call 34; refine (of32_any _ _).mono ?_; rintro r w2 ⟨rfl, rfl⟩))
  go_ret2
  exact ⟨ret_f32 (by omega), B3⟩

set_option maxHeartbeats 2000000 in
theorem rnw_nrm_t (X : Nat) (k : Int) (k0 : 0 ≤ k) (k4 : k ≤ 4) (c x g q st : Int) (c4 : (c == 4) = false) (c3 : (c == 3) = false) (c0 : (c == 0) = false) (q0 : 0 ≤ q) (s0 : -149 ≤ st) (H0 : Hid (∀ w, Calls Try.prog 35 #[.float .f64 X] w fun r w' => r = .returned (.agg #[.bool true, .int .i64 c, .int .i64 x, .int .u64 g]) ∧ Below w.heap.size w w')) (H1 : Hid (∀ w, Calls Try.prog 36 #[.agg #[.bool true, .int .i64 c, .int .i64 x, .int .u64 g], .int .i64 k] w fun r w' => r = .returned (.tuple #[.int .u64 q, .int .i64 st]) ∧ Below w.heap.size w w')) (f1 : (q == 16777216) = false) (f2 : st ≤ 104) (f3 : 8388608 ≤ q) (f4 : q < 16777216) (w : World) :
    Calls Try.prog 13 #[.float .f64 X, .int .i64 k] w fun r w' => r = .returned (.tuple #[.float .f32 (2147483648 + (st + 150) * 8388608 + q - 8388608 : Int).toNat, .int .i64 0]) ∧ Below w.heap.size w w' := by
  go_enter Try.func13, Try.ntmps13
  go_wp2_with fail
  refine (H0.out _).mono ?_
  rintro r w1 ⟨rfl, hb⟩
  go_wp2_with fail
  refine (H1.out _).mono ?_
  rintro r w3 ⟨rfl, hb3⟩
  obtain ⟨hc, hfz⟩ := bcell hb3
  have B3 := (hb.alloc hb.size (.cells #[.bool true, .int .i64 c, .int .i64 x, .int .u64 g] 37)).trans (hb3.mono (by simp; exact Nat.le_succ_of_le hb.size))
  go_wp2_with (first
    | (go_at_call 34; refine (of32_any _ _).mono ?_; rintro r w2 ⟨rfl, rfl⟩)
    | (go_at_call 34; refine (of32_any _ _).mono ?_; rintro r w2 ⟨rfl, rfl⟩))
  go_ret2
  exact ⟨ret_f32 (by omega), B3⟩

set_option maxHeartbeats 2000000 in
theorem rnw_car_t (X : Nat) (k : Int) (k0 : 0 ≤ k) (k4 : k ≤ 4) (c x g q st : Int) (c4 : (c == 4) = false) (c3 : (c == 3) = false) (c0 : (c == 0) = false) (q0 : 0 ≤ q) (s0 : -149 ≤ st) (H0 : Hid (∀ w, Calls Try.prog 35 #[.float .f64 X] w fun r w' => r = .returned (.agg #[.bool true, .int .i64 c, .int .i64 x, .int .u64 g]) ∧ Below w.heap.size w w')) (H1 : Hid (∀ w, Calls Try.prog 36 #[.agg #[.bool true, .int .i64 c, .int .i64 x, .int .u64 g], .int .i64 k] w fun r w' => r = .returned (.tuple #[.int .u64 q, .int .i64 st]) ∧ Below w.heap.size w w')) (f1 : (q == 16777216) = true) (f2 : st + 1 ≤ 104) (w : World) :
    Calls Try.prog 13 #[.float .f64 X, .int .i64 k] w fun r w' => r = .returned (.tuple #[.float .f32 (2147483648 + (st + 1 + 150) * 8388608 : Int).toNat, .int .i64 0]) ∧ Below w.heap.size w w' := by
  go_enter Try.func13, Try.ntmps13
  go_wp2_with fail
  refine (H0.out _).mono ?_
  rintro r w1 ⟨rfl, hb⟩
  go_wp2_with fail
  refine (H1.out _).mono ?_
  rintro r w3 ⟨rfl, hb3⟩
  obtain ⟨hc, hfz⟩ := bcell hb3
  have B3 := (hb.alloc hb.size (.cells #[.bool true, .int .i64 c, .int .i64 x, .int .u64 g] 37)).trans (hb3.mono (by simp; exact Nat.le_succ_of_le hb.size))
  go_wp2_with (first
    | (go_at_call 34; refine (of32_any _ _).mono ?_; rintro r w2 ⟨rfl, rfl⟩)
    | (go_at_call 34; refine (of32_any _ _).mono ?_; rintro r w2 ⟨rfl, rfl⟩))
  go_ret2
  exact ⟨ret_f32 (by omega), B3⟩
end Go.Proofs.Ytedknjiipmppgab
