/- What the document's place and Order answer, at every number. -/
import Derived.Test.YtedknjiipmppgabW6
namespace Go.Proofs.Ytedknjiipmppgab
open Go.RowKit
attribute [local go_sem] f64bits f64frombits

theorem ret_i {a b : Int} (h : a = b) : Ending.returned (.int .i64 a) = .returned (.int .i64 b) := by rw [h]

set_option maxHeartbeats 1000000 in
theorem place_neg (X : Nat) (b k : Int) (h0 : 9223372036854775808 ≤ b) (h1 : b < 18446744073709551616) (hk : Hid (k = -1 - (b - 9223372036854775808)))
    (H1 : Hid (∀ w, Calls Try.prog 50 #[.float .f64 X] w fun r w' => r = .returned (.int .u64 b) ∧ w' = w)) (w : World) :
    Calls Try.prog 28 #[.float .f64 X] w fun r w' => r = .returned (.int .i64 k) ∧ w' = w := by
  go_enter Try.func28, Try.ntmps28
  go_wp2_with (go_at_call 50; refine (H1.out _).mono ?_; rintro r w1 ⟨rfl, rfl⟩)
  go_ret
  exact ⟨ret_i (by have := hk.out; omega), rfl⟩

set_option maxHeartbeats 1000000 in
theorem place_pos (X : Nat) (b k : Int) (h0 : 0 ≤ b) (h1 : b < 9223372036854775808) (hk : Hid (k = b))
    (H1 : Hid (∀ w, Calls Try.prog 50 #[.float .f64 X] w fun r w' => r = .returned (.int .u64 b) ∧ w' = w)) (w : World) :
    Calls Try.prog 28 #[.float .f64 X] w fun r w' => r = .returned (.int .i64 k) ∧ w' = w := by
  go_enter Try.func28, Try.ntmps28
  go_wp2_with (go_at_call 50; refine (H1.out _).mono ?_; rintro r w1 ⟨rfl, rfl⟩)
  go_ret
  exact ⟨ret_i (by have := hk.out; omega), rfl⟩

theorem place_any (s : Bool) (e f : Nat) (he : e < 2048) (hf : f < 4503599627370496) (w : World) :
    Calls Try.prog 28 #[.float .f64 (bw s e f)] w fun r w' => r = .returned (.int .i64 (ky s e f)) ∧ w' = w := by
  have hB := rBits_any s e f he hf
  cases ho : odd e f
  · rw [cb_else s e f (not_odd e f ho)] at hB
    have hl := bw_lt s e f he hf
    rw [ky_else s e f ho]
    cases s
    · refine place_pos _ _ _ (by omega) ?_ ?_ hB w
      · unfold bw; simp only [Bool.toNat_false]; omega
      · show _ = _
        unfold bw; simp only [Bool.toNat_false, Bool.false_eq_true, if_false]; omega
    · refine place_neg _ _ _ ?_ (by omega) ?_ hB w
      · unfold bw; simp only [Bool.toNat_true]; omega
      · show _ = _
        unfold bw; simp only [Bool.toNat_true, if_true]; omega
  · rw [cb_odd s e f (is_odd e f ho)] at hB
    rw [ky_odd s e f ho]
    exact place_pos _ 9221120237041090560 _ (by omega) (by omega) rfl hB w

set_option maxHeartbeats 1000000 in
theorem rorder_core (X Y : Nat) (a b c : Int) (hc : a < b ∧ c = -1 ∨ b < a ∧ c = 1 ∨ a = b ∧ c = 0)
    (H1 : Hid (∀ w, Calls Try.prog 28 #[.float .f64 X] w fun r w' => r = .returned (.int .i64 a) ∧ w' = w))
    (H2 : Hid (∀ w, Calls Try.prog 28 #[.float .f64 Y] w fun r w' => r = .returned (.int .i64 b) ∧ w' = w)) (w : World) :
    Calls Try.prog 10 #[.float .f64 X, .float .f64 Y] w fun r w' => r = .returned (.int .i64 c) ∧ w' = w := by
  rcases hc with ⟨h1, rfl⟩ | ⟨h1, rfl⟩ | ⟨h1, rfl⟩
  · go_enter Try.func10, Try.ntmps10
    go_wp2_with fail
    refine (H1.out _).mono ?_
    rintro r w1 ⟨rfl, rfl⟩
    go_wp2_with fail
    refine (H2.out _).mono ?_
    rintro r w2 ⟨rfl, rfl⟩
    go_wp2_with fail
    go_ret
    exact ⟨rfl, rfl⟩
  · have h2 : ¬ a < b := by omega
    go_enter Try.func10, Try.ntmps10
    go_wp2_with fail
    refine (H1.out _).mono ?_
    rintro r w1 ⟨rfl, rfl⟩
    go_wp2_with fail
    refine (H2.out _).mono ?_
    rintro r w2 ⟨rfl, rfl⟩
    go_wp2_with fail
    go_ret
    exact ⟨rfl, rfl⟩
  · subst h1
    go_enter Try.func10, Try.ntmps10
    go_wp2_with fail
    refine (H1.out _).mono ?_
    rintro r w1 ⟨rfl, rfl⟩
    go_wp2_with fail
    refine (H2.out _).mono ?_
    rintro r w2 ⟨rfl, rfl⟩
    go_wp2_with fail
    go_ret
    exact ⟨rfl, rfl⟩

theorem rorder_any (s t : Bool) (e f u v : Nat) (he : e < 2048) (hf : f < 4503599627370496) (hu : u < 2048) (hv : v < 4503599627370496) (w : World) :
    Calls Try.prog 10 #[.float .f64 (bw s e f), .float .f64 (bw t u v)] w fun r w' => r = .returned (.int .i64 (oc (ky s e f) (ky t u v))) ∧ w' = w := by
  refine rorder_core _ _ (ky s e f) (ky t u v) _ ?_ (place_any s e f he hf) (place_any t u v hu hv) w
  unfold oc
  by_cases h : ky s e f < ky t u v
  · rw [if_pos h]; exact Or.inl ⟨h, rfl⟩
  · rw [if_neg h]
    by_cases h2 : ky t u v < ky s e f
    · rw [if_pos h2]; exact Or.inr (Or.inl ⟨h2, rfl⟩)
    · rw [if_neg h2]; exact Or.inr (Or.inr ⟨by omega, rfl⟩)
end Go.Proofs.Ytedknjiipmppgab
