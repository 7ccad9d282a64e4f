/- What Less and Prev of the document, and both Ulps answer, at every number. -/
import Derived.Test.YtedknjiipmppgaaW14
namespace Go.Proofs.Ytedknjiipmppgaa
open Go.RowKit
attribute [local go_sem] f64bits f64frombits

set_option maxHeartbeats 1000000 in
theorem less_odd (s : Bool) (e f : Nat) (he : e < 2048) (hf : f < 4503599627370496) (ho : odd e f = true) (w : World) :
    Calls Try.prog 42 #[.float .f64 (bw s e f)] w fun r w' => r = .returned (.float .f64 9221120237041090560) ∧ w' = w := by
  have H1 : Hid (∀ w, Calls Try.prog 35 #[.float .f64 (bw s e f)] w fun r w' => r = .returned (.int .u64 9221120237041090560) ∧ w' = w) := by
    have hB := rBits_any s e f he hf
    rw [cb_odd s e f (is_odd e f ho)] at hB
    exact hB
  clear ho
  go_enter Try.func42, Try.ntmps42
  go_wp2_with (first
    | (go_at_call 35; refine (H1.out _).mono ?_; rintro r w1 ⟨rfl, rfl⟩)
    | (go_at_call 39; refine (of_any _ _).mono ?_; rintro r w1 ⟨rfl, rfl⟩))
  go_ret
  exact ⟨rfl, rfl⟩

set_option maxHeartbeats 1000000 in
theorem less_neg (B : Nat) (b : Int) (h0 : 9223372036854775808 ≤ b) (h1 : b < 18446744073709551616) (h2 : (b == 9221120237041090560) = false) (C : Nat) (hC : Hid ((b - 9223372036854775808).toNat = C))
    (H1 : Hid (∀ w, Calls Try.prog 35 #[.float .f64 B] w fun r w' => r = .returned (.int .u64 b) ∧ w' = w)) (w : World) :
    Calls Try.prog 42 #[.float .f64 B] w fun r w' => r = .returned (.float .f64 C) ∧ w' = w := by
  go_enter Try.func42, Try.ntmps42
  go_wp2_with (first
    | (go_at_call 35; refine (H1.out _).mono ?_; rintro r w1 ⟨rfl, rfl⟩)
    | (go_at_call 39; refine (of_any _ _).mono ?_; rintro r w1 ⟨rfl, rfl⟩))
  go_ret
  exact ⟨ret_flt (by have := hC.out; omega), rfl⟩

set_option maxHeartbeats 1000000 in
theorem less_pos (B : Nat) (b : Int) (h0 : 0 ≤ b) (h1 : b < 9223372036854775808) (h2 : (b == 9221120237041090560) = false) (C : Nat) (hC : Hid ((b + 9223372036854775808).toNat = C))
    (H1 : Hid (∀ w, Calls Try.prog 35 #[.float .f64 B] w fun r w' => r = .returned (.int .u64 b) ∧ w' = w)) (w : World) :
    Calls Try.prog 42 #[.float .f64 B] w fun r w' => r = .returned (.float .f64 C) ∧ w' = w := by
  go_enter Try.func42, Try.ntmps42
  go_wp2_with (first
    | (go_at_call 35; refine (H1.out _).mono ?_; rintro r w1 ⟨rfl, rfl⟩)
    | (go_at_call 39; refine (of_any _ _).mono ?_; rintro r w1 ⟨rfl, rfl⟩))
  go_ret
  exact ⟨ret_flt (by have := hC.out; omega), rfl⟩

theorem less_even (s : Bool) (e f : Nat) (he : e < 2048) (hf : f < 4503599627370496) (ho : odd e f = false) (w : World) :
    Calls Try.prog 42 #[.float .f64 (bw s e f)] w fun r w' => r = .returned (.float .f64 (bw (!s) e f)) ∧ w' = w := by
  have hB := rBits_any s e f he hf
  rw [cb_else s e f (not_odd e f ho)] at hB
  have hn := bw_ne_nan s e f he hf ho
  have hl := bw_lt s e f he hf
  cases s
  · refine less_pos _ _ (by omega) ?_ (beqf (by omega)) _ ?_ hB w
    · unfold bw; simp only [Bool.toNat_false]; omega
    · show _ = _
      unfold bw; simp only [Bool.toNat_false, Bool.not_false, Bool.toNat_true]; omega
  · refine less_neg _ _ ?_ (by omega) (beqf (by omega)) _ ?_ hB w
    · unfold bw; simp only [Bool.toNat_true]; omega
    · show _ = _
      unfold bw; simp only [Bool.toNat_false, Bool.not_true, Bool.toNat_true]; omega

set_option maxHeartbeats 1000000 in
theorem rprev_core (X Y Z R : Nat)
    (H1 : Hid (∀ w, Calls Try.prog 42 #[.float .f64 X] w fun r w' => r = .returned (.float .f64 Y) ∧ w' = w))
    (H2 : Hid (∀ w, Calls Try.prog 23 #[.float .f64 Y] w fun r w' => r = .returned (.float .f64 Z) ∧ Below w.heap.size w w'))
    (H3 : Hid (∀ w, Calls Try.prog 42 #[.float .f64 Z] w fun r w' => r = .returned (.float .f64 R) ∧ w' = w)) (w : World) :
    Calls Try.prog 25 #[.float .f64 X] w fun r w' => r = .returned (.float .f64 R) ∧ Below w.heap.size w w' := by
  go_enter Try.func25, Try.ntmps25
  go_wp2_with fail
  refine (H1.out _).mono ?_
  rintro r w1 ⟨rfl, rfl⟩
  go_wp2_with fail
  refine (H2.out _).mono ?_
  rintro r w2 ⟨rfl, hb⟩
  go_wp2_with fail
  refine (H3.out _).mono ?_
  rintro r w3 ⟨rfl, rfl⟩
  go_wp2_with fail
  go_ret
  exact ⟨rfl, hb⟩

/-- both Prevs answer alike. -/
theorem prevs_alike (s : Bool) (e f : Nat) (he : e < 2048) (hf : f < 4503599627370496) : ∃ R : Nat,
    (∀ w, Calls Try.prog 24 #[.float .f64 (bw s e f)] w fun r w' => r = .returned (.float .f64 R) ∧ w' = w) ∧
    (∀ w, Calls Try.prog 25 #[.float .f64 (bw s e f)] w fun r w' => r = .returned (.float .f64 R) ∧ Below w.heap.size w w') := by
  cases ho : odd e f
  · obtain ⟨t, u, v, hu, hv, hov, hn⟩ := nx_bw (!s) e f he hf ho
    refine ⟨bw (!t) u v, fun w => prev_even s e f he hf ho t u v hu hv hn w, fun w => ?_⟩
    refine rprev_core _ _ _ _ (less_even s e f he hf ho) (rnext_any (!s) e f he hf) ?_ w
    rw [hn]
    exact less_even t u v hu hv hov
  · refine ⟨9221120237041090560, fun w => prev_odd s e f he hf ho w, fun w => ?_⟩
    have hn : bw false 2047 2251799813685248 = 9221120237041090560 := rfl
    have ho2 : odd 2047 2251799813685248 = true := rfl
    have h2 := rnext_any false 2047 2251799813685248 (by omega) (by omega)
    rw [nx_odd _ _ _ ho2, hn] at h2
    have h3 := less_odd false 2047 2251799813685248 (by omega) (by omega) ho2
    rw [hn] at h3
    exact rprev_core _ _ _ _ (less_odd s e f he hf ho) h2 h3 w

set_option maxHeartbeats 1000000 in
theorem rulp_odd (s : Bool) (e f : Nat) (he : e < 2048) (hf : f < 4503599627370496) (ho : odd e f = true) (w : World) :
    Calls Try.prog 27 #[.float .f64 (bw s e f)] w fun r w' => r = .returned (.float .f64 9221120237041090560) ∧ Below w.heap.size w w' := by
  have H1 : Hid _ := rsp_odd s e f he hf ho
  clear ho
  go_enter Try.func27, Try.ntmps27
  go_wp2_with fail
  refine (H1.out _).mono ?_
  rintro r w1 ⟨rfl, hb⟩
  go_wp2_with (go_at_call 38; refine (rnan_any _).mono ?_; rintro r w1 ⟨rfl, rfl⟩)
  go_ret
  exact ⟨rfl, hb.alloc hb.size _⟩

set_option maxHeartbeats 1000000 in
theorem rulp_end (s : Bool) (w : World) :
    Calls Try.prog 27 #[.float .f64 (bw s 2047 0)] w fun r w' => r = .returned (.float .f64 (bw false 2047 0)) ∧ Below w.heap.size w w' := by
  go_enter Try.func27, Try.ntmps27
  go_wp2_with fail
  refine (rSplit_end s _).mono ?_
  rintro r w1 ⟨rfl, hb⟩
  go_wp2_with (go_at_call 41; refine (endless_any _ _).mono ?_; rintro r w1 ⟨rfl, rfl⟩)
  go_ret
  exact ⟨rfl, hb.alloc hb.size _⟩

set_option maxHeartbeats 1000000 in
theorem rulp_fin (X B : Nat) (s : Bool) (c x g : Int) (k4 : (c == 4) = false) (k3 : (c == 3) = false)
    (H1 : Hid (∀ w, Calls Try.prog 13 #[.float .f64 X] w fun r w' => r = .returned (.agg #[.bool s, .int .i64 c, .int .i64 x, .int .u64 g]) ∧ Below w.heap.size w w'))
    (H2 : Hid (∀ w, Calls Try.prog 40 #[.bool false, .int .u64 1, .int .i64 x] w fun r w' => r = .returned (.tuple #[.float .f64 B, .bool true]) ∧ w' = w)) (w : World) :
    Calls Try.prog 27 #[.float .f64 X] w fun r w' => r = .returned (.float .f64 B) ∧ Below w.heap.size w w' := by
  go_enter Try.func27, Try.ntmps27
  go_wp2_with fail
  refine (H1.out _).mono ?_
  rintro r w1 ⟨rfl, hb⟩
  go_wp2_with (go_at_call 40; refine (H2.out _).mono ?_; rintro r w1 ⟨rfl, rfl⟩)
  go_ret
  exact ⟨rfl, hb.alloc hb.size _⟩

/-- the step at a number is the difference of the two neighbours from the least of its width on. -/
theorem ulp_sub (e u v : Nat) (he : e < 2047) (hu : u < 2047) (hv : v < 4503599627370496) (hval : val Ieee.double (u * 4503599627370496 + v) = 1 * 2 ^ (e - 1)) :
    floatBits .sub .f64 (bw false e 1) (bw false e 0) = some (bw false u v) := by
  show Ieee.double.sub _ _ = _
  rw [bw_word, bw_word, bw_word, show e * 4503599627370496 + 0 = e * 4503599627370496 from Nat.add_zero _]
  have hs : val Ieee.double (e * 4503599627370496 + 1) = val Ieee.double (e * 4503599627370496) + 2 ^ (e - 1) := by
    rw [val_succ, dBin]
    have : e * 4503599627370496 / 4503599627370496 - 1 = e - 1 := by omega
    rw [this]
  have hp : 0 < 2 ^ (e - 1) := Nat.two_pow_pos _
  rw [Nat.one_mul] at hval
  have hnz : u * 4503599627370496 + v ≠ 0 := by
    intro h; rw [h, val_zero] at hval; omega
  have hsum : sg false (val Ieee.double (e * 4503599627370496 + 1)) + sg (!false) (val Ieee.double (e * 4503599627370496)) = ((2 ^ (e - 1) : Nat) : Int) := by
    unfold sg; simp only [Bool.not_false, if_true, Bool.false_eq_true, if_false]
    rw [hs]; omega
  have hsub := sub_exact Ieee.double dHs false false (e * 4503599627370496 + 1) (e * 4503599627370496) (u * 4503599627370496 + v) (by rw [dInf]; omega) (by rw [dInf]; omega) (by rw [dInf]; omega) (by rw [hsum, hval, Int.natAbs_natCast])
  rw [hsub, if_neg hnz, hsum, decide_eq_false (by omega)]

set_option maxHeartbeats 1000000 in
theorem ulp_odd (s : Bool) (e f : Nat) (he : e < 2048) (hf : f < 4503599627370496) (ho : odd e f = true) (w : World) :
    Calls Try.prog 26 #[.float .f64 (bw s e f)] w fun r w' => r = .returned (.float .f64 9221120237041090560) ∧ Below w.heap.size w w' := by
  have H1 : Hid (∀ w, Calls Try.prog 14 #[.float .f64 (bw s e f)] w fun r w' => r = .returned (.int .i64 4) ∧ Below w.heap.size w w') := by
    have h := Class_any s e f he hf
    have hc : cls e f = 4 := by unfold cls; rw [if_pos (is_odd e f ho).1, if_neg (is_odd e f ho).2]
    rwa [hc] at h
  clear ho
  go_enter Try.func26, Try.ntmps26
  go_wp2_with fail
  refine (H1.out _).mono ?_
  rintro r w1 ⟨rfl, hb⟩
  go_wp2_with (go_at_call 11; refine (nan_any _).mono ?_; rintro r w1 ⟨rfl, rfl⟩)
  go_ret
  exact ⟨rfl, hb⟩

set_option maxHeartbeats 1000000 in
theorem inf_1 (w : World) : Calls Try.prog 43 #[.int .i64 1] w fun r w' => r = .returned (.float .f64 9218868437227405312) ∧ w' = w := by
  go_enter Try.func43, Try.ntmps43
  go_wp2
  go_ret
  exact ⟨rfl, rfl⟩

set_option maxHeartbeats 1000000 in
theorem ulp_end (s : Bool) (w : World) :
    Calls Try.prog 26 #[.float .f64 (bw s 2047 0)] w fun r w' => r = .returned (.float .f64 9218868437227405312) ∧ Below w.heap.size w w' := by
  have H1 : Hid (∀ w, Calls Try.prog 14 #[.float .f64 (bw s 2047 0)] w fun r w' => r = .returned (.int .i64 3) ∧ Below w.heap.size w w') := Class_any s 2047 0 (by omega) (by omega)
  go_enter Try.func26, Try.ntmps26
  go_wp2_with fail
  refine (H1.out _).mono ?_
  rintro r w1 ⟨rfl, hb⟩
  go_wp2_with (go_at_call 43; refine (inf_1 _).mono ?_; rintro r w1 ⟨rfl, rfl⟩)
  go_ret
  exact ⟨rfl, hb⟩

set_option maxHeartbeats 1000000 in
theorem ulp_fin (X A D N R : Nat) (c : Int) (k4 : (c == 4) = false) (k3 : (c == 3) = false)
    (H1 : Hid (∀ w, Calls Try.prog 14 #[.float .f64 X] w fun r w' => r = .returned (.int .i64 c) ∧ Below w.heap.size w w'))
    (H2 : Hid (∀ w, Calls Try.prog 29 #[.float .f64 X] w fun r w' => r = .returned (.float .f64 A) ∧ w' = w))
    (hA : A < 9223372036854775808) (hD : (A : Int) / 4503599627370496 * 4503599627370496 = D)
    (H3 : Hid (∀ w, Calls Try.prog 22 #[.float .f64 D] w fun r w' => r = .returned (.float .f64 N) ∧ w' = w))
    (h4 : ∀ w, (binOp .sub 25 (.float .f64 N) (.float .f64 D)).run Try.prog w = .ok (.float .f64 R) w) (w : World) :
    Calls Try.prog 26 #[.float .f64 X] w fun r w' => r = .returned (.float .f64 R) ∧ Below w.heap.size w w' := by
  go_enter Try.func26, Try.ntmps26
  go_wp2_with fail
  refine (H1.out _).mono ?_
  rintro r w1 ⟨rfl, hb⟩
  go_wp2_with fail
  refine (H2.out _).mono ?_
  rintro r w2 ⟨rfl, rfl⟩
  go_wp2_with fail
  refine (H3.out _).mono ?_
  rintro r w3 ⟨rfl, rfl⟩
  go_wp2_with fail
  go_ret
  exact ⟨rfl, hb⟩

/-- both Ulps answer alike. -/
theorem ulps_alike (s : Bool) (e f : Nat) (he : e < 2048) (hf : f < 4503599627370496) : ∃ R : Nat,
    (∀ w, Calls Try.prog 26 #[.float .f64 (bw s e f)] w fun r w' => r = .returned (.float .f64 R) ∧ Below w.heap.size w w') ∧
    (∀ w, Calls Try.prog 27 #[.float .f64 (bw s e f)] w fun r w' => r = .returned (.float .f64 R) ∧ Below w.heap.size w w') ∧
    (odd e f = true ∧ R = 9221120237041090560 ∨ odd e f = false ∧ e = 2047 ∧ R = 9218868437227405312 ∨ e < 2047 ∧ ∃ u v, u < 2047 ∧ v < 4503599627370496 ∧ R = bw false u v ∧ val Ieee.double (u * 4503599627370496 + v) = 1 * 2 ^ (e - 1)) := by
  cases ho : odd e f
  · have h0 := not_odd e f ho
    by_cases h7 : e = 2047
    · have hf0 : f = 0 := by omega
      subst h7 hf0
      exact ⟨9218868437227405312, ulp_end s, rulp_end s, Or.inr (Or.inl ⟨rfl, rfl, rfl⟩)⟩
    · obtain ⟨u, v, hu, hv, hval⟩ := mk_exists (e - 1) 1 (by omega) (by omega)
      have hk : ∃ c, cls e f = c ∧ (c == 4) = false ∧ (c == 3) = false := by
        refine ⟨_, rfl, ?_, ?_⟩ <;> (unfold cls; rw [if_neg h7]; split <;> (try split) <;> rfl)
      obtain ⟨c, hc, k4, k3⟩ := hk
      refine ⟨bw false u v, ?_, ?_, Or.inr (Or.inr ⟨by omega, u, v, hu, hv, rfl, hval⟩)⟩
      · intro w
        have H1 := Class_any s e f he hf
        rw [hc] at H1
        refine ulp_fin _ (bw false e f) (bw false e 0) (bw false e 1) _ c k4 k3 H1 (abs_any s e f he hf) ?_ ?_ ?_ ?_ w
        · unfold bw; simp only [Bool.toNat_false]; omega
        · unfold bw; simp only [Bool.toNat_false]; omega
        · have h := next_any false e 0 he (by omega)
          have hn : nx false e 0 = bw false e 1 := by
            by_cases h8 : e = 0
            · subst h8; rw [nx_zero]; rfl
            · rw [nx_pos e 0 (by omega) (by omega), bw_inc]
          rw [hn] at h; exact h
        · intro w
          exact run_float_arith w .sub _ .f64 _ _ _ (ulp_sub e u v (by omega) hu hv hval)
      · intro w
        have H1 := rSplit_fin s e f (by omega) hf
        rw [hc] at H1
        have hx : (xp e + 1074).toNat = e - 1 := by
          unfold xp; rw [if_neg h7]; split <;> omega
        have hx0 : -1074 ≤ xp e ∧ xp e ≤ 971 := by
          unfold xp; rw [if_neg h7]; split <;> omega
        exact rulp_fin _ _ s c (xp e) (fr e f) k4 k3 H1 (mk_int false 1 (xp e) u v (by omega) (by omega) hx0.1 hx0.2 hu hv (by rw [hx]; exact hval)) w
  · exact ⟨9221120237041090560, ulp_odd s e f he hf ho, rulp_odd s e f he hf ho, Or.inl ⟨rfl, rfl⟩⟩
end Go.Proofs.Ytedknjiipmppgaa
