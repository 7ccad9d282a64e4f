/- What IsInf, Signbit, Abs, Next, Prev and Order answer, at every number. -/
import Derived.Test.YtedknjiipmppgabW3
import Derived.Test.YtedknjiipmppgabFl
namespace Go.Proofs.Ytedknjiipmppgab
open Go.RowKit
attribute [local go_sem] f64bits f64frombits

theorem ret_bool {a b : Bool} (h : a = b) : Ending.returned (.bool a) = .returned (.bool b) := by rw [h]

theorem ret_flt {a b : Nat} (h : a = b) : Ending.returned (.float .f64 a) = .returned (.float .f64 b) := by rw [h]

theorem negF (s : Bool) (e f : Nat) (he : e < 2048) (hf : f < 4503599627370496) (w : World) : (Op.unary .neg (.float .f64 (bw s e f))).run Try.prog w = .ok (.float .f64 (bw (!s) e f)) w := by
  rw [← neg_bw s e f he hf]; rfl

set_option maxHeartbeats 1000000 in
theorem isInf_pos (s : Bool) (e f : Nat) (he : e < 2048) (hf : f < 4503599627370496) (w : World) :
    Calls Try.prog 47 #[.float .f64 (bw s e f), .int .i64 1] w fun r w' => r = .returned (.bool (!s && (e == 2047 && f == 0))) ∧ w' = w := by
  have h1 := gt_max s e f he hf
  generalize (!s && (e == 2047 && f == 0)) = k at *
  go_enter Try.func47, Try.ntmps47
  go_wp2
  go_ret
  exact ⟨rfl, rfl⟩

set_option maxHeartbeats 1000000 in
theorem isInf_neg (s : Bool) (e f : Nat) (he : e < 2048) (hf : f < 4503599627370496) (w : World) :
    Calls Try.prog 47 #[.float .f64 (bw s e f), .int .i64 (-1)] w fun r w' => r = .returned (.bool (s && (e == 2047 && f == 0))) ∧ w' = w := by
  have h1 := gt_max (!s) e f he hf
  rw [Bool.not_not] at h1
  have h2 := negF s e f he hf
  generalize (s && (e == 2047 && f == 0)) = k at *
  generalize bw (!s) e f = g at *
  go_enter Try.func47, Try.ntmps47
  go_wp2
  go_ret
  exact ⟨rfl, rfl⟩

set_option maxHeartbeats 1000000 in
theorem sign_any (s : Bool) (e f : Nat) (he : e < 2048) (hf : f < 4503599627370496) (w : World) :
    Calls Try.prog 27 #[.float .f64 (bw s e f)] w fun r w' => r = .returned (.bool s) ∧ w' = w := by
  have hl := bw_lt s e f he hf
  cases s
  · have h1 : bw false e f < 9223372036854775808 := by unfold bw; simp only [Bool.toNat_false]; omega
    go_enter Try.func27, Try.ntmps27
    go_wp2
    go_ret
    exact ⟨ret_bool (decide_eq_false (by omega)), rfl⟩
  · have h1 : 9223372036854775808 ≤ bw true e f := by unfold bw; simp only [Bool.toNat_true]; omega
    go_enter Try.func27, Try.ntmps27
    go_wp2
    go_ret
    exact ⟨ret_bool (decide_eq_true (by unfold wrap64; omega)), rfl⟩

set_option maxHeartbeats 1000000 in
theorem abs_any (s : Bool) (e f : Nat) (he : e < 2048) (hf : f < 4503599627370496) (w : World) :
    Calls Try.prog 30 #[.float .f64 (bw s e f)] w fun r w' => r = .returned (.float .f64 (bw false e f)) ∧ w' = w := by
  have h1 := abs_bw s e f he hf
  go_enter Try.func30, Try.ntmps30
  go_wp2
  go_ret
  exact ⟨rfl, rfl⟩

set_option maxHeartbeats 1000000 in
theorem next_odd (s : Bool) (e f : Nat) (he : e < 2048) (hf : f < 4503599627370496) (ho : odd e f = true) (w : World) :
    Calls Try.prog 25 #[.float .f64 (bw s e f)] w fun r w' => r = .returned (.float .f64 9221120237041090560) ∧ w' = w := by
  go_enter Try.func25, Try.ntmps25
  go_wp2_with (first
    | (go_at_call 26; refine (isNaN_any s e f he hf _).mono ?_; rintro r w1 ⟨rfl, rfl⟩)
    | (go_at_call 38; refine (nan_any _).mono ?_; rintro r w1 ⟨rfl, rfl⟩))
  go_ret
  exact ⟨rfl, rfl⟩

set_option maxHeartbeats 1000000 in
theorem next_top (s : Bool) (e f : Nat) (he : e < 2048) (hf : f < 4503599627370496) (ho : odd e f = false) (ht : (!s && (e == 2047 && f == 0)) = true) (w : World) :
    Calls Try.prog 25 #[.float .f64 (bw s e f)] w fun r w' => r = .returned (.float .f64 (bw s e f)) ∧ w' = w := by
  have HI := isInf_pos s e f he hf
  rw [ht] at HI
  have H2 : Hid (∀ w, Calls Try.prog 47 #[.float .f64 (bw s e f), .int .i64 1] w fun r w' => r = .returned (.bool true) ∧ w' = w) := HI
  clear HI ht
  go_enter Try.func25, Try.ntmps25
  go_wp2_with (first
    | (go_at_call 26; refine (isNaN_any s e f he hf _).mono ?_; rintro r w1 ⟨rfl, rfl⟩)
    | (go_at_call 47; refine (H2.out _).mono ?_; rintro r w1 ⟨rfl, rfl⟩))
  go_ret
  exact ⟨rfl, rfl⟩

set_option maxHeartbeats 1000000 in
theorem next_rest (s : Bool) (e f n : Nat) (he : e < 2048) (hf : f < 4503599627370496) (ho : odd e f = false) (ht : (!s && (e == 2047 && f == 0)) = false) (w : World)
    (h1 : (FloatKind.f64.format.order (bw s e f) 0 == some .eq) = (e == 0 && f == 0)) (hn : (e == 0 && f == 0) = true ∧ n = 1 ∨ (e == 0 && f == 0) = false ∧ s = true ∧ n = bw s e f - 1 ∨ (e == 0 && f == 0) = false ∧ s = false ∧ n = bw s e f + 1) :
    Calls Try.prog 25 #[.float .f64 (bw s e f)] w fun r w' => r = .returned (.float .f64 n) ∧ w' = w := by
  have HI := isInf_pos s e f he hf
  rw [ht] at HI
  have H2 : Hid (∀ w, Calls Try.prog 47 #[.float .f64 (bw s e f), .int .i64 1] w fun r w' => r = .returned (.bool false) ∧ w' = w) := HI
  clear HI
  have hl := bw_lt s e f he hf
  rcases hn with ⟨hz, rfl⟩ | ⟨hz, hs, rfl⟩ | ⟨hz, hs, rfl⟩
  · rw [hz] at h1
    clear ht
    go_enter Try.func25, Try.ntmps25
    go_wp2_with (first
      | (go_at_call 26; refine (isNaN_any s e f he hf _).mono ?_; rintro r w1 ⟨rfl, rfl⟩)
      | (go_at_call 47; refine (H2.out _).mono ?_; rintro r w1 ⟨rfl, rfl⟩))
    go_ret
    exact ⟨rfl, rfl⟩
  · have h2 := (lt_zero s e f he hf ho hz).trans hs
    rw [hz] at h1
    have h3 : 1 ≤ bw s e f := by rw [hs]; unfold bw; simp only [Bool.toNat_true]; omega
    clear ht hz hs
    go_enter Try.func25, Try.ntmps25
    go_wp2_with (first
      | (go_at_call 26; refine (isNaN_any s e f he hf _).mono ?_; rintro r w1 ⟨rfl, rfl⟩)
      | (go_at_call 47; refine (H2.out _).mono ?_; rintro r w1 ⟨rfl, rfl⟩))
    go_ret
    exact ⟨ret_flt (by omega), rfl⟩
  · have h2 := (lt_zero s e f he hf ho hz).trans hs
    rw [hz] at h1
    have h3 : bw s e f < 9223372036854775808 := by rw [hs]; unfold bw; simp only [Bool.toNat_false]; omega
    clear ht hz hs
    go_enter Try.func25, Try.ntmps25
    go_wp2_with (first
      | (go_at_call 26; refine (isNaN_any s e f he hf _).mono ?_; rintro r w1 ⟨rfl, rfl⟩)
      | (go_at_call 47; refine (H2.out _).mono ?_; rintro r w1 ⟨rfl, rfl⟩))
    go_ret
    exact ⟨ret_flt (by omega), rfl⟩

/-- the next number. -/
theorem next_any (s : Bool) (e f : Nat) (he : e < 2048) (hf : f < 4503599627370496) (w : World) :
    Calls Try.prog 25 #[.float .f64 (bw s e f)] w fun r w' => r = .returned (.float .f64 (nx s e f)) ∧ w' = w := by
  cases ho : odd e f
  · have h0 := not_odd e f ho
    unfold nx
    rw [if_neg h0]
    cases ht : (!s && (e == 2047 && f == 0))
    · have ht' : ¬ (s = false ∧ e = 2047) := by
        rintro ⟨rfl, rfl⟩
        have : f = 0 := by omega
        subst this; simp at ht
      rw [if_neg ht']
      refine next_rest s e f _ he hf ho ht w (eq_zero s e f he hf) ?_
      by_cases hz : e = 0 ∧ f = 0
      · rw [if_pos hz]; exact Or.inl ⟨by simp [hz], rfl⟩
      · rw [if_neg hz]
        have hz' : (e == 0 && f == 0) = false := by
          rw [Bool.eq_false_iff]; simpa using hz
        cases hs : s
        · exact Or.inr (Or.inr ⟨hz', rfl, if_neg (by decide)⟩)
        · exact Or.inr (Or.inl ⟨hz', rfl, if_pos rfl⟩)
    · have ht' : s = false ∧ e = 2047 := by
        simp at ht; exact ⟨ht.1, ht.2.1⟩
      rw [if_pos ht']
      exact next_top s e f he hf ho ht w
  · rw [show nx s e f = 9221120237041090560 from if_pos (is_odd e f ho)]
    exact next_odd s e f he hf ho w





set_option maxHeartbeats 1000000 in
theorem order_any (s t : Bool) (e f u v : Nat) (he : e < 2048) (hf : f < 4503599627370496) (hu : u < 2048) (hv : v < 4503599627370496) (w : World) :
    Calls Try.prog 9 #[.float .f64 (bw s e f), .float .f64 (bw t u v)] w fun r w' => r = .returned (.int .i64 (oc (ky s e f) (ky t u v))) ∧ w' = w := by
  have HS := Same_any s t e f u v he hf hu hv
  have hgt := gt_f64 s t e f u v he hf hu hv
  have hlt := lt_f64 s t e f u v he hf hu hv
  cases hd : decide (cb s e f = cb t u v)
  · rw [hd] at HS
    have H2 : Hid (∀ w, Calls Try.prog 11 #[.float .f64 (bw s e f), .float .f64 (bw t u v)] w fun r w' => r = .returned (.bool false) ∧ w' = w) := HS
    have hne := of_decide_eq_false hd
    clear HS hd
    cases h1 : odd e f
    · cases h2 : odd u v
      · rw [h1, h2] at hgt hlt
        simp only [Bool.not_false, Bool.true_and] at hgt hlt
        rw [cb_else s e f (not_odd e f h1), cb_else t u v (not_odd u v h2)] at hne
        by_cases c1 : pl t u v < pl s e f
        · rw [oc_gt (ky_of_pl t s u v e f h2 h1 c1)]
          rw [decide_eq_true c1] at hgt
          clear hne c1 hlt
          go_enter Try.func9, Try.ntmps9
          go_wp2_with fail
          refine (H2.out _).mono ?_
          rintro r w1 ⟨rfl, rfl⟩
          go_wp2_with fail
          refine (isNaN_any s e f he hf _).mono ?_
          rintro r w1 ⟨rfl, rfl⟩
          go_wp2_with fail
          go_ret
          exact ⟨rfl, rfl⟩
        · by_cases c2 : pl s e f < pl t u v
          · rw [oc_lt (ky_of_pl s t e f u v h1 h2 c2)]
            rw [decide_eq_true c2] at hlt
            rw [decide_eq_false c1] at hgt
            clear hne c1 c2
            go_enter Try.func9, Try.ntmps9
            go_wp2_with fail
            refine (H2.out _).mono ?_
            rintro r w1 ⟨rfl, rfl⟩
            go_wp2_with fail
            refine (isNaN_any s e f he hf _).mono ?_
            rintro r w1 ⟨rfl, rfl⟩
            go_wp2_with fail
            refine (isNaN_any t u v hu hv _).mono ?_
            rintro r w1 ⟨rfl, rfl⟩
            go_wp2_with fail
            go_ret
            exact ⟨rfl, rfl⟩
          · rw [decide_eq_false c1] at hgt
            rw [decide_eq_false c2] at hlt
            have hk := ky_zero s t e f u v h1 h2 hne (by omega)
            clear hne c1 c2
            cases s
            · rw [oc_gt (hk.1 rfl)]
              clear hk
              go_enter Try.func9, Try.ntmps9
              go_wp2_with fail
              refine (H2.out _).mono ?_
              rintro r w1 ⟨rfl, rfl⟩
              go_wp2_with fail
              refine (isNaN_any false e f he hf _).mono ?_
              rintro r w1 ⟨rfl, rfl⟩
              go_wp2_with fail
              refine (isNaN_any t u v hu hv _).mono ?_
              rintro r w1 ⟨rfl, rfl⟩
              go_wp2_with fail
              refine (sign_any false e f he hf _).mono ?_
              rintro r w1 ⟨rfl, rfl⟩
              go_wp2_with fail
              go_ret
              exact ⟨rfl, rfl⟩
            · rw [oc_lt (hk.2 rfl)]
              clear hk
              go_enter Try.func9, Try.ntmps9
              go_wp2_with fail
              refine (H2.out _).mono ?_
              rintro r w1 ⟨rfl, rfl⟩
              go_wp2_with fail
              refine (isNaN_any true e f he hf _).mono ?_
              rintro r w1 ⟨rfl, rfl⟩
              go_wp2_with fail
              refine (isNaN_any t u v hu hv _).mono ?_
              rintro r w1 ⟨rfl, rfl⟩
              go_wp2_with fail
              refine (sign_any true e f he hf _).mono ?_
              rintro r w1 ⟨rfl, rfl⟩
              go_wp2_with fail
              go_ret
              exact ⟨rfl, rfl⟩
      · rw [ky_odd t u v h2, oc_lt (ky_lt s e f he hf h1)]
        rw [h1, h2] at hgt hlt
        simp only [Bool.not_false, Bool.true_and, Bool.not_true, Bool.false_and] at hgt hlt
        clear hne hlt
        go_enter Try.func9, Try.ntmps9
        go_wp2_with fail
        refine (H2.out _).mono ?_
        rintro r w1 ⟨rfl, rfl⟩
        go_wp2_with fail
        refine (isNaN_any s e f he hf _).mono ?_
        rintro r w1 ⟨rfl, rfl⟩
        go_wp2_with fail
        refine (isNaN_any t u v hu hv _).mono ?_
        rintro r w1 ⟨rfl, rfl⟩
        go_wp2_with fail
        go_ret
        exact ⟨rfl, rfl⟩
    · have h2 : odd u v = false := by
        cases h2 : odd u v
        · rfl
        · exact absurd ((cb_odd s e f (is_odd e f h1)).trans (cb_odd t u v (is_odd u v h2)).symm) hne
      rw [ky_odd s e f h1, oc_gt (ky_lt t u v hu hv h2)]
      clear hne hgt hlt
      go_enter Try.func9, Try.ntmps9
      go_wp2_with fail
      refine (H2.out _).mono ?_
      rintro r w1 ⟨rfl, rfl⟩
      go_wp2_with fail
      refine (isNaN_any s e f he hf _).mono ?_
      rintro r w1 ⟨rfl, rfl⟩
      go_wp2_with fail
      go_ret
      exact ⟨rfl, rfl⟩
  · rw [hd] at HS
    have H2 : Hid (∀ w, Calls Try.prog 11 #[.float .f64 (bw s e f), .float .f64 (bw t u v)] w fun r w' => r = .returned (.bool true) ∧ w' = w) := HS
    rw [oc_eq (ky_of_cb s t e f u v he hf hu hv (of_decide_eq_true hd))]
    clear HS hd hgt hlt
    go_enter Try.func9, Try.ntmps9
    go_wp2_with fail
    refine (H2.out _).mono ?_
    rintro r w1 ⟨rfl, rfl⟩
    go_wp2_with fail
    go_ret
    exact ⟨rfl, rfl⟩
end Go.Proofs.Ytedknjiipmppgab
