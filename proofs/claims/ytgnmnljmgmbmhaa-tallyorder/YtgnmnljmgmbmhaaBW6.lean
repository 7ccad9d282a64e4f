/- What IsInf, Signbit, Abs, Next, Prev and Order answer, at every number. -/
import Derived.Test.YtgnmnljmgmbmhaaBW3
import Derived.Test.YtgnmnljmgmbmhaaBFl
namespace Go.Proofs.Ytgnmnljmgmbmhaa.B
set_option linter.unusedVariables false
set_option maxRecDepth 20000
open Go.RowKit
attribute [local go_sem] f64bits f64frombits
theorem ret_bool {a b : Bool} (h : a = b) : Ending.returned (.bool a) = .returned (.bool b) := by rw [h]

set_option maxHeartbeats 1000000 in
theorem sign_any (s : Bool) (e f : Nat) (he : e < 2048) (hf : f < 4503599627370496) (w : World) :
    Calls Try.prog 49 #[.float .f64 (bw s e f)] w fun r w' => r = .returned (.bool s) ∧ w' = w := by
  have hl := bw_lt s e f he hf
  cases s
  · have h1 : bw false e f < 9223372036854775808 := by unfold bw; simp only [Bool.toNat_false]; omega
    go_enter Try.func49, Try.ntmps49
    go_wp2
    go_ret
    exact ⟨ret_bool (decide_eq_false (by omega)), rfl⟩
  · have h1 : 9223372036854775808 ≤ bw true e f := by unfold bw; simp only [Bool.toNat_true]; omega
    go_enter Try.func49, Try.ntmps49
    go_wp2
    go_ret
    exact ⟨ret_bool (decide_eq_true (by unfold wrap64; omega)), rfl⟩

set_option maxHeartbeats 1000000 in
theorem order_any (s t : Bool) (e f u v : Nat) (he : e < 2048) (hf : f < 4503599627370496) (hu : u < 2048) (hv : v < 4503599627370496) (w : World) :
    Calls Try.prog 37 #[.float .f64 (bw s e f), .float .f64 (bw t u v)] w fun r w' => r = .returned (.int .i64 (oc (ky s e f) (ky t u v))) ∧ w' = w := by
  have HS := Same_any s t e f u v he hf hu hv
  have hgt := gt_f64 s t e f u v he hf hu hv
  have hlt := lt_f64 s t e f u v he hf hu hv
  cases hd : decide (cb s e f = cb t u v)
  · rw [hd] at HS
    have H2 : Hid (∀ w, Calls Try.prog 47 #[.float .f64 (bw s e f), .float .f64 (bw t u v)] w fun r w' => r = .returned (.bool false) ∧ w' = w) := HS
    have hne := of_decide_eq_false hd
    clear HS hd
    cases h1 : odd e f
    · cases h2 : odd u v
      · rw [h1, h2] at hgt hlt
        simp only [Bool.not_false, Bool.true_and] at hgt hlt
        rw [cb_else s e f (not_odd e f h1), cb_else t u v (not_odd u v h2)] at hne
        by_cases c1 : pl t u v < pl s e f
        · rw [oc_gt (ky_of_pl t s u v e f h2 h1 c1)]
          rw [decide_eq_true c1] at hgt
          clear hne c1 hlt
          go_enter Try.func37, Try.ntmps37
          go_wp2_with fail
          refine (H2.out _).mono ?_
          rintro r w1 ⟨rfl, rfl⟩
          go_wp2_with fail
          refine (isNaN_any s e f he hf _).mono ?_
          rintro r w1 ⟨rfl, rfl⟩
          go_wp2_with fail
          go_ret
          exact ⟨rfl, rfl⟩
        · by_cases c2 : pl s e f < pl t u v
          · rw [oc_lt (ky_of_pl s t e f u v h1 h2 c2)]
            rw [decide_eq_true c2] at hlt
            rw [decide_eq_false c1] at hgt
            clear hne c1 c2
            go_enter Try.func37, Try.ntmps37
            go_wp2_with fail
            refine (H2.out _).mono ?_
            rintro r w1 ⟨rfl, rfl⟩
            go_wp2_with fail
            refine (isNaN_any s e f he hf _).mono ?_
            rintro r w1 ⟨rfl, rfl⟩
            go_wp2_with fail
            refine (isNaN_any t u v hu hv _).mono ?_
            rintro r w1 ⟨rfl, rfl⟩
            go_wp2_with fail
            go_ret
            exact ⟨rfl, rfl⟩
          · rw [decide_eq_false c1] at hgt
            rw [decide_eq_false c2] at hlt
            have hk := ky_zero s t e f u v h1 h2 hne (by omega)
            clear hne c1 c2
            cases s
            · rw [oc_gt (hk.1 rfl)]
              clear hk
              go_enter Try.func37, Try.ntmps37
              go_wp2_with fail
              refine (H2.out _).mono ?_
              rintro r w1 ⟨rfl, rfl⟩
              go_wp2_with fail
              refine (isNaN_any false e f he hf _).mono ?_
              rintro r w1 ⟨rfl, rfl⟩
              go_wp2_with fail
              refine (isNaN_any t u v hu hv _).mono ?_
              rintro r w1 ⟨rfl, rfl⟩
              go_wp2_with fail
              refine (sign_any false e f he hf _).mono ?_
              rintro r w1 ⟨rfl, rfl⟩
              go_wp2_with fail
              go_ret
              exact ⟨rfl, rfl⟩
            · rw [oc_lt (hk.2 rfl)]
              clear hk
              go_enter Try.func37, Try.ntmps37
              go_wp2_with fail
              refine (H2.out _).mono ?_
              rintro r w1 ⟨rfl, rfl⟩
              go_wp2_with fail
              refine (isNaN_any true e f he hf _).mono ?_
              rintro r w1 ⟨rfl, rfl⟩
              go_wp2_with fail
              refine (isNaN_any t u v hu hv _).mono ?_
              rintro r w1 ⟨rfl, rfl⟩
              go_wp2_with fail
              refine (sign_any true e f he hf _).mono ?_
              rintro r w1 ⟨rfl, rfl⟩
              go_wp2_with fail
              go_ret
              exact ⟨rfl, rfl⟩
      · rw [ky_odd t u v h2, oc_lt (ky_lt s e f he hf h1)]
        rw [h1, h2] at hgt hlt
        simp only [Bool.not_false, Bool.true_and, Bool.not_true, Bool.false_and] at hgt hlt
        clear hne hlt
        go_enter Try.func37, Try.ntmps37
        go_wp2_with fail
        refine (H2.out _).mono ?_
        rintro r w1 ⟨rfl, rfl⟩
        go_wp2_with fail
        refine (isNaN_any s e f he hf _).mono ?_
        rintro r w1 ⟨rfl, rfl⟩
        go_wp2_with fail
        refine (isNaN_any t u v hu hv _).mono ?_
        rintro r w1 ⟨rfl, rfl⟩
        go_wp2_with fail
        go_ret
        exact ⟨rfl, rfl⟩
    · have h2 : odd u v = false := by
        cases h2 : odd u v
        · rfl
        · exact absurd ((cb_odd s e f (is_odd e f h1)).trans (cb_odd t u v (is_odd u v h2)).symm) hne
      rw [ky_odd s e f h1, oc_gt (ky_lt t u v hu hv h2)]
      clear hne hgt hlt
      go_enter Try.func37, Try.ntmps37
      go_wp2_with fail
      refine (H2.out _).mono ?_
      rintro r w1 ⟨rfl, rfl⟩
      go_wp2_with fail
      refine (isNaN_any s e f he hf _).mono ?_
      rintro r w1 ⟨rfl, rfl⟩
      go_wp2_with fail
      go_ret
      exact ⟨rfl, rfl⟩
  · rw [hd] at HS
    have H2 : Hid (∀ w, Calls Try.prog 47 #[.float .f64 (bw s e f), .float .f64 (bw t u v)] w fun r w' => r = .returned (.bool true) ∧ w' = w) := HS
    rw [oc_eq (ky_of_cb s t e f u v he hf hu hv (of_decide_eq_true hd))]
    clear HS hd hgt hlt
    go_enter Try.func37, Try.ntmps37
    go_wp2_with fail
    refine (H2.out _).mono ?_
    rintro r w1 ⟨rfl, rfl⟩
    go_wp2_with fail
    go_ret
    exact ⟨rfl, rfl⟩
end Go.Proofs.Ytgnmnljmgmbmhaa.B
