import Derived.Test.YthilnddhehbjiaaDoorBW0
import Derived.Laws.BitsAllLaws
import Derived.WalkLawsBesides
import Derived.Test.YthilnddhehbjiaaDoorBW3
/- Plain facts on comparisons, signs and neighbours of numbers of 64 bits, by their bits. -/
namespace Go.Proofs.YthilnddhehbjiaaDoor.B
set_option linter.unusedVariables false
set_option maxRecDepth 20000

theorem lt_f64 (s t : Bool) (e f u v : Nat) (he : e < 2048) (hf : f < 4503599627370496) (hu : u < 2048) (hv : v < 4503599627370496) :
    (FloatKind.f64.format.order (bw s e f) (bw t u v) == some .lt) = (!odd e f && (!odd u v && decide (pl s e f < pl t u v))) := by
  rw [ord s t e f u v he hf hu hv]
  cases odd e f <;> cases odd u v <;> simp
  by_cases h : pl s e f < pl t u v
  · rw [Int.compare_eq_lt.2 h]; simp [h]
  · rw [decide_eq_false h]
    by_cases h2 : pl t u v < pl s e f
    · rw [Int.compare_eq_gt.2 h2]; rfl
    · rw [Int.compare_eq_eq.2 (by omega)]; rfl

theorem gt_f64 (s t : Bool) (e f u v : Nat) (he : e < 2048) (hf : f < 4503599627370496) (hu : u < 2048) (hv : v < 4503599627370496) :
    (FloatKind.f64.format.order (bw s e f) (bw t u v) == some .gt) = (!odd e f && (!odd u v && decide (pl t u v < pl s e f))) := by
  rw [ord s t e f u v he hf hu hv]
  cases odd e f <;> cases odd u v <;> simp
  by_cases h : pl t u v < pl s e f
  · rw [Int.compare_eq_gt.2 h]; simp [h]
  · rw [decide_eq_false h]
    by_cases h2 : pl s e f < pl t u v
    · rw [Int.compare_eq_lt.2 h2]; rfl
    · rw [Int.compare_eq_eq.2 (by omega)]; rfl

theorem eq_f64 (s t : Bool) (e f u v : Nat) (he : e < 2048) (hf : f < 4503599627370496) (hu : u < 2048) (hv : v < 4503599627370496) :
    (FloatKind.f64.format.order (bw s e f) (bw t u v) == some .eq) = (!odd e f && (!odd u v && decide (pl s e f = pl t u v))) := by
  rw [ord s t e f u v he hf hu hv]
  cases odd e f <;> cases odd u v <;> simp
  by_cases h : pl s e f < pl t u v
  · rw [Int.compare_eq_lt.2 h, decide_eq_false (by omega)]; rfl
  · by_cases h2 : pl t u v < pl s e f
    · rw [Int.compare_eq_gt.2 h2, decide_eq_false (by omega)]; rfl
    · rw [Int.compare_eq_eq.2 (by omega), decide_eq_true (by omega)]; rfl

theorem odd_lt (e f : Nat) (h : e < 2047) : odd e f = false := by
  have : (e == 2047) = false := by simp; omega
  simp [odd, this]
theorem odd_zero (e : Nat) : odd e 0 = false := by simp [odd]

theorem zero_bw : bw false 0 0 = 0 := rfl
theorem max_bw : bw false 2046 4503599627370495 = 9218868437227405311 := rfl

theorem gt_max (s : Bool) (e f : Nat) (he : e < 2048) (hf : f < 4503599627370496) :
    (FloatKind.f64.format.order (bw s e f) 9218868437227405311 == some .gt) = (!s && (e == 2047 && f == 0)) := by
  have h := gt_f64 s false e f 2046 4503599627370495 he hf (by omega) (by omega)
  rw [max_bw] at h
  rw [h, odd_lt 2046 _ (by omega)]
  cases ho : odd e f
  · have := not_odd e f ho
    rw [Bool.eq_iff_iff]
    cases s <;> simp [pl, sg] <;> omega
  · obtain ⟨h1, h2⟩ := is_odd e f ho
    have h3 : (f == 0) = false := by simp [h2]
    simp [h1, h3]

theorem eq_zero (s : Bool) (e f : Nat) (he : e < 2048) (hf : f < 4503599627370496) :
    (FloatKind.f64.format.order (bw s e f) 0 == some .eq) = (e == 0 && f == 0) := by
  have h := eq_f64 s false e f 0 0 he hf (by omega) (by omega)
  rw [zero_bw] at h
  rw [h, odd_lt 0 _ (by omega)]
  cases ho : odd e f
  · rw [Bool.eq_iff_iff]
    cases s <;> simp [pl, sg] <;> omega
  · obtain ⟨h1, h2⟩ := is_odd e f ho
    have h3 : (e == 0) = false := by simp [h1]
    simp [h3]

theorem lt_zero (s : Bool) (e f : Nat) (he : e < 2048) (hf : f < 4503599627370496) (ho : odd e f = false) (hz : (e == 0 && f == 0) = false) :
    (FloatKind.f64.format.order (bw s e f) 0 == some .lt) = s := by
  have h := lt_f64 s false e f 0 0 he hf (by omega) (by omega)
  rw [zero_bw] at h
  rw [h, odd_lt 0 _ (by omega), ho]
  have hz' : ¬ (e = 0 ∧ f = 0) := by rintro ⟨rfl, rfl⟩; simp at hz
  rw [Bool.eq_iff_iff]
  cases s <;> simp [pl, sg] <;> omega

theorem xor_sign (r : Nat) (hr : r < 2 ^ 63) : r ^^^ 2 ^ 63 = 2 ^ 63 + r := by
  apply Nat.eq_of_testBit_eq
  intro i
  rw [Nat.testBit_xor, Nat.testBit_two_pow]
  by_cases h : i < 63
  · rw [Nat.testBit_two_pow_add_gt h, decide_eq_false (by omega), Bool.xor_false]
  · by_cases h2 : i = 63
    · subst h2
      rw [Nat.testBit_two_pow_add_eq, decide_eq_true rfl, Bool.xor_true]
    · have h64 : 2 ^ 64 ≤ 2 ^ i := Nat.pow_le_pow_right (by omega) (by omega)
      rw [decide_eq_false (by omega), Bool.xor_false, Nat.testBit_lt_two_pow (by omega : r < 2 ^ i), Nat.testBit_lt_two_pow (by omega : 2 ^ 63 + r < 2 ^ i)]

theorem neg_bw (s : Bool) (e f : Nat) (he : e < 2048) (hf : f < 4503599627370496) : Op.negFloat .f64 (bw s e f) = bw (!s) e f := by
  show bw s e f ^^^ 2 ^ 63 = _
  have key : bw false e f ^^^ 2 ^ 63 = bw true e f := by
    rw [xor_sign _ (by unfold bw; simp only [Bool.toNat_false]; omega)]
    unfold bw; simp only [Bool.toNat_true, Bool.toNat_false]; omega
  cases s
  · exact key
  · show bw true e f ^^^ 2 ^ 63 = bw false e f
    rw [← key, Nat.xor_assoc, Nat.xor_self, Nat.xor_zero]

theorem abs_bw (s : Bool) (e f : Nat) (he : e < 2048) (hf : f < 4503599627370496) : bits .andNot .u64 ((bw s e f : Nat) : Int) 9223372036854775808 = (bw false e f : Int) := by
  have h := u64_andNot_nat (bw s e f) 9223372036854775808 (bw_lt s e f he hf) (by omega)
  rw [show (((9223372036854775808 : Nat)) : Int) = 9223372036854775808 from rfl] at h
  rw [h, show 18446744073709551615 - 9223372036854775808 = 2 ^ 63 - 1 from rfl, Nat.and_two_pow_sub_one_eq_mod]
  congr 1
  unfold bw; cases s <;> simp only [Bool.toNat_true, Bool.toNat_false] <;> omega

/-- the place in the order of all. -/
def ky (s : Bool) (e f : Nat) : Int := if e = 2047 ∧ f ≠ 0 then 9221120237041090560 else if s then -1 - ((e : Int) * 4503599627370496 + f) else (e : Int) * 4503599627370496 + f
def oc (a b : Int) : Int := if a < b then -1 else if b < a then 1 else 0
theorem oc_lt {a b : Int} (h : a < b) : oc a b = -1 := if_pos h
theorem oc_gt {a b : Int} (h : b < a) : oc a b = 1 := by unfold oc; rw [if_neg (by omega), if_pos h]
theorem oc_eq {a b : Int} (h : a = b) : oc a b = 0 := by unfold oc; rw [if_neg (by omega), if_neg (by omega)]
theorem ky_odd (s : Bool) (e f : Nat) (h : odd e f = true) : ky s e f = 9221120237041090560 := if_pos (is_odd e f h)
theorem ky_lt (s : Bool) (e f : Nat) (he : e < 2048) (hf : f < 4503599627370496) (h : odd e f = false) : ky s e f < 9221120237041090560 := by
  have := not_odd e f h
  unfold ky; rw [if_neg this]; split <;> omega
theorem ky_else (s : Bool) (e f : Nat) (h : odd e f = false) : ky s e f = if s then -1 - ((e : Int) * 4503599627370496 + f) else (e : Int) * 4503599627370496 + f := if_neg (not_odd e f h)

theorem ky_of_pl (s t : Bool) (e f u v : Nat) (h1 : odd e f = false) (h2 : odd u v = false) (h : pl s e f < pl t u v) : ky s e f < ky t u v := by
  rw [ky_else s e f h1, ky_else t u v h2]
  unfold pl sg at h
  cases s <;> cases t <;> simp at h ⊢ <;> omega

theorem bw_inj (s t : Bool) (e f u v : Nat) (he : e < 2048) (hf : f < 4503599627370496) (hu : u < 2048) (hv : v < 4503599627370496) (h : bw s e f = bw t u v) : s = t ∧ e = u ∧ f = v := by
  unfold bw at h
  cases s <;> cases t <;> simp only [Bool.toNat_true, Bool.toNat_false] at h
  · exact ⟨rfl, by omega, by omega⟩
  · omega
  · omega
  · exact ⟨rfl, by omega, by omega⟩

theorem ky_of_cb (s t : Bool) (e f u v : Nat) (he : e < 2048) (hf : f < 4503599627370496) (hu : u < 2048) (hv : v < 4503599627370496) (h : cb s e f = cb t u v) : ky s e f = ky t u v := by
  cases h1 : odd e f
  · rw [cb_else s e f (not_odd e f h1)] at h
    cases h2 : odd u v
    · rw [cb_else t u v (not_odd u v h2)] at h
      obtain ⟨rfl, rfl, rfl⟩ := bw_inj s t e f u v he hf hu hv h
      rfl
    · rw [cb_odd t u v (is_odd u v h2)] at h
      exact absurd h (bw_ne_nan s e f he hf h1)
  · rw [cb_odd s e f (is_odd e f h1)] at h
    cases h2 : odd u v
    · rw [cb_else t u v (not_odd u v h2)] at h
      exact absurd h.symm (bw_ne_nan t u v hu hv h2)
    · rw [ky_odd s e f h1, ky_odd t u v h2]

theorem ky_zero (s t : Bool) (e f u v : Nat) (h1 : odd e f = false) (h2 : odd u v = false) (hne : ¬ bw s e f = bw t u v) (h : pl s e f = pl t u v) : (s = false → ky t u v < ky s e f) ∧ (s = true → ky s e f < ky t u v) := by
  rw [ky_else s e f h1, ky_else t u v h2]
  unfold bw at hne
  unfold pl sg at h
  cases s <;> cases t <;> simp at h hne ⊢ <;> omega

/-- the next number's bits. -/
def nx (s : Bool) (e f : Nat) : Nat :=
  if e = 2047 ∧ f ≠ 0 then 9221120237041090560 else if s = false ∧ e = 2047 then bw s e f else if e = 0 ∧ f = 0 then 1 else if s = true then bw s e f - 1 else bw s e f + 1
end Go.Proofs.YthilnddhehbjiaaDoor.B

/- What IsInf, Signbit, Abs, Next, Prev and Order answer, at every number. -/
namespace Go.Proofs.YthilnddhehbjiaaDoor.B
set_option linter.unusedVariables false
set_option maxRecDepth 20000
open Go.RowKit
attribute [local go_sem] f64bits f64frombits

theorem ret_bool {a b : Bool} (h : a = b) : Ending.returned (.bool a) = .returned (.bool b) := by rw [h]

theorem ret_flt {a b : Nat} (h : a = b) : Ending.returned (.float .f64 a) = .returned (.float .f64 b) := by rw [h]

theorem negF (s : Bool) (e f : Nat) (he : e < 2048) (hf : f < 4503599627370496) (w : World) : (Op.unary .neg (.float .f64 (bw s e f))).run Tryd.prog w = .ok (.float .f64 (bw (!s) e f)) w := by
  rw [← neg_bw s e f he hf]; rfl

set_option maxHeartbeats 1000000 in
theorem isInf_pos (s : Bool) (e f : Nat) (he : e < 2048) (hf : f < 4503599627370496) (w : World) :
    Calls Tryd.prog 149 #[.float .f64 (bw s e f), .int .i64 1] w fun r w' => r = .returned (.bool (!s && (e == 2047 && f == 0))) ∧ w' = w := by
  have h1 := gt_max s e f he hf
  generalize (!s && (e == 2047 && f == 0)) = k at *
  go_enter Tryd.func149, Tryd.ntmps149
  go_wp2
  go_ret
  exact ⟨rfl, rfl⟩

set_option maxHeartbeats 1000000 in
theorem isInf_neg (s : Bool) (e f : Nat) (he : e < 2048) (hf : f < 4503599627370496) (w : World) :
    Calls Tryd.prog 149 #[.float .f64 (bw s e f), .int .i64 (-1)] w fun r w' => r = .returned (.bool (s && (e == 2047 && f == 0))) ∧ w' = w := by
  have h1 := gt_max (!s) e f he hf
  rw [Bool.not_not] at h1
  have h2 := negF s e f he hf
  generalize (s && (e == 2047 && f == 0)) = k at *
  generalize bw (!s) e f = g at *
  go_enter Tryd.func149, Tryd.ntmps149
  go_wp2
  go_ret
  exact ⟨rfl, rfl⟩

set_option maxHeartbeats 1000000 in
theorem abs_any (s : Bool) (e f : Nat) (he : e < 2048) (hf : f < 4503599627370496) (w : World) :
    Calls Tryd.prog 70 #[.float .f64 (bw s e f)] w fun r w' => r = .returned (.float .f64 (bw false e f)) ∧ w' = w := by
  have h1 := abs_bw s e f he hf
  go_enter Tryd.func70, Tryd.ntmps70
  go_wp2
  go_ret
  exact ⟨rfl, rfl⟩

end Go.Proofs.YthilnddhehbjiaaDoor.B

