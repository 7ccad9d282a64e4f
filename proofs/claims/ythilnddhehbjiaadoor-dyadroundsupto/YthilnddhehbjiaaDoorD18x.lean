import Derived.Test.YthilnddhehbjiaaDoorBFlx
import Derived.Test.YthilnddhehbjiaaDoorBIeee2
import Derived.Test.YthilnddhehbjiaaDoorM2
import Derived.Laws.FloatArith
import Derived.Test.YthilnddhehbjiaaDoorD1x
/- math's Ldexp and Copysign. -/
namespace Go.Proofs.YthilnddhehbjiaaDoor.B
open Go.RowKit
set_option linter.unusedVariables false
set_option maxRecDepth 20000
attribute [local go_sem] f64bits f64frombits

theorem mul_exact (f : Ieee.Format) (hs : f.infRung < f.signWeight) (s t : Bool) (r u v a : Nat) (ha : f.leastPlace = -(a : Int)) (hr : r < f.infRung) (hu : u < f.infRung) (hv : v < f.infRung)
    (h : val f r * val f u = val f v * 2 ^ a) (h0 : val f r ≠ 0) (h1 : val f u ≠ 0) : f.mul (f.word s r) (f.word t u) = some (f.word (s ^^ t) v) := by
  obtain ⟨m, k, e1, v1⟩ := read_word f s r hr hs
  obtain ⟨n, j, e2, v2⟩ := read_word f t u hu hs
  unfold Ieee.Format.mul
  rw [e1, e2]
  show some (f.nearest (s ^^ t) (m * n) (f.leastPlace + k + (f.leastPlace + j))) = _
  have e : f.leastPlace + (k : Int) + (f.leastPlace + (j : Int)) = f.leastPlace + ((k + j : Nat) : Int) - (a : Int) := by omega
  have hmn : m * n ≠ 0 := by
    intro h2
    rcases Nat.mul_eq_zero.1 h2 with h3 | h3
    · subst h3; simp at v1; exact h0 v1.symm
    · subst h3; simp at v2; exact h1 v2.symm
  rw [e, nearest_exact2 f _ (m * n) (k + j) a v hv ?_ hmn]
  rw [← h, ← v1, ← v2, Nat.pow_add]
  grind

theorem and_high (a : Nat) (h : a < 2 ^ 63) : a &&& 2 ^ 63 = 0 := by
  apply Nat.eq_of_testBit_eq
  intro i
  rw [Nat.testBit_and, Nat.testBit_two_pow, Nat.zero_testBit]
  by_cases hi : 63 = i
  · subst hi; rw [Nat.testBit_lt_two_pow h]; rfl
  · simp [hi]

theorem mask_clear (e g : Nat) (he : e < 2048) (hg : g < 4503599627370496) : bits .andNot .u64 ((bw false e g : Nat) : Int) 9218868437227405312 = (g : Int) := by
  have h := u64_andNot_nat (bw false e g) 9218868437227405312 (bw_lt false e g he hg) (by omega)
  rw [show (((9218868437227405312 : Nat)) : Int) = 9218868437227405312 from rfl] at h
  rw [h]
  have hb : bw false e g = e * 4503599627370496 + g := by unfold bw; simp
  have hlt : bw false e g < 2 ^ 63 := by rw [hb]; omega
  have e1 : 18446744073709551615 - 9218868437227405312 = 2 ^ 63 ||| (2 ^ 52 - 1) := by decide
  rw [e1, Nat.and_or_distrib_left, Nat.and_two_pow_sub_one_eq_mod, and_high _ hlt, Nat.zero_or, hb]
  omega

theorem join_exp (E g : Nat) (hE : E < 2048) (hg : g < 4503599627370496) : bits .or .u64 (g : Int) ((E : Int) * 4503599627370496) = ((bw false E g : Nat) : Int) := by
  have hc : bits .or .u64 (g : Int) ((E : Int) * 4503599627370496) = bits .or .u64 ((E : Int) * 4503599627370496) (g : Int) := by simp only [bits, BitVec.or_comm]
  rw [hc, bits_join .u64 64 (by decide) wraps_u64 52 ((E : Int) * 4503599627370496) (g : Int) (by omega) (by omega) (by omega) (by omega) (by omega) (by omega)]
  unfold bw; simp

set_option maxHeartbeats 1000000 in
theorem isInf0 (e g : Nat) (he : e < 2047) (hg : g < 4503599627370496) (w : World) :
    Calls Tryd.prog 149 #[.float .f64 (bw false e g), .int .i64 0] w fun r w' => r = .returned (.bool false) ∧ w' = w := by
  have H := hid (abs_any false e g (by omega) hg w)
  have h1 := gt_max false e g (by omega) hg
  have h2 : (!false && (e == 2047 && g == 0)) = false := by simp; omega
  rw [h2] at h1
  generalize bw false e g = b at *
  go_enter Tryd.func149, Tryd.ntmps149
  go_wp2_with fail
  refine (Calls.mono H.out) ?_
  rintro r w1 ⟨rfl, rfl⟩
  go_wp2
  go_ret
  exact ⟨rfl, rfl⟩

set_option maxHeartbeats 1000000 in
theorem normalize_any (e g : Nat) (h0 : 0 < e) (he : e < 2047) (hg : g < 4503599627370496) (w : World) :
    Calls Tryd.prog 151 #[.float .f64 (bw false e g)] w fun r w' => r = .returned (.tuple #[.float .f64 (bw false e g), .int .i64 0]) ∧ w' = w := by
  have H := hid (abs_any false e g (by omega) hg w)
  have h1 := lt_f64 false false e g 1 0 (by omega) hg (by omega) (by omega)
  have h3 : (!odd e g && (!odd 1 0 && decide (pl false e g < pl false 1 0))) = false := by
    have : ¬ pl false e g < pl false 1 0 := by unfold pl sg; simp; omega
    simp [this]
  rw [h3, show bw false 1 0 = 4503599627370496 from rfl] at h1
  generalize bw false e g = b at *
  clear h3
  go_enter Tryd.func151, Tryd.ntmps151
  go_wp2_with fail
  refine (Calls.mono H.out) ?_
  rintro r w1 ⟨rfl, rfl⟩
  go_wp2
  go_ret2
  exact ⟨rfl, rfl⟩

set_option maxHeartbeats 1000000 in
theorem inf_any (w : World) : Calls Tryd.prog 67 #[.int .i64 1] w fun r w' => r = .returned (.float .f64 9218868437227405312) ∧ w' = w := by
  go_enter Tryd.func67, Tryd.ntmps67
  go_wp2
  go_ret
  exact ⟨rfl, rfl⟩

set_option maxHeartbeats 1000000 in
theorem copysign_neg (e g : Nat) (he : e < 2048) (hg : g < 4503599627370496) (w : World) :
    Calls Tryd.prog 125 #[.float .f64 (bw false e g), .float .f64 13830554455654793216] w fun r w' => r = .returned (.float .f64 (bw true e g)) ∧ w' = w := by
  have h1 := abs_bw false e g he hg
  have h2 : bits .and .u64 13830554455654793216 9223372036854775808 = 9223372036854775808 := by decide
  have hb : bw false e g = e * 4503599627370496 + g := by unfold bw; simp
  have h3 := or_sign ((bw false e g : Nat) : Int) (by omega) (by rw [hb]; omega)
  have h4 : ((bw false e g : Nat) : Int) + 9223372036854775808 = ((bw true e g : Nat) : Int) := by unfold bw; simp; omega
  rw [h4] at h3
  generalize bw false e g = b at *
  generalize bw true e g = d at *
  clear hb h4
  go_enter Tryd.func125, Tryd.ntmps125
  go_wp2
  go_ret
  exact ⟨by simp, rfl⟩
end Go.Proofs.YthilnddhehbjiaaDoor.B

/- math's Ldexp. -/
namespace Go.Proofs.YthilnddhehbjiaaDoor.B
open Go.RowKit
set_option linter.unusedVariables false
set_option maxRecDepth 20000
attribute [local go_sem] f64bits f64frombits

set_option maxHeartbeats 4000000 in
theorem ldexp_norm (b e g d : Nat) (x y z : Int) (w : World) (hb : b < 9223372036854775808) (hx0 : -3000 ≤ x) (hx1 : x ≤ 3000) (he0 : 0 < e) (he1 : e < 2047) (hg : g < 4503599627370496)
    (z0 : (FloatKind.f64.format.order b 0 == some .eq) = false)
    (HI : Hid (∀ u, Calls Tryd.prog 149 #[.float .f64 b, .int .i64 0] u fun r w' => r = .returned (.bool false) ∧ w' = u))
    (HN : Hid (∀ u, Calls Tryd.prog 150 #[.float .f64 b] u fun r w' => r = .returned (.bool false) ∧ w' = u))
    (HZ : Hid (∀ u, Calls Tryd.prog 151 #[.float .f64 b] u fun r w' => r = .returned (.tuple #[.float .f64 b, .int .i64 0]) ∧ w' = u))
    (e1 : bits .and .i64 ((b : Int) / 4503599627370496) 2047 = (e : Int)) (mc : bits .andNot .u64 (b : Int) 9218868437227405312 = (g : Int))
    (ey : x + ((e : Int) - 1023) = y) (hy0 : -1022 ≤ y) (hy1 : y ≤ 1023) (ez : (y + 1023) * 4503599627370496 = z) (hz0 : 0 ≤ z) (hz1 : z < 9223372036854775808) (je : bits .or .u64 (g : Int) z = (d : Int))
    (mu : ∀ u : World, (binOp .mul 37 (.float .f64 4607182418800017408) (.float .f64 d)).run Tryd.prog u = .ok (.float .f64 d) u) :
    Calls Tryd.prog 143 #[.float .f64 b, .int .i64 x] w fun r w' => r = .returned (.float .f64 d) ∧ w' = w := by
  go_enter Tryd.func143, Tryd.ntmps143
  go_wp2_with fail
  refine (Calls.mono (HI.out _)) ?_
  rintro r w1 ⟨rfl, hw⟩
  rw [hw]
  clear hw w1
  go_wp2_with fail
  refine (Calls.mono (HN.out _)) ?_
  rintro r w1 ⟨rfl, hw⟩
  rw [hw]
  clear hw w1
  go_wp2_with fail
  refine (Calls.mono (HZ.out _)) ?_
  rintro r w1 ⟨rfl, hw⟩
  rw [hw]
  clear hw w1
  go_wp2
  go_ret
  exact ⟨rfl, rfl⟩
set_option maxHeartbeats 4000000 in
theorem ldexp_sub (b e g d c : Nat) (x y y2 z : Int) (w : World) (hb : b < 9223372036854775808) (hx0 : -3000 ≤ x) (hx1 : x ≤ 3000) (he0 : 0 < e) (he1 : e < 2047) (hg : g < 4503599627370496)
    (z0 : (FloatKind.f64.format.order b 0 == some .eq) = false)
    (HI : Hid (∀ u, Calls Tryd.prog 149 #[.float .f64 b, .int .i64 0] u fun r w' => r = .returned (.bool false) ∧ w' = u))
    (HN : Hid (∀ u, Calls Tryd.prog 150 #[.float .f64 b] u fun r w' => r = .returned (.bool false) ∧ w' = u))
    (HZ : Hid (∀ u, Calls Tryd.prog 151 #[.float .f64 b] u fun r w' => r = .returned (.tuple #[.float .f64 b, .int .i64 0]) ∧ w' = u))
    (e1 : bits .and .i64 ((b : Int) / 4503599627370496) 2047 = (e : Int)) (mc : bits .andNot .u64 (b : Int) 9218868437227405312 = (g : Int))
    (ey : x + ((e : Int) - 1023) = y) (hy0 : -1075 ≤ y) (hy1 : y < -1022) (ey2 : y + 53 = y2) (hy2 : -1022 ≤ y2) (hy3 : y2 ≤ 1023) (ez : (y2 + 1023) * 4503599627370496 = z) (hz0 : 0 ≤ z) (hz1 : z < 9223372036854775808) (je : bits .or .u64 (g : Int) z = (d : Int))
    (mu : ∀ u : World, (binOp .mul 37 (.float .f64 4368491638549381120) (.float .f64 d)).run Tryd.prog u = .ok (.float .f64 c) u) :
    Calls Tryd.prog 143 #[.float .f64 b, .int .i64 x] w fun r w' => r = .returned (.float .f64 c) ∧ w' = w := by
  go_enter Tryd.func143, Tryd.ntmps143
  go_wp2_with fail
  refine (Calls.mono (HI.out _)) ?_
  rintro r w1 ⟨rfl, hw⟩
  rw [hw]
  clear hw w1
  go_wp2_with fail
  refine (Calls.mono (HN.out _)) ?_
  rintro r w1 ⟨rfl, hw⟩
  rw [hw]
  clear hw w1
  go_wp2_with fail
  refine (Calls.mono (HZ.out _)) ?_
  rintro r w1 ⟨rfl, hw⟩
  rw [hw]
  clear hw w1
  go_wp2
  go_ret
  exact ⟨rfl, rfl⟩
set_option maxHeartbeats 4000000 in
theorem ldexp_inf (b e g : Nat) (x y : Int) (w : World) (hb : b < 9223372036854775808) (hx0 : -3000 ≤ x) (hx1 : x ≤ 3000) (he0 : 0 < e) (he1 : e < 2047) (hg : g < 4503599627370496)
    (z0 : (FloatKind.f64.format.order b 0 == some .eq) = false)
    (HI : Hid (∀ u, Calls Tryd.prog 149 #[.float .f64 b, .int .i64 0] u fun r w' => r = .returned (.bool false) ∧ w' = u))
    (HN : Hid (∀ u, Calls Tryd.prog 150 #[.float .f64 b] u fun r w' => r = .returned (.bool false) ∧ w' = u))
    (HZ : Hid (∀ u, Calls Tryd.prog 151 #[.float .f64 b] u fun r w' => r = .returned (.tuple #[.float .f64 b, .int .i64 0]) ∧ w' = u))
    (e1 : bits .and .i64 ((b : Int) / 4503599627370496) 2047 = (e : Int)) (mc : bits .andNot .u64 (b : Int) 9218868437227405312 = (g : Int))
    (ey : x + ((e : Int) - 1023) = y) (hy0 : 1023 < y) (z1 : (FloatKind.f64.format.order b 0 == some .lt) = false) :
    Calls Tryd.prog 143 #[.float .f64 b, .int .i64 x] w fun r w' => r = .returned (.float .f64 9218868437227405312) ∧ w' = w := by
  go_enter Tryd.func143, Tryd.ntmps143
  go_wp2_with fail
  refine (Calls.mono (HI.out _)) ?_
  rintro r w1 ⟨rfl, hw⟩
  rw [hw]
  clear hw w1
  go_wp2_with fail
  refine (Calls.mono (HN.out _)) ?_
  rintro r w1 ⟨rfl, hw⟩
  rw [hw]
  clear hw w1
  go_wp2_with fail
  refine (Calls.mono (HZ.out _)) ?_
  rintro r w1 ⟨rfl, hw⟩
  rw [hw]
  clear hw w1
  go_wp2_with fail
  refine (Calls.mono (inf_any _)) ?_
  rintro r w1 ⟨rfl, hw⟩
  rw [hw]
  clear hw w1
  go_wp2
  go_ret
  exact ⟨rfl, rfl⟩
end Go.Proofs.YthilnddhehbjiaaDoor.B

/- math's Ldexp of a whole number of at most 2^53. -/
namespace Go.Proofs.YthilnddhehbjiaaDoor.B
open Go.RowKit
set_option linter.unusedVariables false
set_option maxRecDepth 20000

theorem bl_le53' (X : Nat) (h : X ≤ 9007199254740991) : bl X ≤ 53 := by
  by_cases h0 : X = 0
  · subst h0; rw [bl_zero]; omega
  · have := (Nat.pow_lt_pow_iff_right (a := 2) (by omega)).1 (Nat.lt_of_le_of_lt (bl_ge X h0) (show X < 2 ^ 53 by omega))
    omega

theorem bits_mask1 (z : Nat) (hz : z < 18446744073709551616) : bits .and .u64 (z : Int) 1 = ((z % 2 : Nat) : Int) := by
  have h := bits_mask .u64 64 (by decide) wraps_u64 1 (by decide) (z : Int) (by omega) (by omega)
  rw [show ((2 : Int) ^ 1 - 1) = 1 from rfl] at h
  rw [h]
  omega

def LP : Nat := 1074
theorem dLP : Ieee.double.leastPlace = -(LP : Int) := by decide

theorem val_plain (e g : Nat) (he : 0 < e) (hg : g < 4503599627370496) : val Ieee.double (e * 4503599627370496 + g) = (4503599627370496 + g) * 2 ^ (e - 1) := by
  obtain ⟨j, rfl⟩ : ∃ j, e = j + 1 := ⟨e - 1, by omega⟩
  have h := val_at Ieee.double j (4503599627370496 + g) (.inr (by rw [dBin]; omega)) (by rw [dBin]; omega)
  rw [dBin] at h
  rw [show (j + 1) * 4503599627370496 + g = j * 4503599627370496 + (4503599627370496 + g) by omega, h]
  rfl
theorem val_tiny (r : Nat) (h : r < 4503599627370496) : val Ieee.double r = r := by unfold val; rw [dBin, if_pos h]

theorem two52 : (4503599627370496 : Nat) = 2 ^ 52 := rfl

/-- the fields of a whole number as a number of 64 bits. -/
structure Whole (c e g : Nat) : Prop where
  e0 : 0 < e
  e1 : e < 1077
  g0 : g < 4503599627370496
  v : (4503599627370496 + g) * 2 ^ (e - 1) = c * 2 ^ LP
  ex : e = bl c + 1022
  gx : ∀ k, bl c + k = 53 → 4503599627370496 + g = c * 2 ^ k
  top : bl c = 54 → g = 0

theorem whole_of (c : Nat) (h0 : 0 < c) (h1 : c ≤ 9007199254740992) : ∃ e g, Whole c e g := by
  by_cases ht : c = 9007199254740992
  · subst ht
    have hb : bl 9007199254740992 = 54 := bl_eq _ 53 (by decide) (by decide)
    obtain ⟨e, he⟩ : ∃ e, e = 1076 := ⟨_, rfl⟩
    refine ⟨e, 0, by omega, by omega, by omega, ?_, by rw [hb]; omega, fun k hk => by omega, fun _ => rfl⟩
    have key : ∀ q, q = LP + 1 → (4503599627370496 + 0) * 2 ^ q = 9007199254740992 * 2 ^ LP := by
      intro q hq
      rw [hq, Nat.pow_succ]
      generalize 2 ^ LP = Q
      omega
    exact key (e - 1) (by rw [he]; rfl)
  · have hb1 := bl_pos c (by omega)
    have hb2 : bl c ≤ 53 := by
      have := (Nat.pow_lt_pow_iff_right (a := 2) (by omega)).1 (Nat.lt_of_le_of_lt (bl_ge c (by omega)) (show c < 2 ^ 53 by omega))
      omega
    obtain ⟨k, hk⟩ : ∃ k, bl c + k = 53 := ⟨53 - bl c, by omega⟩
    have hlo : 2 ^ 52 ≤ c * 2 ^ k := by
      have h2 := bl_ge c (by omega)
      have h3 : 2 ^ (bl c - 1) * 2 ^ k ≤ c * 2 ^ k := Nat.mul_le_mul_right _ h2
      rw [← Nat.pow_add, show bl c - 1 + k = 52 by omega] at h3
      exact h3
    have hhi : c * 2 ^ k < 2 ^ 53 := by
      have h3 := Nat.mul_lt_mul_of_pos_right (bl_lt c) (Nat.two_pow_pos k)
      rw [← Nat.pow_add, hk] at h3
      exact h3
    have e52 : (2 : Nat) ^ 52 = 4503599627370496 := rfl
    have e53 : (2 : Nat) ^ 53 = 9007199254740992 := rfl
    rw [e52] at hlo
    rw [e53] at hhi
    refine ⟨bl c + 1022, c * 2 ^ k - 4503599627370496, by omega, by omega, by omega, ?_, rfl, fun k' hk' => ?_, fun h => by omega⟩
    · rw [show 4503599627370496 + (c * 2 ^ k - 4503599627370496) = c * 2 ^ k by omega, Nat.mul_assoc, ← Nat.pow_add]
      congr 2
      show k + (bl c + 1022 - 1) = 1074
      omega
    · obtain rfl : k' = k := by omega
      omega

theorem ofInt_whole (c e g : Nat) (h : Whole c e g) : floatOfInt .f64 (c : Int) = bw false e g := by
  have hr : e * 4503599627370496 + g < Ieee.double.infRung := by rw [dInf]; have := h.e1; have := h.g0; omega
  have hn := nearest_exact Ieee.double false c LP (e * 4503599627370496 + g) hr (by rw [val_plain e g h.e0 h.g0, h.v])
  rw [dLP] at hn
  rw [bw_word, ← hn]
  show Ieee.double.nearest (decide ((c : Int) < 0)) (c : Int).natAbs 0 = _
  rw [show decide ((c : Int) < 0) = false from decide_eq_false (by omega), Int.natAbs_natCast]
  congr 1

theorem pow_val (e : Nat) (he : 0 < e) (q : Nat) (hq : e - 1 = q) : val Ieee.double (e * 4503599627370496 + 0) = 2 ^ (52 + q) := by
  rw [val_plain e 0 he (by omega), hq, Nat.add_zero, Nat.pow_add]
theorem pow_val2 (e : Nat) (he : 0 < e) (q r : Nat) (hq : e - 1 = q) (hr : 52 + q = r) : val Ieee.double (e * 4503599627370496 + 0) = 2 ^ r := by rw [pow_val e he q hq, hr]
theorem one_val : val Ieee.double 4607182418800017408 = 2 ^ LP := pow_val2 1023 (by omega) (LP - 52) LP rfl rfl
theorem small_val : val Ieee.double 4368491638549381120 * 2 ^ 53 = 2 ^ LP := by
  have h : val Ieee.double 4368491638549381120 = 2 ^ (LP - 53) := pow_val2 970 (by omega) (LP - 105) (LP - 53) rfl rfl
  rw [h, ← Nat.pow_add]
  congr 1

theorem mul_one (d : Nat) (hd : d < 9218868437227405312) (h0 : 0 < d) (t : TypeId) (u : World) : (binOp .mul t (.float .f64 4607182418800017408) (.float .f64 d)).run Tryd.prog u = .ok (.float .f64 d) u := by
  refine run_float_arith u .mul t .f64 _ _ _ ?_
  show Ieee.double.mul 4607182418800017408 d = some d
  have hw : ∀ r : Nat, Ieee.double.word false r = r := fun r => by simp [Ieee.Format.word]
  have hp : 0 < val Ieee.double d := by have := val_lt Ieee.double (r := 0) (s := d) h0; omega
  have := mul_exact Ieee.double dHs false false 4607182418800017408 d d LP dLP (by rw [dInf]; omega) (by rw [dInf]; omega) (by rw [dInf]; omega) (by rw [one_val, Nat.mul_comm]) (by rw [one_val]; have := Nat.two_pow_pos LP; omega) (by omega)
  rw [hw, hw] at this
  exact this
theorem mul_small (d c : Nat) (hd : d < 9218868437227405312) (hc : c < 4503599627370496) (h0 : 0 < c) (hv : val Ieee.double d = c * 2 ^ 53) (t : TypeId) (u : World) : (binOp .mul t (.float .f64 4368491638549381120) (.float .f64 d)).run Tryd.prog u = .ok (.float .f64 c) u := by
  refine run_float_arith u .mul t .f64 _ _ _ ?_
  show Ieee.double.mul 4368491638549381120 d = some c
  have hw : ∀ r : Nat, Ieee.double.word false r = r := fun r => by simp [Ieee.Format.word]
  have hs := small_val
  have hp : val Ieee.double 4368491638549381120 ≠ 0 := by intro h; rw [h] at hs; have := Nat.two_pow_pos LP; omega
  have := mul_exact Ieee.double dHs false false 4368491638549381120 d c LP dLP (by rw [dInf]; omega) (by rw [dInf]; omega) (by rw [dInf]; omega) (by rw [hv, val_tiny c hc, ← hs]; grind) hp (by rw [hv]; have := Nat.two_pow_pos 53; have := Nat.mul_pos h0 this; omega)
  rw [hw, hw, Bool.xor_false, hw] at this
  exact this

theorem nan_no (e g : Nat) (he : e < 2047) (hg : g < 4503599627370496) (u : World) : Calls Tryd.prog 150 #[.float .f64 (bw false e g)] u fun r w' => r = .returned (.bool false) ∧ w' = u := by
  have := isNaN_any false e g (by omega) hg u
  rw [odd_lt e g he] at this
  exact this

theorem ldexp_any (c e g : Nat) (x : Int) (w : World) (hw : Whole c e g) (h0 : 0 < c) (h1 : c ≤ 9007199254740992) (hx0 : -1074 ≤ x) (hx1 : x ≤ 971) (hn : x = -1074 ∨ 4503599627370496 ≤ c) :
    Calls Tryd.prog 143 #[.float .f64 (bw false e g), .int .i64 x] w fun r w' => r = .returned (.float .f64 ((x + 1074).toNat * 4503599627370496 + c)) ∧ w' = w := by
  have he0 := hw.e0
  have he1 := hw.e1
  have hg := hw.g0
  have hb : bw false e g = e * 4503599627370496 + g := by unfold bw; simp
  have z0 : (FloatKind.f64.format.order (bw false e g) 0 == some .eq) = false := by rw [eq_zero false e g (by omega) hg]; simp; omega
  have HI : Hid (∀ u, Calls Tryd.prog 149 #[.float .f64 (bw false e g), .int .i64 0] u fun r w' => r = .returned (.bool false) ∧ w' = u) := fun u => isInf0 e g (by omega) hg u
  have HN : Hid (∀ u, Calls Tryd.prog 150 #[.float .f64 (bw false e g)] u fun r w' => r = .returned (.bool false) ∧ w' = u) := fun u => nan_no e g (by omega) hg u
  have HZ : Hid (∀ u, Calls Tryd.prog 151 #[.float .f64 (bw false e g)] u fun r w' => r = .returned (.tuple #[.float .f64 (bw false e g), .int .i64 0]) ∧ w' = u) := fun u => normalize_any e g he0 (by omega) hg u
  have e1 := bw_exp false e g (by omega) hg
  have mc := mask_clear e g (by omega) hg
  have hbl : bl c ≤ 54 := by have := hw.ex; omega
  have hblp := bl_pos c (by omega)
  have hex := hw.ex
  by_cases hc : 4503599627370496 ≤ c
  · have hb53 : 53 ≤ bl c := by
      have := (bl_gt c 52).2 (by rw [← two52]; exact hc)
      omega
    by_cases hb54 : bl c = 54
    · have hg0 := hw.top hb54
      have hc2 : c = 9007199254740992 := by
        have := (bl_gt c 53).1 (by omega)
        have e53 : (2 : Nat) ^ 53 = 9007199254740992 := rfl
        omega
      subst hg0
      by_cases hinf : x = 971
      · subst hinf
        have := ldexp_inf (bw false e 0) e 0 971 1024 w (by rw [hb]; omega) (by omega) (by omega) he0 (by omega) (by omega) z0 HI HN HZ e1 mc (by omega) (by omega) (by rw [lt_zero false e 0 (by omega) (by omega) (odd_zero e) (by simp; omega)])
        rw [hc2]
        exact this
      · obtain ⟨E, hE⟩ : ∃ E : Nat, (E : Int) = x + ((e : Int) - 1023) + 1023 := ⟨(x + ((e : Int) - 1023) + 1023).toNat, by omega⟩
        have hd : bw false E 0 = (x + 1074).toNat * 4503599627370496 + c := by unfold bw; simp; omega
        have := ldexp_norm (bw false e 0) e 0 (bw false E 0) x (x + ((e : Int) - 1023)) ((E : Int) * 4503599627370496) w (by rw [hb]; omega) (by omega) (by omega) he0 (by omega) (by omega) z0 HI HN HZ e1 mc rfl (by omega) (by omega) (by omega) (by omega) (by omega) (join_exp E 0 (by omega) (by omega)) (mul_one _ (by rw [hd]; omega) (by rw [hd]; omega) _)
        rw [hd] at this
        exact this
    · have hb3 : bl c = 53 := by omega
      have hgx := hw.gx 0 (by omega)
      rw [Nat.pow_zero, Nat.mul_one] at hgx
      obtain ⟨E, hE⟩ : ∃ E : Nat, (E : Int) = x + ((e : Int) - 1023) + 1023 := ⟨(x + ((e : Int) - 1023) + 1023).toNat, by omega⟩
      have hd : bw false E g = (x + 1074).toNat * 4503599627370496 + c := by unfold bw; simp; omega
      have := ldexp_norm (bw false e g) e g (bw false E g) x (x + ((e : Int) - 1023)) ((E : Int) * 4503599627370496) w (by rw [hb]; omega) (by omega) (by omega) he0 (by omega) hg z0 HI HN HZ e1 mc rfl (by omega) (by omega) (by omega) (by omega) (by omega) (join_exp E g (by omega) hg) (mul_one _ (by rw [hd]; omega) (by rw [hd]; omega) _)
      rw [hd] at this
      exact this
  · obtain rfl : x = -1074 := by omega
    have hb52 : bl c ≤ 52 := by
      by_cases h : 52 < bl c
      · have := (bl_gt c 52).1 h
        rw [← two52] at this
        omega
      · omega
    obtain ⟨k, hk⟩ : ∃ k, bl c + k = 53 := ⟨53 - bl c, by omega⟩
    have hgx := hw.gx k hk
    obtain ⟨E, hE⟩ : ∃ E : Nat, E = bl c + 1 := ⟨_, rfl⟩
    have hd : bw false E g = E * 4503599627370496 + g := by unfold bw; simp
    have hv : val Ieee.double (bw false E g) = c * 2 ^ 53 := by
      rw [hd, val_plain E g (by omega) hg, hgx, Nat.mul_assoc, ← Nat.pow_add, show k + (E - 1) = 53 by omega]
    have := ldexp_sub (bw false e g) e g (bw false E g) c (-1074) (-1074 + ((e : Int) - 1023)) (-1074 + ((e : Int) - 1023) + 53) ((E : Int) * 4503599627370496) w (by rw [hb]; omega) (by omega) (by omega) he0 (by omega) hg z0 HI HN HZ e1 mc rfl (by omega) (by omega) rfl (by omega) (by omega) (by omega) (by omega) (by omega) (join_exp E g (by omega) hg) (mul_small _ c (by rw [hd]; omega) (by omega) h0 hv _)
    simpa using this

set_option maxHeartbeats 1000000 in
theorem Ldexp_any (c e g : Nat) (x : Int) (w : World) (hw : Whole c e g) (h0 : 0 < c) (h1 : c ≤ 9007199254740992) (hx0 : -1074 ≤ x) (hx1 : x ≤ 971) (hn : x = -1074 ∨ 4503599627370496 ≤ c) :
    Calls Tryd.prog 124 #[.float .f64 (bw false e g), .int .i64 x] w fun r w' => r = .returned (.float .f64 ((x + 1074).toNat * 4503599627370496 + c)) ∧ w' = w := by
  have H := hid (ldexp_any c e g x w hw h0 h1 hx0 hx1 hn)
  generalize bw false e g = b at *
  generalize (x + 1074).toNat * 4503599627370496 + c = d at *
  clear hn hw
  go_enter Tryd.func124, Tryd.ntmps124
  go_wp2_with fail
  refine (Calls.mono H.out) ?_
  rintro r w1 ⟨rfl, rfl⟩
  go_wp2
  go_ret
  exact ⟨rfl, rfl⟩

set_option maxHeartbeats 1000000 in
theorem ldexp_nought (x : Int) (w : World) : Calls Tryd.prog 143 #[.float .f64 0, .int .i64 x] w fun r w' => r = .returned (.float .f64 0) ∧ w' = w := by
  have z0 : (FloatKind.f64.format.order 0 0 == some .eq) = true := eq_zero false 0 0 (by omega) (by omega)
  go_enter Tryd.func143, Tryd.ntmps143
  go_wp2
  go_ret
  exact ⟨rfl, rfl⟩
theorem Ldexp_nought (x : Int) (w : World) : Calls Tryd.prog 124 #[.float .f64 0, .int .i64 x] w fun r w' => r = .returned (.float .f64 0) ∧ w' = w := by
  have H := hid (ldexp_nought x w)
  go_enter Tryd.func124, Tryd.ntmps124
  go_wp2_with fail
  refine (Calls.mono H.out) ?_
  rintro r w1 ⟨rfl, rfl⟩
  go_wp2
  go_ret
  exact ⟨rfl, rfl⟩
end Go.Proofs.YthilnddhehbjiaaDoor.B

