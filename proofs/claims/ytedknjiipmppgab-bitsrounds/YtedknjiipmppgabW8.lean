/- What the document's Make, Endless, Of, NaN answer; what its Join answers. -/
import Derived.Test.YtedknjiipmppgabW7
import Derived.Test.YtedknjiipmppgabMkE
namespace Go.Proofs.Ytedknjiipmppgab
open Go.RowKit
attribute [local go_sem] f64bits f64frombits

/-- where the exponent is the least or the fraction is full, the fields are seen. -/
theorem mk_fields (m k e f : Nat) (hm : m < 9007199254740992) (hn : k = 0 ∨ 4503599627370496 ≤ m) (hf : f < 4503599627370496) (hv : val Ieee.double (e * 4503599627370496 + f) = m * 2 ^ k) :
    (m < 4503599627370496 ∧ e = 0 ∧ f = m ∧ k = 0) ∨ (4503599627370496 ≤ m ∧ e = k + 1 ∧ f + 4503599627370496 = m) := by
  have key : ∀ E F, F < 4503599627370496 → val Ieee.double (E * 4503599627370496 + F) = m * 2 ^ k → e = E ∧ f = F := by
    intro E F hF h
    have := val_inj Ieee.double (hv.trans h.symm)
    omega
  by_cases h : m < 4503599627370496
  · have hk0 : k = 0 := by omega
    left
    obtain ⟨h1, h2⟩ := key 0 m h (by unfold val; rw [dBin, Nat.zero_mul, Nat.zero_add, if_pos h, hk0, Nat.pow_zero, Nat.mul_one])
    exact ⟨h, h1, h2, hk0⟩
  · right
    have e2 : ((k + 1) * 4503599627370496 + (m - 4503599627370496)) % 4503599627370496 = m - 4503599627370496 := by omega
    have e3 : ((k + 1) * 4503599627370496 + (m - 4503599627370496)) / 4503599627370496 - 1 = k := by omega
    have e4 : 4503599627370496 + (m - 4503599627370496) = m := by omega
    obtain ⟨h1, h2⟩ := key (k + 1) (m - 4503599627370496) (by omega) (by unfold val; rw [dBin, if_neg (by omega), e2, e3, e4])
    exact ⟨by omega, h1, by omega⟩

theorem half_step (n : Nat) (y : Int) (V : Nat) (hy : -1074 < y) (h : n * 2 ^ (y + 1074).toNat = V) : 2 * n * 2 ^ (y - 1 + 1074).toNat = V := by
  have h2 : (y + 1074).toNat = (y - 1 + 1074).toNat + 1 := by omega
  rw [h2, Nat.pow_succ, Nat.mul_comm _ 2, ← Nat.mul_assoc, Nat.mul_comm n 2] at h
  exact h

theorem ret_fb {a b : Nat} {c : Bool} (h : a = b) : Ending.returned (.tuple #[.float .f64 a, .bool c]) = .returned (.tuple #[.float .f64 b, .bool c]) := by rw [h]

/-- what Make keeps: the value. -/
def MkRel (V : Nat) (p q : Value) : Prop := ∃ n y : Int, 0 ≤ n ∧ n < 9007199254740992 ∧ -1074 ≤ y ∧ y ≤ 971 ∧ p = .int .u64 n ∧ q = .int .i64 y ∧ n.toNat * 2 ^ (y + 1074).toNat = V

theorem mkrel_step (V : Nat) (n y : Int) (h0 : 0 ≤ n) (h1 : n < 4503599627370496) (hy : -1074 < y) (hy1 : y ≤ 971) (h : n.toNat * 2 ^ (y + 1074).toNat = V) : MkRel V (.int .u64 (2 * n)) (.int .i64 (y - 1)) := by
  refine ⟨2 * n, y - 1, by omega, by omega, by omega, by omega, rfl, rfl, ?_⟩
  have e : (2 * n).toNat = 2 * n.toNat := by omega
  rw [e]; exact half_step n.toNat y V hy h

theorem mk_end (V : Nat) (n y : Int) (e f : Nat) (hn0 : 0 ≤ n) (hn : n < 9007199254740992) (hy0 : -1074 ≤ y) (hy1 : y ≤ 971) (hf : f < 4503599627370496) (hk : y = -1074 ∨ 4503599627370496 ≤ n ∨ n = 0)
    (hE : n.toNat * 2 ^ (y + 1074).toNat = V) (hV : val Ieee.double (e * 4503599627370496 + f) = V) :
    (n = 0 ∧ e = 0 ∧ f = 0) ∨ (0 < n ∧ n < 4503599627370496 ∧ y = -1074 ∧ e = 0 ∧ (f : Int) = n) ∨ (4503599627370496 ≤ n ∧ (e : Int) = y + 1075 ∧ (f : Int) + 4503599627370496 = n) := by
  by_cases hz : n = 0
  · left
    subst hz
    have h0 : val Ieee.double (e * 4503599627370496 + f) = val Ieee.double 0 := by
      rw [hV, ← hE, val_zero]; simp
    have := val_inj Ieee.double h0
    omega
  · right
    rcases mk_fields n.toNat (y + 1074).toNat e f (by omega) (by omega) hf (hV.trans hE.symm) with ⟨h1, h2, h3, h4⟩ | ⟨h1, h2, h3⟩
    · left; omega
    · right; omega

set_option maxRecDepth 100000 in
set_option maxHeartbeats 4000000 in
theorem make_is (neg : Bool) (m : Nat) (x : Int) (e f : Nat) (hm : m < 9007199254740992) (hx0 : -1074 ≤ x) (hx1 : x ≤ 971) (he : e < 2047) (hf : f < 4503599627370496)
    (hv : val Ieee.double (e * 4503599627370496 + f) = m * 2 ^ (x + 1074).toNat) (w : World) :
    Calls Try.prog 41 #[.bool neg, .int .u64 m, .int .i64 x] w fun r w' => r = .returned (.tuple #[.float .f64 (bw neg e f), .bool true]) ∧ w' = w := by
  have start : MkRel (m * 2 ^ (x + 1074).toNat) (.int .u64 m) (.int .i64 x) := ⟨m, x, by omega, by omega, hx0, hx1, rfl, rfl, by rw [Int.toNat_natCast]⟩
  generalize m * 2 ^ (x + 1074).toNat = V at start hv
  have HV : Hid (val Ieee.double (e * 4503599627370496 + f) = V) := hv
  clear hv hm hx0 hx1
  go_enter Try.func41, Try.ntmps41
  go_wp2
  go_loop [1, 2] (fun p q => MkRel V p q) (fun _ q => (intOf q + 1074).toNat)
  case atStart => exact start
  case round =>
    clear start
    obtain ⟨n, y, hn0, hn, hy0, hy1, rfl, rfl, hE⟩ := hrel
    have HE : Hid (n.toNat * 2 ^ (y + 1074).toNat = V) := hE
    clear hE
    by_cases hc : 0 < n ∧ n < 4503599627370496 ∧ -1074 < y
    · obtain ⟨c1, c2, c3⟩ := hc
      clear he hf HV
      go_wp2
      go_round
      case rel => exact mkrel_step V n y hn0 c2 c3 hy1 HE.out
      case measure => simp [intOf]; omega
    · have hk : y = -1074 ∨ 4503599627370496 ≤ n ∨ n = 0 := by omega
      rcases mk_end V n y e f hn0 hn hy0 hy1 hf hk HE.out HV.out with ⟨rfl, rfl, rfl⟩ | ⟨k1, k2, rfl, rfl, k5⟩ | ⟨k1, k2, k3⟩
      · clear hc hk HE HV
        go_wp2
        go_loop [1, 2] (fun p q => p = .int .u64 0 ∧ q = .int .i64 y) (fun _ q => 0)
        case atStart => exact ⟨rfl, rfl⟩
        case round =>
          obtain ⟨rfl, rfl⟩ := hrel
          cases neg
          · go_wp2
            go_ret2
            exact ⟨ret_fb (by unfold bw; simp only [Bool.toNat_false]), rfl⟩
          · go_wp2
            go_ret2
            exact ⟨ret_fb (by unfold bw; simp only [Bool.toNat_true]), rfl⟩
      · have k0 : (n == 0) = false := beq_eq_false_iff_ne.2 (by omega)
        have K5 : Hid ((f : Int) = n) := k5
        clear hc hk HE HV k5
        go_wp2
        go_loop [1, 2] (fun p q => p = .int .u64 n ∧ q = .int .i64 (-1074)) (fun _ q => 0)
        case atStart => exact ⟨rfl, rfl⟩
        case round =>
          obtain ⟨rfl, rfl⟩ := hrel
          cases neg
          · go_wp2
            all_goals go_ret2
            all_goals exact ⟨ret_fb (by unfold bw; simp only [Bool.toNat_false]; have := K5.out; omega), rfl⟩
          · go_wp2
            all_goals go_ret2
            all_goals exact ⟨ret_fb (by unfold bw; simp only [Bool.toNat_true]; have := K5.out; omega), rfl⟩
      · have k0 : (n == 0) = false := beq_eq_false_iff_ne.2 (by omega)
        have K2 : Hid ((e : Int) = y + 1075 ∧ (f : Int) + 4503599627370496 = n) := ⟨k2, k3⟩
        clear hc hk HE HV k2 k3
        go_wp2
        go_loop [1, 2] (fun p q => p = .int .u64 n ∧ q = .int .i64 y) (fun _ q => 0)
        case atStart => exact ⟨rfl, rfl⟩
        case round =>
          obtain ⟨rfl, rfl⟩ := hrel
          cases neg
          · go_wp2
            all_goals go_ret2
            all_goals exact ⟨ret_fb (by unfold bw; simp only [Bool.toNat_false]; have := K2.out; omega), rfl⟩
          · go_wp2
            all_goals go_ret2
            all_goals exact ⟨ret_fb (by unfold bw; simp only [Bool.toNat_true]; have := K2.out; omega), rfl⟩
end Go.Proofs.Ytedknjiipmppgab
