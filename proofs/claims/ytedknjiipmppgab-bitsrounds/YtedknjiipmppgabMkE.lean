/- A whole number below 2^53 times a power of two that is not too great is a number of 64 bits. -/
import Derived.Test.YtedknjiipmppgabW0
namespace Go.Proofs.Ytedknjiipmppgab

/-- a whole number below 2^53 times a power of two that is not too great is a number. -/
theorem mk_exists (k : Nat) : ∀ m : Nat, m < 9007199254740992 → k ≤ 2045 → ∃ e f, e < 2047 ∧ f < 4503599627370496 ∧ val Ieee.double (e * 4503599627370496 + f) = m * 2 ^ k := by
  induction k with
  | zero =>
    intro m hm _
    by_cases h : m < 4503599627370496
    · refine ⟨0, m, by omega, h, ?_⟩
      unfold val
      rw [dBin, Nat.zero_mul, Nat.zero_add, if_pos h, Nat.pow_zero, Nat.mul_one]
    · refine ⟨1, m - 4503599627370496, by omega, by omega, ?_⟩
      have e1 : 1 * 4503599627370496 + (m - 4503599627370496) = m := by omega
      rw [e1]
      unfold val
      rw [dBin, if_neg h]
      have e2 : m % 4503599627370496 = m - 4503599627370496 := by omega
      have e3 : m / 4503599627370496 - 1 = 0 := by omega
      rw [e2, e3, Nat.pow_zero, Nat.mul_one, Nat.mul_one]
      omega
  | succ k ih =>
    intro m hm hk
    by_cases h : m < 4503599627370496
    · obtain ⟨e, f, he, hf, hv⟩ := ih (2 * m) (by omega) (by omega)
      refine ⟨e, f, he, hf, ?_⟩
      rw [hv, Nat.pow_succ, Nat.mul_comm 2 m, Nat.mul_assoc, Nat.mul_comm 2]
    · refine ⟨k + 2, m - 4503599627370496, by omega, by omega, ?_⟩
      unfold val
      rw [dBin, if_neg (by omega)]
      have e2 : ((k + 2) * 4503599627370496 + (m - 4503599627370496)) % 4503599627370496 = m - 4503599627370496 := by omega
      have e3 : ((k + 2) * 4503599627370496 + (m - 4503599627370496)) / 4503599627370496 - 1 = k + 1 := by omega
      have e4 : 4503599627370496 + (m - 4503599627370496) = m := by omega
      rw [e2, e3, e4]

end Go.Proofs.Ytedknjiipmppgab
