/- Plain facts for BitsRounds: halves and sums with a sign, the middle of two neighbours of 32 bits, comparisons by values. -/
import Derived.Test.YtedknjiipmppgabR1
import Derived.Test.YtedknjiipmppgabX32
namespace Go.Proofs.Ytedknjiipmppgab
open Go.RowKit

/-- half of a number, exact, with its sign. -/
theorem div_two_s (s : Bool) (d h : Nat) (hd : d < 9218868437227405312) (hh : h < 9218868437227405312) (hv : val Ieee.double d = 2 * val Ieee.double h) (hp : 0 < val Ieee.double h) :
    Ieee.double.div (Ieee.double.word s d) 4611686018427387904 = some (Ieee.double.word s h) := by
  obtain ⟨m, k, e1, v1, hm⟩ := read_word_bd Ieee.double s d (by rw [dInf]; exact hd) dHs
  have e2 : Ieee.double.read 4611686018427387904 = .number false 4503599627370496 (-51) := by decide
  unfold Ieee.Format.div
  rw [e1, e2]
  unfold Ieee.Datum.quotient
  simp only
  have hm0 : m ≠ 0 := by
    rintro rfl
    rw [Nat.zero_mul] at v1; omega
  have hl := (Nat.log2_eq_iff hm0 (k := m.log2)).1 rfl
  have hL : m.log2 < 53 := by
    rw [dBin] at hm
    refine (Nat.pow_lt_pow_iff_right (a := 2) (by omega)).1 (Nat.lt_of_le_of_lt hl.1 (Nat.lt_of_lt_of_le hm (by decide)))
  have hlog : Nat.log2 4503599627370496 = 52 := by decide
  have hfb : Ieee.double.fractionBits = 52 := rfl
  rw [if_neg (by decide), hlog, hfb, Nat.shiftLeft_eq, Bool.xor_false]
  generalize m.log2 = L at *
  obtain ⟨q, hq⟩ : ∃ q, 52 + 2 + 52 - L = q + 52 := ⟨54 - L, by omega⟩
  rw [hq, Nat.pow_add, ← Nat.mul_assoc, show (4503599627370496 : Nat) = 2 ^ 52 from rfl, Nat.mul_div_cancel _ (Nat.two_pow_pos 52), Nat.mul_mod_left]
  show some (Ieee.double.nearest _ (2 * (m * 2 ^ q) + 0) _) = _
  rw [Nat.add_zero]
  have hq2 : 2 ≤ q := by omega
  have ep : Ieee.double.leastPlace + (k : Int) - (-51) - ((q + 52 : Nat) : Int) - 1 = Ieee.double.leastPlace + (k : Int) - ((q + 2 : Nat) : Int) := by omega
  rw [ep]
  rw [nearest_exact2 Ieee.double _ (2 * (m * 2 ^ q)) k (q + 2) h (by rw [dInf]; exact hh) ?_ ?_]
  · rw [Nat.mul_assoc, Nat.mul_right_comm, v1, hv, Nat.pow_add]
    have : (2 : Nat) ^ 2 = 4 := rfl
    rw [this]
    generalize val Ieee.double h = H
    generalize 2 ^ q = T
    have h1 : 2 * (2 * H * T) = 4 * (H * T) := by rw [Nat.mul_assoc 2 H T]; omega
    have h2 : H * (T * 4) = 4 * (H * T) := by rw [← Nat.mul_assoc, Nat.mul_comm]
    rw [h1, h2]
  · have : 0 < m * 2 ^ q := Nat.mul_pos (by omega) (Nat.two_pow_pos _)
    omega

/-- the sum of two numbers of one sign that is a number. -/
theorem add_same (s : Bool) (e0 f0 e1 f1 eS fS : Nat) (he0 : e0 < 2047) (hf0 : f0 < 4503599627370496) (he1 : e1 < 2047) (hf1 : f1 < 4503599627370496) (heS : eS < 2047) (hfS : fS < 4503599627370496)
    (h : val Ieee.double (e0 * 4503599627370496 + f0) + val Ieee.double (e1 * 4503599627370496 + f1) = val Ieee.double (eS * 4503599627370496 + fS)) (hp : 0 < val Ieee.double (eS * 4503599627370496 + fS)) :
    floatBits .add .f64 (bw s e0 f0) (bw s e1 f1) = some (bw s eS fS) := by
  show Ieee.double.add _ _ = _
  rw [bw_word, bw_word, bw_word]
  have hnz : eS * 4503599627370496 + fS ≠ 0 := by
    intro hz; rw [hz, val_zero] at hp; omega
  have := add_exact Ieee.double dHs s s (e0 * 4503599627370496 + f0) (e1 * 4503599627370496 + f1) (eS * 4503599627370496 + fS) (by rw [dInf]; omega) (by rw [dInf]; omega) (by rw [dInf]; omega) (by rw [← h]; unfold sg; cases s <;> simp <;> omega)
  rw [this, if_neg hnz]
  congr 2
  unfold sg
  cases s
  · simp only [Bool.false_eq_true, if_false]; exact decide_eq_false (by omega)
  · simp only [if_true]; exact decide_eq_true (by omega)

/-- the sum of two neighbours of 32 bits, and the half of it. -/
theorem mid_is (s : Bool) (q : Nat) (hq : q ≤ 2139095039) (e0 f0 e1 f1 : Nat) (he0 : e0 < 2047) (hf0 : f0 < 4503599627370496) (he1 : e1 < 2047) (hf1 : f1 < 4503599627370496)
    (h0 : val Ieee.double (e0 * 4503599627370496 + f0) = val Ieee.single q * 2 ^ gp) (h1 : val Ieee.double (e1 * 4503599627370496 + f1) = val Ieee.single (q + 1) * 2 ^ gp) :
    ∃ S em fm, em < 2047 ∧ fm < 4503599627370496 ∧ 2 * val Ieee.double (em * 4503599627370496 + fm) = val Ieee.single q * 2 ^ gp + val Ieee.single (q + 1) * 2 ^ gp ∧
      floatBits .add .f64 (bw s e0 f0) (bw s e1 f1) = some S ∧ floatBits .add .f64 (bw s e1 f1) (bw s e0 f0) = some S ∧ floatBits .quo .f64 S 4611686018427387904 = some (bw s em fm) := by
  have hs := val_succ Ieee.single q
  rw [sBin] at hs
  obtain ⟨t, ht⟩ : ∃ t, q / 8388608 - 1 + gp = t + 1 := ⟨q / 8388608 - 1 + gp - 1, by have := gp_eq; omega⟩
  have hstep : val Ieee.single (q + 1) * 2 ^ gp = val Ieee.single q * 2 ^ gp + 2 * 2 ^ t := by
    rw [hs, Nat.add_mul, ← Nat.pow_add, ht, Nat.pow_succ, Nat.mul_comm (2 ^ t)]
  obtain ⟨c, hc, hcv⟩ : ∃ c, c < 16777216 ∧ val Ieee.single q * 2 ^ gp = c * (2 * 2 ^ t) := by
    unfold val
    rw [sBin]
    by_cases h : q < 8388608
    · rw [if_pos h]
      refine ⟨q, by omega, ?_⟩
      have : gp = t + 1 := by have := Nat.div_eq_of_lt h; omega
      rw [this, Nat.pow_succ, Nat.mul_comm (2 ^ t)]
    · rw [if_neg h]
      refine ⟨8388608 + q % 8388608, by omega, ?_⟩
      rw [Nat.mul_assoc, ← Nat.pow_add, ht, Nat.pow_succ, Nat.mul_comm (2 ^ t)]
  have htb : t + 1 ≤ 2045 := by have := gp_eq; omega
  have hp : 0 < 2 ^ t := Nat.two_pow_pos _
  obtain ⟨eS, fS, heS, hfS, hvS⟩ := mk_exists (t + 1) (2 * c + 1) (by omega) htb
  obtain ⟨em, fm, hem, hfm, hvm⟩ := mk_exists t (2 * c + 1) (by omega) (by omega)
  have hm2 : (2 * c + 1) * 2 ^ t = c * (2 * 2 ^ t) + 2 ^ t := by rw [Nat.add_mul, Nat.one_mul, Nat.mul_comm 2 c, Nat.mul_assoc]
  have hS2 : (2 * c + 1) * 2 ^ (t + 1) = 2 * (c * (2 * 2 ^ t) + 2 ^ t) := by rw [Nat.pow_succ, ← Nat.mul_assoc, hm2, Nat.mul_comm]
  rw [hm2] at hvm
  rw [hS2] at hvS
  have hsum : val Ieee.double (e0 * 4503599627370496 + f0) + val Ieee.double (e1 * 4503599627370496 + f1) = val Ieee.double (eS * 4503599627370496 + fS) := by
    rw [h0, h1, hvS, hstep, hcv]; omega
  have hpS : 0 < val Ieee.double (eS * 4503599627370496 + fS) := by rw [hvS]; omega
  have hpm : 0 < val Ieee.double (em * 4503599627370496 + fm) := by rw [hvm]; omega
  refine ⟨bw s eS fS, em, fm, hem, hfm, ?_, add_same s e0 f0 e1 f1 eS fS he0 hf0 he1 hf1 heS hfS hsum hpS, add_same s e1 f1 e0 f0 eS fS he1 hf1 he0 hf0 heS hfS (by rw [Nat.add_comm]; exact hsum) hpS, ?_⟩
  · rw [hvm, hstep, hcv]; omega
  · show Ieee.double.div _ _ = _
    rw [bw_word, bw_word]
    exact div_two_s s _ _ (by omega) (by omega) (by rw [hvS, hvm]) hpm

/-- comparisons of finite numbers of one sign, by their values. -/
theorem lt_sv (s : Bool) (e f u v : Nat) (he : e < 2047) (hf : f < 4503599627370496) (hu : u < 2047) (hv : v < 4503599627370496) :
    (FloatKind.f64.format.order (bw s e f) (bw s u v) == some .lt) = if s then decide (val Ieee.double (u * 4503599627370496 + v) < val Ieee.double (e * 4503599627370496 + f)) else decide (val Ieee.double (e * 4503599627370496 + f) < val Ieee.double (u * 4503599627370496 + v)) := by
  rw [lt_f64 s s e f u v (by omega) hf (by omega) hv, odd_lt e f he, odd_lt u v hu, Bool.eq_iff_iff]
  have h1 := @val_lt_iff Ieee.double (u * 4503599627370496 + v) (e * 4503599627370496 + f)
  have h2 := @val_lt_iff Ieee.double (e * 4503599627370496 + f) (u * 4503599627370496 + v)
  unfold pl sg
  cases s
  · simp only [Bool.not_false, Bool.true_and, decide_eq_true_eq, Bool.false_eq_true, if_false]; omega
  · simp only [Bool.not_false, Bool.true_and, decide_eq_true_eq, if_true]; omega
theorem eq_sv (s : Bool) (e f u v : Nat) (he : e < 2047) (hf : f < 4503599627370496) (hu : u < 2047) (hv : v < 4503599627370496) :
    (FloatKind.f64.format.order (bw s e f) (bw s u v) == some .eq) = decide (val Ieee.double (e * 4503599627370496 + f) = val Ieee.double (u * 4503599627370496 + v)) := by
  rw [eq_f64 s s e f u v (by omega) hf (by omega) hv, odd_lt e f he, odd_lt u v hu, Bool.eq_iff_iff]
  have h1 := @val_inj Ieee.double (e * 4503599627370496 + f) (u * 4503599627370496 + v)
  have h2 : e * 4503599627370496 + f = u * 4503599627370496 + v → val Ieee.double (e * 4503599627370496 + f) = val Ieee.double (u * 4503599627370496 + v) := fun h => by rw [h]
  unfold pl sg
  cases s
  · simp only [Bool.not_false, Bool.true_and, decide_eq_true_eq, Bool.false_eq_true, if_false]
    exact ⟨fun h => h2 (by omega), fun h => by have := h1 h; omega⟩
  · simp only [Bool.not_false, Bool.true_and, decide_eq_true_eq, if_true]
    exact ⟨fun h => h2 (by omega), fun h => by have := h1 h; omega⟩
end Go.Proofs.Ytedknjiipmppgab
