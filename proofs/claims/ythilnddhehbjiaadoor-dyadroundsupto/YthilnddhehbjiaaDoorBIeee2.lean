/- Plain facts on rounding to a format: the word that is nearest stands beside the number; what is a number of the format is written as that number, whatever its place; halves are exact. -/
import Derived.Test.YthilnddhehbjiaaDoorBIeee
namespace Go.Proofs.YthilnddhehbjiaaDoor.B
set_option linter.unusedVariables false
set_option maxRecDepth 20000
open Ieee

/-- the value of a rung, by its step. -/
theorem val_at (f : Format) (j c : Nat) (h : j = 0 ∨ f.binade ≤ c) (hc : c ≤ 2 * f.binade) : val f (j * f.binade + c) = c * 2 ^ j := by
  have hb := binade_pos f
  unfold val
  generalize f.binade = B at *
  by_cases h1 : c < B
  · have hj : j = 0 := by omega
    subst hj
    rw [Nat.zero_mul, Nat.zero_add, if_pos h1, Nat.pow_zero, Nat.mul_one]
  · have h2 : ¬ j * B + c < B := by
      have := Nat.zero_le (j * B); omega
    rw [if_neg h2]
    by_cases h3 : c = 2 * B
    · subst h3
      have e : j * B + 2 * B = (j + 2) * B := by rw [Nat.add_mul]
      rw [e, Nat.mul_mod_left, Nat.mul_div_cancel _ hb, Nat.add_zero, show j + 2 - 1 = j + 1 from rfl, Nat.pow_succ, Nat.mul_comm 2 B, Nat.mul_assoc, Nat.mul_comm 2]
    · have e : j * B + c = B * (j + 1) + (c - B) := by
        rw [Nat.mul_succ, Nat.mul_comm j]; omega
      have e1 : (j * B + c) % B = c - B := by rw [e, Nat.mul_add_mod, Nat.mod_eq_of_lt (by omega)]
      have e2 : (j * B + c) / B = j + 1 := by rw [e, Nat.mul_add_div hb, Nat.div_eq_of_lt (by omega)]
      rw [e1, e2, Nat.add_sub_cancel, show B + (c - B) = c from by omega]

/-- THE NEAREST WORD STANDS BESIDE THE NUMBER. -/
theorem nearest_near (f : Format) (neg : Bool) (mag k a : Nat) (hm : mag ≠ 0) :
    ∃ R, f.nearest neg mag (f.leastPlace + (k : Int) - (a : Int)) = f.word neg (min R f.infRung) ∧
      (val f R * 2 ^ a ≤ mag * 2 ^ k → mag * 2 ^ k < val f (R + 1) * 2 ^ a) ∧
      (mag * 2 ^ k < val f R * 2 ^ a → 0 < R ∧ val f (R - 1) * 2 ^ a < mag * 2 ^ k) := by
  unfold Format.nearest
  rw [if_neg hm]
  simp only [cut_even, Nat.shiftLeft_eq]
  have hl := (Nat.log2_eq_iff hm (k := mag.log2)).1 rfl
  generalize mag.log2 = L at *
  have hB : f.binade = 2 ^ f.fractionBits := rfl
  have hb := binade_pos f
  obtain ⟨j, hj⟩ : ∃ j : Nat, max (f.leastPlace + (k : Int) - (a : Int) + (L : Int) - (f.fractionBits : Int)) f.leastPlace = f.leastPlace + j :=
    ⟨(max (f.leastPlace + (k : Int) - (a : Int) + (L : Int) - (f.fractionBits : Int)) f.leastPlace - f.leastPlace).toNat, by omega⟩
  have hj1 : k + L ≤ a + f.fractionBits + j := by omega
  have hj2 : j = 0 ∨ k + L = a + f.fractionBits + j := by omega
  rw [hj]
  have e3 : (f.leastPlace + (j : Int) - f.leastPlace).toNat = j := by omega
  have e1 : (f.leastPlace + (k : Int) - (a : Int) - (f.leastPlace + (j : Int))).toNat = k - (a + j) := by omega
  have e2 : (f.leastPlace + (j : Int) - (f.leastPlace + (k : Int) - (a : Int))).toNat = a + j - k := by omega
  rw [e1, e2, e3]
  have hg : 0 < 2 ^ (a + j - k) := Nat.two_pow_pos _
  -- V * g = m' * 2^(a+j)
  have hV : mag * 2 ^ k * 2 ^ (a + j - k) = mag * 2 ^ (k - (a + j)) * 2 ^ (a + j) := by
    rw [Nat.mul_assoc, Nat.mul_assoc, ← Nat.pow_add, ← Nat.pow_add]
    congr 2; omega
  have up : mag * 2 ^ (k - (a + j)) < 2 * f.binade * 2 ^ (a + j - k) := by
    have : 2 * f.binade = 2 ^ (f.fractionBits + 1) := by rw [hB, Nat.pow_succ, Nat.mul_comm]
    rw [this, ← Nat.pow_add]
    refine Nat.lt_of_lt_of_le (Nat.mul_lt_mul_of_pos_right hl.2 (Nat.two_pow_pos _)) ?_
    rw [← Nat.pow_add]
    exact Nat.pow_le_pow_right (by omega) (by omega)
  have dn : j = 0 ∨ f.binade * 2 ^ (a + j - k) ≤ mag * 2 ^ (k - (a + j)) := by
    rcases hj2 with h | h
    · exact Or.inl h
    · right
      refine Nat.le_trans ?_ (Nat.mul_le_mul_right _ hl.1)
      rw [hB, ← Nat.pow_add, ← Nat.pow_add]
      exact Nat.pow_le_pow_right (by omega) (by omega)
  generalize hm' : mag * 2 ^ (k - (a + j)) = m' at *
  generalize 2 ^ (a + j - k) = g at *
  generalize mag * 2 ^ k = V at *
  have hdm := Nat.div_add_mod m' g
  have hmod := Nat.mod_lt m' hg
  have hlow : m' / g < 2 * f.binade := (Nat.div_lt_iff_lt_mul hg).2 up
  have hlow2 : j = 0 ∨ f.binade ≤ m' / g := by
    rcases dn with h | h
    · exact Or.inl h
    · exact Or.inr ((Nat.le_div_iff_mul_le hg).2 h)
  have hp2 : 0 < 2 ^ (a + j) := Nat.two_pow_pos _
  -- the bounds
  have b1 : m' / g * 2 ^ (a + j) ≤ V := by
    refine Nat.le_of_mul_le_mul_right ?_ hg
    rw [hV, Nat.mul_right_comm]
    exact Nat.mul_le_mul_right _ (by rw [Nat.mul_comm]; omega)
  have b2 : V < (m' / g + 1) * 2 ^ (a + j) := by
    refine Nat.lt_of_mul_lt_mul_right (a := g) ?_
    rw [hV, Nat.mul_right_comm]
    refine Nat.mul_lt_mul_of_pos_right ?_ hp2
    rw [Nat.add_mul, Nat.one_mul, Nat.mul_comm]; omega
  have b3 : m' % g ≠ 0 → m' / g * 2 ^ (a + j) < V := by
    intro hr
    refine Nat.lt_of_mul_lt_mul_right (a := g) ?_
    rw [hV, Nat.mul_right_comm]
    refine Nat.mul_lt_mul_of_pos_right ?_ hp2
    rw [Nat.mul_comm]; omega
  have v0 : val f (j * f.binade + m' / g) * 2 ^ a = m' / g * 2 ^ (a + j) := by
    rw [val_at f j _ hlow2 (by omega), Nat.mul_assoc, ← Nat.pow_add, Nat.add_comm j a]
  have v1 : val f (j * f.binade + (m' / g + 1)) * 2 ^ a = (m' / g + 1) * 2 ^ (a + j) := by
    rw [val_at f j _ (by omega) (by omega), Nat.mul_assoc, ← Nat.pow_add, Nat.add_comm j a]
  refine ⟨j * f.binade + rte m' g, rfl, ?_, ?_⟩
  · unfold rte
    cases hc : (decide (g < 2 * (m' % g)) || (g == 2 * (m' % g) && m' / g % 2 == 1))
    · intro _
      simp only [Bool.toNat_false, Nat.add_zero]
      rw [Nat.add_assoc, v1]; exact b2
    · intro h
      simp only [Bool.toNat_true] at h
      rw [v1] at h
      omega
  · unfold rte
    cases hc : (decide (g < 2 * (m' % g)) || (g == 2 * (m' % g) && m' / g % 2 == 1))
    · intro h
      simp only [Bool.toNat_false, Nat.add_zero] at h
      rw [v0] at h
      omega
    · intro _
      simp only [Bool.toNat_true]
      refine ⟨Nat.succ_pos _, ?_⟩
      rw [show j * f.binade + (m' / g + 1) - 1 = j * f.binade + m' / g from rfl, v0]
      refine b3 (fun hr => ?_)
      rw [hr] at hc
      simp at hc
      omega

/-- what is a number of the format is written as that number, whatever its place. -/
theorem nearest_exact2 (f : Format) (neg : Bool) (mag k a r : Nat) (hr : r < f.infRung) (h : mag * 2 ^ k = val f r * 2 ^ a) (hm : mag ≠ 0) :
    f.nearest neg mag (f.leastPlace + (k : Int) - (a : Int)) = f.word neg r := by
  obtain ⟨R, e, h1, h2⟩ := nearest_near f neg mag k a hm
  have hp : 0 < 2 ^ a := Nat.two_pow_pos _
  have : R = r := by
    by_cases c : val f R * 2 ^ a ≤ mag * 2 ^ k
    · have c2 := h1 c
      rw [h] at c c2
      have d1 := Nat.le_of_mul_le_mul_right c hp
      have d2 := (val_lt_iff f).1 (Nat.lt_of_mul_lt_mul_right c2)
      have d3 : ¬ r < R := fun hh => by have := val_lt f hh; omega
      omega
    · have c2 := h2 (by omega)
      rw [h] at c c2
      have d1 := (val_lt_iff f).1 (Nat.lt_of_mul_lt_mul_right (a := 2 ^ a) (Nat.lt_of_not_le c))
      have d2 := (val_lt_iff f).1 (Nat.lt_of_mul_lt_mul_right c2.2)
      omega
  rw [e, this, Nat.min_eq_left (by omega)]
end Go.Proofs.YthilnddhehbjiaaDoor.B
