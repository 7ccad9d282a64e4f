/- Numbers from the top on: plain mathematics for comparing. -/
import Derived.Test.YtfaaidnhmddibaaDoorD16x
namespace Go.Proofs.YtfaaidnhmddibaaDoor
open Go.RowKit
set_option linter.unusedVariables false
set_option maxRecDepth 20000

/-- What stands above the bit i. -/
def top (X : Nat) (i : Int) : Nat := if i < 0 then X * 2 ^ (-i).toNat else X / 2 ^ i.toNat
theorem win_top (X : Nat) (i : Int) : win X i = top X i % 4294967296 := by unfold win top; split <;> rfl
theorem two32 : (2 : Nat) ^ 32 = 4294967296 := rfl
theorem top_down (X : Nat) (i : Int) : top X (i - 32) / 4294967296 = top X i := by
  rw [← two32]
  unfold top
  by_cases h : i < 0
  · rw [if_pos (by omega), if_pos h, show (-(i - 32)).toNat = (-i).toNat + 32 by omega, Nat.pow_add, ← Nat.mul_assoc, Nat.mul_div_cancel _ (Nat.two_pow_pos 32)]
  · by_cases h2 : i < 32
    · rw [if_pos (by omega), if_neg h]
      obtain ⟨k, hk⟩ : ∃ k, k = (-(i - 32)).toNat := ⟨_, rfl⟩
      have e : 32 = k + i.toNat := by omega
      rw [← hk]
      generalize i.toNat = m at e ⊢
      rw [show (2 : Nat) ^ 32 = 2 ^ k * 2 ^ m by rw [← Nat.pow_add, ← e], Nat.mul_comm X, Nat.mul_div_mul_left _ _ (Nat.two_pow_pos k)]
    · rw [if_neg (by omega), if_neg h, Nat.div_div_eq_div_mul, ← Nat.pow_add, show (i - 32).toNat + 32 = i.toNat by omega]
theorem top_step (X : Nat) (i : Int) : top X (i - 32) = top X i * 4294967296 + win X (i - 32) := by
  rw [win_top, ← top_down X i]
  exact (Nat.div_add_mod' _ _).symm
theorem top_shift (X d : Nat) (j : Int) : top X (j - (d : Int)) = top (X * 2 ^ d) j := by
  unfold top
  by_cases h : j < 0
  · rw [if_pos (by omega), if_pos h, show (-(j - (d : Int))).toNat = d + (-j).toNat by omega, Nat.pow_add, Nat.mul_assoc]
  · rw [if_neg h]
    by_cases h2 : j < d
    · rw [if_pos (by omega)]
      obtain ⟨k, hk⟩ : ∃ k, k = (-(j - (d : Int))).toNat := ⟨_, rfl⟩
      have e : d = k + j.toNat := by omega
      rw [← hk]
      generalize j.toNat = m at e ⊢
      rw [e, Nat.pow_add, ← Nat.mul_assoc, Nat.mul_div_cancel _ (Nat.two_pow_pos m)]
    · rw [if_neg (by omega)]
      obtain ⟨k, hk⟩ : ∃ k, k = (j - (d : Int)).toNat := ⟨_, rfl⟩
      have e : j.toNat = k + d := by omega
      rw [← hk, e, Nat.pow_add, Nat.mul_div_mul_right _ _ (Nat.two_pow_pos d)]
theorem top_mono {X Y : Nat} (h : X ≤ Y) (j : Int) : top X j ≤ top Y j := by
  unfold top
  split
  · exact Nat.mul_le_mul_right _ h
  · exact Nat.div_le_div_right h
theorem top_lt {X Y : Nat} {j : Int} (h : top X j < top Y j) : X < Y := by
  rcases Nat.lt_or_ge X Y with k | k
  · exact k
  · have := top_mono k j; omega
theorem top_inj {X Y : Nat} {j : Int} (hj : j ≤ 0) (h : top X j = top Y j) : X = Y := by
  unfold top at h
  by_cases h0 : j < 0
  · rw [if_pos h0, if_pos h0] at h
    exact Nat.eq_of_mul_eq_mul_right (Nat.two_pow_pos _) h
  · rw [if_neg h0, if_neg h0, show j.toNat = 0 by omega] at h
    simpa using h
theorem top_bl (X : Nat) : top X (bl X : Int) = 0 := by
  unfold top
  rw [if_neg (by omega), Int.toNat_natCast]
  exact Nat.div_eq_of_lt (bl_lt X)

/-- A step of the comparison. -/
theorem top_differ {X Y : Nat} {i j : Int} (d : Nat) (hij : i = j - d) (h : top X i = top Y j) (hne : cmpI (win X (i - 32)) (win Y (j - 32)) ≠ 0) :
    cmpI (win X (i - 32)) (win Y (j - 32)) = cmpI (X * 2 ^ d) Y := by
  have h1 := top_step X i
  have h2 := top_step Y j
  have h3 := top_shift X d (j - 32)
  rw [show j - 32 - (d : Int) = i - 32 by omega] at h3
  rw [h] at h1
  generalize top Y j * 4294967296 = T at h1 h2
  unfold cmpI at hne ⊢
  by_cases k : win X (i - 32) < win Y (j - 32)
  · rw [if_pos k]
    have : X * 2 ^ d < Y := top_lt (j := j - 32) (by rw [← h3]; omega)
    rw [if_pos this]
  · rw [if_neg k] at hne ⊢
    by_cases k2 : win Y (j - 32) < win X (i - 32)
    · rw [if_pos k2]
      have : Y < X * 2 ^ d := top_lt (j := j - 32) (by rw [← h3]; omega)
      rw [if_neg (by omega), if_pos this]
    · rw [if_neg k2] at hne; exact absurd rfl hne
theorem cmpI_zero {x y : Nat} (h : cmpI x y = 0) : x = y := by
  unfold cmpI at h
  split at h
  · cases h
  · split at h
    · cases h
    · omega
theorem top_alike {X Y : Nat} {i j : Int} (h : top X i = top Y j) (he : cmpI (win X (i - 32)) (win Y (j - 32)) = 0) : top X (i - 32) = top Y (j - 32) := by
  rw [top_step, top_step, h, cmpI_zero he]
theorem top_end {X Y : Nat} {i j : Int} (d : Nat) (hij : i = j - d) (h : top X i = top Y j) (hj : j ≤ 0) : cmpI (X * 2 ^ d) Y = 0 := by
  subst hij
  rw [top_shift] at h
  rw [top_inj hj h]
  unfold cmpI
  rw [if_neg (Nat.lt_irrefl _), if_neg (Nat.lt_irrefl _)]

/-- How X times 2^e stands to Y times 2^f. -/
def cmpP (X : Nat) (e : Int) (Y : Nat) (f : Int) : Int := if e < f then cmpI X (Y * 2 ^ (f - e).toNat) else cmpI (X * 2 ^ (e - f).toNat) Y
theorem cmpI_neg (x y : Nat) : -cmpI x y = cmpI y x := by
  unfold cmpI
  rcases Nat.lt_trichotomy x y with h | h | h
  · rw [if_pos h, if_neg (by omega), if_pos h]; rfl
  · subst h; rw [if_neg (by omega), if_neg (by omega)]; rfl
  · rw [if_neg (by omega), if_pos h, if_pos h]
theorem cmpI_self (x : Nat) : cmpI x x = 0 := by unfold cmpI; rw [if_neg (Nat.lt_irrefl _), if_neg (Nat.lt_irrefl _)]
theorem cmpP_neg (X : Nat) (e : Int) (Y : Nat) (f : Int) : -cmpP X e Y f = cmpP Y f X e := by
  unfold cmpP
  by_cases h : e < f
  · rw [if_pos h, if_neg (by omega), cmpI_neg]
  · rw [if_neg h]
    by_cases h2 : f < e
    · rw [if_pos h2, cmpI_neg]
    · rw [if_neg h2, cmpI_neg, show (e - f).toNat = 0 by omega, show (f - e).toNat = 0 by omega, Nat.pow_zero, Nat.mul_one, Nat.mul_one]
theorem cmpP_self (X : Nat) (e : Int) : cmpP X e X e = 0 := by
  unfold cmpP
  rw [if_neg (by omega), Int.sub_self]
  show cmpI (X * 2 ^ 0) X = 0
  rw [Nat.pow_zero, Nat.mul_one, cmpI_self]
/-- Where the lengths tell. -/
theorem cmpI_bl {x y : Nat} (h : bl x ≠ bl y) : cmpI x y = cmpI (bl x) (bl y) := by
  unfold cmpI
  rcases Nat.lt_or_ge (bl x) (bl y) with k | k
  · have : x < y := by
      rcases Nat.lt_or_ge x y with q | q
      · exact q
      · have := bl_mono q; omega
    rw [if_pos k, if_pos this]
  · have : y < x := by
      rcases Nat.lt_or_ge y x with q | q
      · exact q
      · have := bl_mono q; omega
    rw [if_neg (by omega : ¬ x < y), if_pos this, if_neg (by omega : ¬ bl x < bl y), if_pos (by omega : bl y < bl x)]
theorem cmpI_range (x y : Nat) : cmpI x y = -1 ∨ cmpI x y = 0 ∨ cmpI x y = 1 := by
  unfold cmpI; split
  · exact .inl rfl
  · split
    · exact .inr (.inr rfl)
    · exact .inr (.inl rfl)
theorem cmpP_range (X : Nat) (e : Int) (Y : Nat) (f : Int) : cmpP X e Y f = -1 ∨ cmpP X e Y f = 0 ∨ cmpP X e Y f = 1 := by
  unfold cmpP; split <;> exact cmpI_range _ _

/-- The sign of a value, and how two values stand. -/
def sgn (n : Bool) (X : Nat) : Int := if X = 0 then 0 else if n then -1 else 1
def cmpV (n : Bool) (X : Nat) (e : Int) (m : Bool) (Y : Nat) (f : Int) : Int :=
  if sgn n X < sgn m Y then -1 else if sgn m Y < sgn n X then 1 else if X = 0 then 0 else if n then cmpP Y f X e else cmpP X e Y f
end Go.Proofs.YtfaaidnhmddibaaDoor
