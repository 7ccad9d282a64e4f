/- bits.Narrow by Even where nothing is left to be rounded: the word is the one of that worth. -/
import Derived.Test.YthilnddhehbjiaaDoorO12x
import Derived.Test.YthilnddhehbjiaaDoorBMkEx
namespace Go.Proofs.YthilnddhehbjiaaDoor.S
open Go.RowKit
set_option linter.unusedVariables false
set_option maxRecDepth 20000

theorem vs_lt {q r : Nat} (h : q < r) : B.val Ieee.single q * 2 ^ B.gp < B.val Ieee.single r * 2 ^ B.gp := Nat.mul_lt_mul_of_pos_right ((B.val_lt_iff Ieee.single).2 h) (Nat.two_pow_pos _)
theorem word32 (s : Bool) (K : Nat) : Ieee.single.word s K = K + (if s then 2147483648 else 0) := by
  unfold Ieee.Format.word; rw [B.sSign]; cases s <;> simp <;> omega

theorem GP_gp : GP = B.gp := by decide
theorem narrow_exact (s : Bool) (W K : Nat) (hW : W < 9218868437227405312) (hK : K ≤ 2139095040) (hv : B.val Ieee.double W = B.val Ieee.single K * 2 ^ GP) (w : World) :
    Calls Tryd.prog 95 #[.float .f64 (W + (if s then 9223372036854775808 else 0)), .int .i64 0] w fun r w' => r = .returned (.tuple #[.float .f32 (K + (if s then 2147483648 else 0)), .int .i64 0]) ∧ Below w.heap.size w w' := by
  rw [← word32]
  obtain ⟨e, he⟩ : ∃ e, W / 4503599627370496 = e := ⟨_, rfl⟩
  obtain ⟨f, hf⟩ : ∃ f, W % 4503599627370496 = f := ⟨_, rfl⟩
  have hw : W = e * 4503599627370496 + f := by omega
  have hb : W + (if s then 9223372036854775808 else 0) = B.bw s e f := by
    unfold B.bw
    cases s <;> simp <;> omega
  rw [hb]
  have hv2 : B.val Ieee.double (e * 4503599627370496 + f) = B.val Ieee.single K * 2 ^ B.gp := by rw [← hw, hv, GP_gp]
  by_cases h0 : W = 0
  · have hK0 : K = 0 := by
      by_cases h : K = 0
      · exact h
      · exfalso
        have := vs_lt (q := 0) (r := K) (by omega)
        rw [← hv2, ← hw, h0, B.val_zero Ieee.double, B.val_zero Ieee.single, Nat.zero_mul] at this
        exact Nat.lt_irrefl _ this
    subst hK0
    obtain rfl : e = 0 := by omega
    obtain rfl : f = 0 := by omega
    exact B.narrow_zero s 0 (by omega) (by omega) w
  · have hK0 : K ≠ 0 := by
      intro h
      have : B.val Ieee.double 0 < B.val Ieee.double W := (B.val_lt_iff Ieee.double).2 (by omega)
      rw [hw, hv2, h, B.val_zero Ieee.double, B.val_zero Ieee.single, Nat.zero_mul] at this
      exact Nat.lt_irrefl _ this
    by_cases hi : K = 2139095040
    · have hlt := vs_lt (q := 2139095039) (r := K) (by omega)
      have F : B.Floor (B.val Ieee.double (e * 4503599627370496 + f)) 2139095039 := ⟨Nat.le_refl _, by rw [hv2]; exact Nat.le_of_lt hlt, .inl rfl⟩
      have h := B.narrow_fin s e f 2139095039 0 (by omega) (by omega) (by omega) (by omega) (by omega) F w
      have hn : B.nr (B.val Ieee.double (e * 4503599627370496 + f)) 2139095039 0 s = K := by
        unfold B.nr B.tkS
        rw [hv2, show (2139095039 + 1 : Nat) = K by omega]
        have hway : B.wayS 0 s = 2 := by unfold B.wayS; rw [if_pos rfl]
        rw [hway, if_neg (Nat.ne_of_gt hlt), if_neg (by decide), if_pos rfl, decide_eq_true (by omega), Bool.true_or]
        simp only [Bool.toNat_true]
        omega
      rw [hn] at h
      exact h
    · have F : B.Floor (B.val Ieee.double (e * 4503599627370496 + f)) K := ⟨by omega, by rw [hv2]; exact Nat.le_refl _, .inr (by rw [hv2]; exact vs_lt (by omega))⟩
      have h := B.narrow_fin s e f K 0 (by omega) (by omega) (by omega) (by omega) (by omega) F w
      have hn : B.nr (B.val Ieee.double (e * 4503599627370496 + f)) K 0 s = K := by
        unfold B.nr B.tkS
        rw [if_pos hv2]
        rfl
      rw [hn] at h
      exact h
end Go.Proofs.YthilnddhehbjiaaDoor.S
