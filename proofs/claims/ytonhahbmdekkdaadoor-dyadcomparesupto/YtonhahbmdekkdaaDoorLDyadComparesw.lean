import Derived.Test.YtonhahbmdekkdaaDoorLDyadCompares
import Derived.Test.YtonhahbmdekkdaaDoorD39
import Derived.Test.YtonhahbmdekkdaaDoorD29
namespace Go.Proofs.YtonhahbmdekkdaaDoor
open Go.RowKit
set_option linter.unusedVariables false
set_option maxRecDepth 20000

theorem cmpV_turn (n : Bool) (X : Nat) (e : Int) (m : Bool) (Y : Nat) (f : Int) : cmpV m Y f n X e = -cmpV n X e m Y f := by
  unfold cmpV
  have z1 : ∀ a b : Int, a < b → ¬ b < a := fun a b h => by omega
  rcases Int.lt_trichotomy (sgn n X) (sgn m Y) with h | h | h
  · rw [if_neg (z1 _ _ h), if_pos h, if_pos h]; rfl
  · have h1 : ¬ sgn n X < sgn m Y := by omega
    have h2 : ¬ sgn m Y < sgn n X := by omega
    rw [if_neg h2, if_neg h1, if_neg h1, if_neg h2]
    by_cases hX : X = 0
    · have hY : Y = 0 := sgn_zero.1 (h ▸ sgn_zero.2 hX)
      rw [if_pos hX, if_pos hY]; rfl
    · have hY : Y ≠ 0 := fun k => hX (sgn_zero.1 (h.trans (sgn_zero.2 k)))
      rw [if_neg hX, if_neg hY]
      have hnm : n = m := by
        unfold sgn at h
        rw [if_neg hX, if_neg hY] at h
        cases n <;> cases m <;> first | rfl | (simp at h)
      subst hnm
      cases n
      · simp only [Bool.false_eq_true, if_false]; rw [cmpP_neg]
      · simp only [if_true]; rw [cmpP_neg]
  · rw [if_pos h, if_neg (z1 _ _ h), if_pos h]
theorem cmpV_self (n : Bool) (X : Nat) (e : Int) : cmpV n X e n X e = 0 := by
  unfold cmpV
  rw [if_neg (by omega), if_neg (by omega), cmpP_self]
  split
  · rfl
  · split <;> rfl
theorem cmpV_range (n : Bool) (X : Nat) (e : Int) (m : Bool) (Y : Nat) (f : Int) : -1 ≤ cmpV n X e m Y f ∧ cmpV n X e m Y f ≤ 1 := by
  unfold cmpV
  have h1 := cmpP_range Y f X e
  have h2 := cmpP_range X e Y f
  split
  · omega
  · split
    · omega
    · split
      · omega
      · split <;> omega

theorem walk_DyadCompares (nA : Bool) (aA : Option Addr) (lA cA : Nat) (eA : Int) (xs : List Nat) (nB : Bool) (aB : Option Addr) (lB cB : Nat) (eB : Int) (ys : List Nat) (w : World) (hT : Tab w) (w0 : CameD w aA lA cA xs eA) (w1 : CameD w aB lB cB ys eB) (bA : lA ≤ 1048576) (bB : lB ≤ 1048576) :
    Calls Tryd.prog 6 #[.agg #[.bool nA, .slice aA lA cA, .int .i64 eA], .agg #[.bool nB, .slice aB lB cB, .int .i64 eB]] w fun r w' => r = .returned (.bool true) ∧ Below w.heap.size w w' := by
  have A := w0.came.arg (by omega)
  have B := w1.came.arg (by omega)
  have a0 := w0.lo; have a1 := w0.hi; have b0 := w1.lo; have b1 := w1.hi
  have hr := cmpV_range nA (val xs) eA nB (val ys) eB
  exact compares_core nA nB aA aB lA cA lB cB xs ys eA eB w bA bB A B hT _ _ _ _ _ _ (mkS_len (!nA) (val xs) eA) (mkS_len (!nB) (val ys) eB) (cmpV nA (val xs) eA nB (val ys) eB) (sgn nA (val xs)) (sgn nB (val ys)) hr.1 hr.2
    (hid fun u p s hu hA => Neg_any hA (hT.belows hu) nA eA a0 a1)
    (hid fun u p s hu hA => Neg_any hA (hT.belows hu) nB eB b0 b1)
    (hid fun u p q s t hu hA hB => Cmp_any3 hA hB nA nB eA eB a0 a1 b0 b1)
    (hid fun u p q s t hu hA hB => by rw [← cmpV_turn]; exact Cmp_any3 hB hA nB nA eB eA b0 b1 a0 a1)
    (hid fun u p s hu hA => by have := Cmp_any3 hA hA nA nA eA eA a0 a1 a0 a1; rw [cmpV_self] at this; exact this)
    (hid fun u p s hu hA => Sign_any3 hA nA eA)
    (hid fun u p s hu hA => Sign_any3 hA nB eB)
    (hid fun u hu => rCmp_any3 (A.below hu) (B.below hu) (by omega) (by omega) nA nB eA eB a0 a1 b0 b1)
    (hid fun u hu => rSign_any3 (A.below hu) nA eA)
    (hid fun u hu => rSign_any3 (B.below hu) nB eB)
    (hid fun u hu => rNeg_any (A.below hu) (by omega) nA eA a0 a1)
    (hid fun u hu => rNeg_any (B.below hu) (by omega) nB eB b0 b1)
end Go.Proofs.YtonhahbmdekkdaaDoor
