import Derived.Test.YtonhahbmdekkdaaDoorLDyadProducts
import Derived.Test.YtonhahbmdekkdaaDoorD36
import Derived.Test.YtonhahbmdekkdaaDoorD29
namespace Go.Proofs.YtonhahbmdekkdaaDoor
open Go.RowKit
set_option linter.unusedVariables false
set_option maxRecDepth 20000

theorem walk_DyadProducts (nA : Bool) (aA : Option Addr) (lA cA : Nat) (eA : Int) (xs : List Nat) (nB : Bool) (aB : Option Addr) (lB cB : Nat) (eB : Int) (ys : List Nat) (w : World) (hT : Tab w) (w0 : CameD w aA lA cA xs eA) (w1 : CameD w aB lB cB ys eB) (bA : lA ≤ 1048576) (bB : lB ≤ 1048576) :
    Calls Tryd.prog 5 #[.agg #[.bool nA, .slice aA lA cA, .int .i64 eA], .agg #[.bool nB, .slice aB lB cB, .int .i64 eB]] w fun r w' => r = .returned (.bool true) ∧ Below w.heap.size w w' := by
  have A := w0.came.arg (by omega)
  have B := w1.came.arg (by omega)
  have := w0.lo; have := w0.hi; have := w1.lo; have := w1.hi
  exact products_core nA nB aA aB lA cA lB cB xs ys eA eB w bA bB A B hT _ _ _ _ _ _ _ _ (mulD_len nA (val xs) eA nB (val ys) eB) (mulD_len nA (val xs) eA nA (val xs) eA)
    (hid fun u p q s t hu hA hB => Mul_any3 hA hB (hT.belows hu) nA nB eA eB (by omega) (by omega) (by omega) (by omega))
    (hid fun u p q s t hu hA hB => by rw [mulD_comm]; exact Mul_any3 hA hB (hT.belows hu) nB nA eB eA (by omega) (by omega) (by omega) (by omega))
    (hid fun u p s hu hA => Mul_any3 hA hA (hT.belows hu) nA nA eA eA (by omega) (by omega) (by omega) (by omega))
    (hid fun u hu => rMul_any3 (A.below hu) (B.below hu) (by omega) (by omega) nA nB eA eB (by omega) (by omega) (by omega) (by omega))
    (hid fun u hu => rMul_any3 (A.below hu) (A.below hu) (by omega) (by omega) nA nA eA eA (by omega) (by omega) (by omega) (by omega))
end Go.Proofs.YtonhahbmdekkdaaDoor
