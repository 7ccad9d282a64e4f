import Derived.Test.YtonhahbmdekkdaaDoorLDyadSums
import Derived.Test.YtonhahbmdekkdaaDoorD36
import Derived.Test.YtonhahbmdekkdaaDoorD29
namespace Go.Proofs.YtonhahbmdekkdaaDoor
open Go.RowKit
set_option linter.unusedVariables false
set_option maxRecDepth 20000

theorem walk_DyadSums (nA : Bool) (aA : Option Addr) (lA cA : Nat) (eA : Int) (xs : List Nat) (nB : Bool) (aB : Option Addr) (lB cB : Nat) (eB : Int) (ys : List Nat) (w : World) (hT : Tab w) (w0 : CameD w aA lA cA xs eA) (w1 : CameD w aB lB cB ys eB) (bA : lA ≤ 1048576) (bB : lB ≤ 1048576) :
    Calls Tryd.prog 4 #[.agg #[.bool nA, .slice aA lA cA, .int .i64 eA], .agg #[.bool nB, .slice aB lB cB, .int .i64 eB]] w fun r w' => r = .returned (.bool true) ∧ Below w.heap.size w w' := by
  have A := w0.came.arg (by omega)
  have B := w1.came.arg (by omega)
  have := w0.lo; have := w0.hi; have := w1.lo; have := w1.hi
  exact sums_core nA nB aA aB lA cA lB cB xs ys eA eB w bA bB A B hT _ _ _ _ _ _ _ _ _ _ _ _ _ _ _ _ _ _ _ _ (addD_len nA (val xs) eA nB (val ys) eB) (addD_len nA (val xs) eA (!nB) (val ys) eB) (addD_len nB (val ys) eB (!nA) (val xs) eA) (addD_len nA (val xs) eA nA (val xs) eA) (addD_len nA (val xs) eA (!nA) (val xs) eA)
    (hid fun u p q s t hu hA hB => Add_any3 hA hB (hT.belows hu) nA nB eA eB (by omega) (by omega) (by omega) (by omega))
    (hid fun u p q s t hu hA hB => by rw [addD_comm]; exact Add_any3 hA hB (hT.belows hu) nB nA eB eA (by omega) (by omega) (by omega) (by omega))
    (hid fun u p q s t hu hA hB => Sub_any3 hA hB (hT.belows hu) nA nB eA eB (by omega) (by omega) (by omega) (by omega))
    (hid fun u p q s t hu hA hB => Sub_any3 hA hB (hT.belows hu) nB nA eB eA (by omega) (by omega) (by omega) (by omega))
    (hid fun u p s hu hA => Add_any3 hA hA (hT.belows hu) nA nA eA eA (by omega) (by omega) (by omega) (by omega))
    (hid fun u p s hu hA => Sub_any3 hA hA (hT.belows hu) nA nA eA eA (by omega) (by omega) (by omega) (by omega))
    (hid fun u hu => rAdd_any3 (A.below hu) (B.below hu) (by omega) (by omega) nA nB eA eB (by omega) (by omega) (by omega) (by omega))
    (hid fun u hu => rSub_any3 (A.below hu) (B.below hu) (by omega) (by omega) nA nB eA eB (by omega) (by omega) (by omega) (by omega))
    (hid fun u hu => rSub_any3 (B.below hu) (A.below hu) (by omega) (by omega) nB nA eB eA (by omega) (by omega) (by omega) (by omega))
    (hid fun u hu => rAdd_any3 (A.below hu) (A.below hu) (by omega) (by omega) nA nA eA eA (by omega) (by omega) (by omega) (by omega))
    (hid fun u hu => rSub_any3 (A.below hu) (A.below hu) (by omega) (by omega) nA nA eA eA (by omega) (by omega) (by omega) (by omega))
end Go.Proofs.YtonhahbmdekkdaaDoor
