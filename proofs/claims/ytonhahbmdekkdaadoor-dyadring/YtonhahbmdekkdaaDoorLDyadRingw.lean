import Derived.Test.YtonhahbmdekkdaaDoorLDyadRing
import Derived.Test.YtonhahbmdekkdaaDoorD41
import Derived.Test.YtonhahbmdekkdaaDoorD29
namespace Go.Proofs.YtonhahbmdekkdaaDoor
open Go.ChangeShapes Go.WideShapes Go.ChangeAt Go.RowKit
set_option linter.unusedVariables false
set_option maxRecDepth 20000

theorem erS_zero {o : Option (Bool × Nat × Int)} (h : erS o = 0) : o.isSome = true := by
  unfold erS at h
  cases o with
  | none => simp at h
  | some x => rfl
theorem form_frm (o : Option (Bool × Nat × Int)) (n : Bool) (X : Nat) (e : Int) (h : o = mkS n X e) : -1048576 ≤ dE o ∧ dE o ≤ 1048576 := by
  subst h
  cases hx : mkS n X e with
  | none => exact ⟨by decide, by decide⟩
  | some x =>
    obtain ⟨n', Y, f⟩ := x
    have F := mkS_frm hx
    exact ⟨F.down, F.up⟩
theorem addD_exp (n : Bool) (X : Nat) (e : Int) (m : Bool) (Y : Nat) (f : Int) : -1048576 ≤ dE (addD (mkS n X e) (mkS m Y f)) ∧ dE (addD (mkS n X e) (mkS m Y f)) ≤ 1048576 := by
  cases h : addD (mkS n X e) (mkS m Y f) with
  | none => exact ⟨by decide, by decide⟩
  | some z =>
    obtain ⟨x, y, z', e1, e2, hz, hd⟩ := addD_some (by rw [h]; rfl : (addD (mkS n X e) (mkS m Y f)).isSome = true)
    rw [h] at hd
    cases hd
    obtain ⟨n1, X1, f1⟩ := x
    obtain ⟨n2, X2, f2⟩ := y
    obtain ⟨n3, X3, f3⟩ := z
    have F := addF_frm (mkS_frm e1) (mkS_frm e2) hz
    exact ⟨F.down, F.up⟩
theorem mulD_exp (n : Bool) (X : Nat) (e : Int) (m : Bool) (Y : Nat) (f : Int) : -1048576 ≤ dE (mulD (mkS n X e) (mkS m Y f)) ∧ dE (mulD (mkS n X e) (mkS m Y f)) ≤ 1048576 := by
  cases h : mulD (mkS n X e) (mkS m Y f) with
  | none => exact ⟨by decide, by decide⟩
  | some z =>
    obtain ⟨x, y, z', e1, e2, hz, hd⟩ := mulD_some (by rw [h]; rfl : (mulD (mkS n X e) (mkS m Y f)).isSome = true)
    rw [h] at hd
    cases hd
    obtain ⟨n3, X3, f3⟩ := z
    have F := mkS_frm hz
    exact ⟨F.down, F.up⟩

theorem walk_DyadRing (nA : Bool) (aA : Option Addr) (lA cA : Nat) (eA : Int) (xs : List Nat) (nB : Bool) (aB : Option Addr) (lB cB : Nat) (eB : Int) (ys : List Nat) (nC : Bool) (aC : Option Addr) (lC cC : Nat) (eC : Int) (zs : List Nat) (w : World) (hT : Tab w) (w0 : CameD w aA lA cA xs eA) (w1 : CameD w aB lB cB ys eB) (w2 : CameD w aC lC cC zs eC) (bA : lA ≤ 35184372087808) (bB : lB ≤ 35184372087808) (bC : lC ≤ 35184372087808) :
    Calls Tryd.prog 8 #[.agg #[.bool nA, .slice aA lA cA, .int .i64 eA], .agg #[.bool nB, .slice aB lB cB, .int .i64 eB], .agg #[.bool nC, .slice aC lC cC, .int .i64 eC]] w fun r w' => r = .returned (.bool true) ∧ Below w.heap.size w w' := by
  have A := w0.came.arg (by omega)
  have B := w1.came.arg (by omega)
  have C := w2.came.arg (by omega)
  have a0 := w0.lo; have a1 := w0.hi; have b0 := w1.lo; have b1 := w1.hi; have c0 := w2.lo; have c1 := w2.hi
  have x1 := addD_exp nA (val xs) eA nB (val ys) eB
  have x2 := addD_exp nB (val ys) eB nC (val zs) eC
  have x5 := mulD_exp nA (val xs) eA nB (val ys) eB
  have x7 := mulD_exp nB (val ys) eB nC (val zs) eC
  have x11 := mulD_exp nA (val xs) eA nC (val zs) eC
  have xN := form_frm _ (!nB) (val ys) eB rfl
  refine ring_core nA nB nC aA aB aC lA cA lB cB lC cC xs ys zs eA eB eC w A B C hT
    (dN (addD (mkS nA (val xs) eA) (mkS nB (val ys) eB))) (dN (addD (mkS nB (val ys) eB) (mkS nC (val zs) eC))) (dN (addD (rf (addD (mkS nA (val xs) eA) (mkS nB (val ys) eB))) (mkS nC (val zs) eC))) (dN (addD (mkS nA (val xs) eA) (rf (addD (mkS nB (val ys) eB) (mkS nC (val zs) eC)))))
    (dN (mulD (mkS nA (val xs) eA) (mkS nB (val ys) eB))) (dN (mulD (rf (mulD (mkS nA (val xs) eA) (mkS nB (val ys) eB))) (mkS nC (val zs) eC))) (dN (mulD (mkS nB (val ys) eB) (mkS nC (val zs) eC))) (dN (mulD (mkS nA (val xs) eA) (rf (mulD (mkS nB (val ys) eB) (mkS nC (val zs) eC))))) (dN (mulD (mkS nA (val xs) eA) (rf (addD (mkS nB (val ys) eB) (mkS nC (val zs) eC)))))
    (dN (mulD (mkS nA (val xs) eA) (mkS nC (val zs) eC))) (dN (addD (rf (mulD (mkS nA (val xs) eA) (mkS nB (val ys) eB))) (rf (mulD (mkS nA (val xs) eA) (mkS nC (val zs) eC))))) (dN (addD (rf (addD (mkS nA (val xs) eA) (mkS nB (val ys) eB))) (rf (mkS (!nB) (val ys) eB)))) (dN (mkS (!nB) (val ys) eB)) (dN (mkS nA (val xs) eA)) (dN (addD (mkS nA (val xs) eA) (mkS (!nB) (val ys) eB)))
    (dX (addD (mkS nA (val xs) eA) (mkS nB (val ys) eB))) (dX (addD (mkS nB (val ys) eB) (mkS nC (val zs) eC))) (dX (addD (rf (addD (mkS nA (val xs) eA) (mkS nB (val ys) eB))) (mkS nC (val zs) eC))) (dX (addD (mkS nA (val xs) eA) (rf (addD (mkS nB (val ys) eB) (mkS nC (val zs) eC)))))
    (dX (mulD (mkS nA (val xs) eA) (mkS nB (val ys) eB))) (dX (mulD (rf (mulD (mkS nA (val xs) eA) (mkS nB (val ys) eB))) (mkS nC (val zs) eC))) (dX (mulD (mkS nB (val ys) eB) (mkS nC (val zs) eC))) (dX (mulD (mkS nA (val xs) eA) (rf (mulD (mkS nB (val ys) eB) (mkS nC (val zs) eC))))) (dX (mulD (mkS nA (val xs) eA) (rf (addD (mkS nB (val ys) eB) (mkS nC (val zs) eC)))))
    (dX (mulD (mkS nA (val xs) eA) (mkS nC (val zs) eC))) (dX (addD (rf (mulD (mkS nA (val xs) eA) (mkS nB (val ys) eB))) (rf (mulD (mkS nA (val xs) eA) (mkS nC (val zs) eC))))) (dX (addD (rf (addD (mkS nA (val xs) eA) (mkS nB (val ys) eB))) (rf (mkS (!nB) (val ys) eB)))) (dX (mkS (!nB) (val ys) eB)) (dX (mkS nA (val xs) eA)) (dX (addD (mkS nA (val xs) eA) (mkS (!nB) (val ys) eB)))
    (dE (addD (mkS nA (val xs) eA) (mkS nB (val ys) eB))) (dE (addD (mkS nB (val ys) eB) (mkS nC (val zs) eC))) (dE (addD (rf (addD (mkS nA (val xs) eA) (mkS nB (val ys) eB))) (mkS nC (val zs) eC))) (dE (addD (mkS nA (val xs) eA) (rf (addD (mkS nB (val ys) eB) (mkS nC (val zs) eC)))))
    (dE (mulD (mkS nA (val xs) eA) (mkS nB (val ys) eB))) (dE (mulD (rf (mulD (mkS nA (val xs) eA) (mkS nB (val ys) eB))) (mkS nC (val zs) eC))) (dE (mulD (mkS nB (val ys) eB) (mkS nC (val zs) eC))) (dE (mulD (mkS nA (val xs) eA) (rf (mulD (mkS nB (val ys) eB) (mkS nC (val zs) eC))))) (dE (mulD (mkS nA (val xs) eA) (rf (addD (mkS nB (val ys) eB) (mkS nC (val zs) eC)))))
    (dE (mulD (mkS nA (val xs) eA) (mkS nC (val zs) eC))) (dE (addD (rf (mulD (mkS nA (val xs) eA) (mkS nB (val ys) eB))) (rf (mulD (mkS nA (val xs) eA) (mkS nC (val zs) eC))))) (dE (addD (rf (addD (mkS nA (val xs) eA) (mkS nB (val ys) eB))) (rf (mkS (!nB) (val ys) eB)))) (dE (mkS (!nB) (val ys) eB)) (dE (mkS nA (val xs) eA)) (dE (addD (mkS nA (val xs) eA) (mkS (!nB) (val ys) eB)))
    (erS (addD (mkS nA (val xs) eA) (mkS nB (val ys) eB))) (erS (addD (mkS nB (val ys) eB) (mkS nC (val zs) eC))) (erS (addD (rf (addD (mkS nA (val xs) eA) (mkS nB (val ys) eB))) (mkS nC (val zs) eC))) (erS (addD (mkS nA (val xs) eA) (rf (addD (mkS nB (val ys) eB) (mkS nC (val zs) eC)))))
    (erS (mulD (mkS nA (val xs) eA) (mkS nB (val ys) eB))) (erS (mulD (rf (mulD (mkS nA (val xs) eA) (mkS nB (val ys) eB))) (mkS nC (val zs) eC))) (erS (mulD (mkS nB (val ys) eB) (mkS nC (val zs) eC))) (erS (mulD (mkS nA (val xs) eA) (rf (mulD (mkS nB (val ys) eB) (mkS nC (val zs) eC))))) (erS (mulD (mkS nA (val xs) eA) (rf (addD (mkS nB (val ys) eB) (mkS nC (val zs) eC)))))
    (erS (mulD (mkS nA (val xs) eA) (mkS nC (val zs) eC))) (erS (addD (rf (mulD (mkS nA (val xs) eA) (mkS nB (val ys) eB))) (rf (mulD (mkS nA (val xs) eA) (mkS nC (val zs) eC))))) (erS (addD (rf (addD (mkS nA (val xs) eA) (mkS nB (val ys) eB))) (rf (mkS (!nB) (val ys) eB)))) (erS (mkS nA (val xs) eA)) (erS (addD (mkS nA (val xs) eA) (mkS (!nB) (val ys) eB)))
    (sgn (dN (addD (mkS nA (val xs) eA) (mkS (!nB) (val ys) eB))) (dX (addD (mkS nA (val xs) eA) (mkS (!nB) (val ys) eB)))) (cmpV nA (val xs) eA nB (val ys) eB)
    (addD_len _ _ _ _ _ _) (addD_len _ _ _ _ _ _) (addD_len _ _ _ _ _ _) (addD_len _ _ _ _ _ _) (mulD_len _ _ _ _ _ _) (mulD_len _ _ _ _ _ _) (mulD_len _ _ _ _ _ _) (mulD_len _ _ _ _ _ _) (mulD_len _ _ _ _ _ _) (mulD_len _ _ _ _ _ _) (addD_len _ _ _ _ _ _) (addD_len _ _ _ _ _ _) (mkS_len _ _ _) (mkS_len _ _ _) (addD_len _ _ _ _ _ _)
    (hid fun u hu => Add_any3 (A.below hu) (B.below hu) (hT.belows hu) nA nB eA eB a0 a1 b0 b1)
    (hid fun u hu => Add_any3 (B.below hu) (C.below hu) (hT.belows hu) nB nC eB eC b0 b1 c0 c1)
    (hid fun u p s hu hA => by have := Add_any3 hA (C.below hu) (hT.belows hu) (dN (addD (mkS nA (val xs) eA) (mkS nB (val ys) eB))) nC (dE (addD (mkS nA (val xs) eA) (mkS nB (val ys) eB))) eC (by omega) (by omega) c0 c1; rw [val_ws] at this; exact this)
    (hid fun u q t hu hA => by have := Add_any3 (A.below hu) hA (hT.belows hu) nA (dN (addD (mkS nB (val ys) eB) (mkS nC (val zs) eC))) eA (dE (addD (mkS nB (val ys) eB) (mkS nC (val zs) eC))) a0 a1 (by omega) (by omega); rw [val_ws] at this; exact this)
    (hid fun u hu => Mul_any3 (A.below hu) (B.below hu) (hT.belows hu) nA nB eA eB a0 a1 b0 b1)
    (hid fun u p s hu hA => by have := Mul_any3 hA (C.below hu) (hT.belows hu) (dN (mulD (mkS nA (val xs) eA) (mkS nB (val ys) eB))) nC (dE (mulD (mkS nA (val xs) eA) (mkS nB (val ys) eB))) eC (by omega) (by omega) c0 c1; rw [val_ws] at this; exact this)
    (hid fun u hu => Mul_any3 (B.below hu) (C.below hu) (hT.belows hu) nB nC eB eC b0 b1 c0 c1)
    (hid fun u q t hu hA => by have := Mul_any3 (A.below hu) hA (hT.belows hu) nA (dN (mulD (mkS nB (val ys) eB) (mkS nC (val zs) eC))) eA (dE (mulD (mkS nB (val ys) eB) (mkS nC (val zs) eC))) a0 a1 (by omega) (by omega); rw [val_ws] at this; exact this)
    (hid fun u q t hu hA => by have := Mul_any3 (A.below hu) hA (hT.belows hu) nA (dN (addD (mkS nB (val ys) eB) (mkS nC (val zs) eC))) eA (dE (addD (mkS nB (val ys) eB) (mkS nC (val zs) eC))) a0 a1 (by omega) (by omega); rw [val_ws] at this; exact this)
    (hid fun u hu => Mul_any3 (A.below hu) (C.below hu) (hT.belows hu) nA nC eA eC a0 a1 c0 c1)
    (hid fun u p s q t hu hA hB => by have := Add_any3 hA hB (hT.belows hu) (dN (mulD (mkS nA (val xs) eA) (mkS nB (val ys) eB))) (dN (mulD (mkS nA (val xs) eA) (mkS nC (val zs) eC))) (dE (mulD (mkS nA (val xs) eA) (mkS nB (val ys) eB))) (dE (mulD (mkS nA (val xs) eA) (mkS nC (val zs) eC))) (by omega) (by omega) (by omega) (by omega); rw [val_ws, val_ws] at this; exact this)
    (hid fun u p s q t hu hA hB => by have := Add_any3 hA hB (hT.belows hu) (dN (addD (mkS nA (val xs) eA) (mkS nB (val ys) eB))) (dN (mkS (!nB) (val ys) eB)) (dE (addD (mkS nA (val xs) eA) (mkS nB (val ys) eB))) (dE (mkS (!nB) (val ys) eB)) (by omega) (by omega) (by omega) (by omega); rw [val_ws, val_ws] at this; exact this)
    (hid fun u hu => Neg_any (B.below hu) (hT.belows hu) nB eB b0 b1)
    (hid fun u hu => Make_any (A.below hu) (hT.belows hu) nA eA a0 a1)
    (hid fun u hu => Sub_any3 (A.below hu) (B.below hu) (hT.belows hu) nA nB eA eB a0 a1 b0 b1)
    (hid fun u p s hu hA => by have := Sign_any3 hA (dN (addD (mkS nA (val xs) eA) (mkS (!nB) (val ys) eB))) (dE (addD (mkS nA (val xs) eA) (mkS (!nB) (val ys) eB))); rw [val_ws] at this; exact this)
    (hid fun u hu => Cmp_any3 (A.below hu) (B.below hu) nA nB eA eB a0 a1 b0 b1)
    (Aside.intro ?_)
  intro h1 h2 h3 h4 h5 h6 h7 h8 h9 h11 h12 h13 h14
  have q := ring_eq nA (val xs) eA nB (val ys) eB nC (val zs) eC (erS_zero h1) (erS_zero h2) (erS_zero h3) (erS_zero h4) (erS_zero h5) (erS_zero h6) (erS_zero h7) (erS_zero h8) (erS_zero h9) (erS_zero h11) (erS_zero h12) (erS_zero h13)
  have sB : (mkS nB (val ys) eB).isSome = true := by obtain ⟨x, y, z, e1, e2, _⟩ := addD_some (erS_zero h1); rw [e2]; rfl
  exact ⟨q.1, q.2.1, q.2.2.1, q.2.2.2, fun h15 => sub_sign nA (val xs) eA nB (val ys) eB sB (erS_zero h15)⟩

/-- The form's own reach, of a Nat within a Dyad. -/
theorem came_reachD {H : Type} {ts : List TypeId} {ds : List (DataW H)} (h : (DataW.weightsEach Tryd.prog ts ds).all (· ≤ reachBytes) = true) {j : Nat} {x y d : DataW H} {c n : Nat} (ht : ts[j]? = some 38) (hd : ds[j]? = some (.agg [x, d, y])) (hn : n ≤ c)
    (hc : (d = .nil ∧ c = 0) ∨ ∃ elems spare : List (DataW H), d = .slice elems spare ∧ elems.length + spare.length = c ∧ (∀ e ∈ elems, ∃ l, e = .lit (.int .u32 l)) ∧ ∀ e ∈ spare, ∃ l, e = .lit (.int .u32 l)) : n ≤ 35184372087808 := by
  have h2 : (DataW.weightsEach Tryd.prog [4, 23, 3] [x, d, y]).all (· ≤ reachBytes) = true := by
    rw [List.all_eq_true] at h ⊢
    intro k hk
    refine h k (DataW.weights_mem_each ht hd k ?_)
    rw [DataW.weights, Tryd.underlying38]
    exact hk
  exact came_reach h2 (j := 1) rfl rfl hn hc
end Go.Proofs.YtonhahbmdekkdaaDoor
