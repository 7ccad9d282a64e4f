/- What each call of the package and of the document answers, as a plain function of the numbers' bits. -/
import Derived.Test.YthilnddhehbjiabD39x
import Derived.Test.YthilnddhehbjiabJ4x
import Derived.Test.YthilnddhehbjiabJ6x
import Derived.KernelRfl
import Derived.BigQuiet
import Derived.Deep.CutRange
import Derived.Deep.RegionHeld3
namespace Go.Proofs.Ythilnddhehbjiab
open Go.RowKit J
set_option linter.unusedVariables false
set_option maxRecDepth 20000

abbrev Wd (x : Nat) : Prop := x < 18446744073709551616
theorem odd_wd : Wd oddW := by unfold Wd oddW; decide
theorem ar_wd (op : BinOp) (ho : op = .add ∨ op = .sub ∨ op = .mul) (x y : Nat) : Wd (arW op x y) := by
  unfold arW
  cases h : floatBits op .f64 x y with
  | none => exact odd_wd
  | some z => exact (bits_fin ho h).2
def plW (x y : Nat) : Nat := arW .add x y
def miW (x y : Nat) : Nat := arW .sub x y
def tiW (x y : Nat) : Nat := arW .mul x y
theorem pl_wd (x y : Nat) : Wd (plW x y) := ar_wd .add (.inl rfl) x y
theorem mi_wd (x y : Nat) : Wd (miW x y) := ar_wd .sub (.inr (.inl rfl)) x y
theorem ti_wd (x y : Nat) : Wd (tiW x y) := ar_wd .mul (.inr (.inr rfl)) x y
def quickP (a b : Nat) : Nat × Nat := (plW a b, miW b (miW (plW a b) a))
def sumP (a b : Nat) : Nat × Nat := (plW a b, plW (miW a (miW (plW a b) (miW (plW a b) a))) (miW b (miW (plW a b) a)))
def halfP (a : Nat) : Nat × Nat := (plW (tiW 4728779608772575232 a) (miW a (tiW 4728779608772575232 a)), miW a (plW (tiW 4728779608772575232 a) (miW a (tiW 4728779608772575232 a))))
def prodP (a b : Nat) : Nat × Nat := (tiW a b, plW (plW (plW (miW (tiW (halfP a).1 (halfP b).1) (tiW a b)) (tiW (halfP a).1 (halfP b).2)) (tiW (halfP a).2 (halfP b).1)) (tiW (halfP a).2 (halfP b).2))
def addY (a b c d : Nat) : Nat := plW (sumP b d).2 (quickP (sumP a c).1 (plW (sumP a c).2 (sumP b d).1)).2
def addP (a b c d : Nat) : Nat × Nat := quickP (quickP (sumP a c).1 (plW (sumP a c).2 (sumP b d).1)).1 (addY a b c d)
def mulP (a b c d : Nat) : Nat × Nat := quickP (prodP a c).1 (plW (prodP a c).2 (plW (tiW a d) (tiW b c)))

theorem Quick_all (a b : Nat) (w : World) : Calls Try.prog 18 #[.float .f64 a, .float .f64 b] w fun r w' => r = .returned (.agg #[.float .f64 (quickP a b).1, .float .f64 (quickP a b).2]) ∧ Below w.heap.size w w' :=
  Quick_core a b _ _ _ w (hid fun u => step_plus _ _ u) (hid fun u => step_minus _ _ u) (hid fun u => step_minus _ _ u)
theorem Sum_all (a b : Nat) (w : World) : Calls Try.prog 12 #[.float .f64 a, .float .f64 b] w fun r w' => r = .returned (.agg #[.float .f64 (sumP a b).1, .float .f64 (sumP a b).2]) ∧ Below w.heap.size w w' :=
  Sum_core a b _ _ _ _ _ _ w (hid fun u => step_plus _ _ u) (hid fun u => step_minus _ _ u) (hid fun u => step_minus _ _ u) (hid fun u => step_minus _ _ u) (hid fun u => step_minus _ _ u) (hid fun u => step_plus _ _ u)
theorem Halves_all (a : Nat) (w : World) : Calls Try.prog 13 #[.float .f64 a] w fun r w' => r = .returned (.agg #[.float .f64 (halfP a).1, .float .f64 (halfP a).2]) ∧ Below w.heap.size w w' :=
  Halves_core a _ _ _ _ w (hid fun u => step_times _ _ u) (hid fun u => step_minus _ _ u) (hid fun u => step_plus _ _ u) (hid fun u => step_minus _ _ u)
theorem Product_all (a b : Nat) (w : World) : Calls Try.prog 14 #[.float .f64 a, .float .f64 b] w fun r w' => r = .returned (.agg #[.float .f64 (prodP a b).1, .float .f64 (prodP a b).2]) ∧ Below w.heap.size w w' :=
  Product_core a b _ _ _ _ _ _ _ _ _ _ _ _ _ w (hid fun u => step_times _ _ u) (hid fun u => Halves_all a  u) (hid fun u => Halves_all b  u) (hid fun u => step_times _ _ u) (hid fun u => step_minus _ _ u) (hid fun u => step_times _ _ u) (hid fun u => step_plus _ _ u) (hid fun u => step_times _ _ u) (hid fun u => step_plus _ _ u) (hid fun u => step_times _ _ u) (hid fun u => step_plus _ _ u)
theorem Add_all (a b c d : Nat) (w : World) : Calls Try.prog 22 #[.agg #[.float .f64 a, .float .f64 b], .agg #[.float .f64 c, .float .f64 d]] w fun r w' => r = .returned (.agg #[.float .f64 (addP a b c d).1, .float .f64 (addP a b c d).2]) ∧ Below w.heap.size w w' :=
  Add_core a b c d _ _ _ _ _ _ _ _ _ _ w (hid fun u => Sum_all _ _  u) (hid fun u => Sum_all _ _  u) (hid fun u => step_plus _ _ u) (hid fun u => Quick_all _ _  u) (hid fun u => step_plus _ _ u) (hid fun u => Quick_all _ _  u)
theorem Mul_all (a b c d : Nat) (w : World) : Calls Try.prog 24 #[.agg #[.float .f64 a, .float .f64 b], .agg #[.float .f64 c, .float .f64 d]] w fun r w' => r = .returned (.agg #[.float .f64 (mulP a b c d).1, .float .f64 (mulP a b c d).2]) ∧ Below w.heap.size w w' :=
  Mul_core a b c d _ _ _ _ _ _ _ _ w (hid fun u => Product_all _ _  u) (hid fun u => step_times _ _ u) (hid fun u => step_times _ _ u) (hid fun u => step_plus _ _ u) (hid fun u => step_plus _ _ u) (hid fun u => Quick_all _ _  u)
theorem Value_all (a b : Nat) (w : World) : Calls Try.prog 27 #[.agg #[.float .f64 a, .float .f64 b]] w fun r w' => r = .returned (.float .f64 (plW a b)) ∧ Below w.heap.size w w' :=
  Value_core a b _ w (hid fun u => step_plus _ _ u)
theorem rQuick_all (a b : Nat) (ha : Wd a) (hb : Wd b) (w : World) : Calls Try.prog 19 #[.float .f64 a, .float .f64 b] w fun r w' => r = .returned (.agg #[.float .f64 (quickP a b).1, .float .f64 (quickP a b).2]) ∧ Below w.heap.size w w' :=
  rQuick_core a b _ _ _ w (hid fun u => sPlus_any _ _ ha hb u) (hid fun u => sMinus_any _ _ (pl_wd _ _) ha u) (hid fun u => sMinus_any _ _ hb (mi_wd _ _) u)
theorem rSum_all (a b : Nat) (ha : Wd a) (hb : Wd b) (w : World) : Calls Try.prog 17 #[.float .f64 a, .float .f64 b] w fun r w' => r = .returned (.agg #[.float .f64 (sumP a b).1, .float .f64 (sumP a b).2]) ∧ Below w.heap.size w w' :=
  rSum_core a b _ _ _ _ _ _ w (hid fun u => sPlus_any _ _ ha hb u) (hid fun u => sMinus_any _ _ (pl_wd _ _) ha u) (hid fun u => sMinus_any _ _ (pl_wd _ _) (mi_wd _ _) u) (hid fun u => sMinus_any _ _ ha (mi_wd _ _) u) (hid fun u => sMinus_any _ _ hb (mi_wd _ _) u) (hid fun u => sPlus_any _ _ (mi_wd _ _) (mi_wd _ _) u)
theorem rHalves_all (a : Nat) (ha : Wd a) (w : World) : Calls Try.prog 20 #[.float .f64 a] w fun r w' => r = .returned (.agg #[.float .f64 (halfP a).1, .float .f64 (halfP a).2]) ∧ Below w.heap.size w w' :=
  rHalves_core a _ _ _ _ w (hid fun u => sTimes_any _ _ (by decide) ha u) (hid fun u => sMinus_any _ _ ha (ti_wd _ _) u) (hid fun u => sPlus_any _ _ (ti_wd _ _) (mi_wd _ _) u) (hid fun u => sMinus_any _ _ ha (pl_wd _ _) u)
theorem rProduct_all (a b : Nat) (ha : Wd a) (hb : Wd b) (w : World) : Calls Try.prog 21 #[.float .f64 a, .float .f64 b] w fun r w' => r = .returned (.agg #[.float .f64 (prodP a b).1, .float .f64 (prodP a b).2]) ∧ Below w.heap.size w w' :=
  rProduct_core a b _ _ _ _ _ _ _ _ _ _ _ _ _ w (hid fun u => sTimes_any _ _ ha hb u) (hid fun u => rHalves_all a ha u) (hid fun u => rHalves_all b hb u) (hid fun u => sTimes_any _ _ (pl_wd _ _) (pl_wd _ _) u) (hid fun u => sMinus_any _ _ (ti_wd _ _) (ti_wd _ _) u) (hid fun u => sTimes_any _ _ (pl_wd _ _) (mi_wd _ _) u) (hid fun u => sPlus_any _ _ (mi_wd _ _) (ti_wd _ _) u) (hid fun u => sTimes_any _ _ (mi_wd _ _) (pl_wd _ _) u) (hid fun u => sPlus_any _ _ (pl_wd _ _) (ti_wd _ _) u) (hid fun u => sTimes_any _ _ (mi_wd _ _) (mi_wd _ _) u) (hid fun u => sPlus_any _ _ (pl_wd _ _) (ti_wd _ _) u)
theorem rAdd_all (a b c d : Nat) (ha : Wd a) (hb : Wd b) (hc : Wd c) (hd : Wd d) (w : World) : Calls Try.prog 23 #[.agg #[.float .f64 a, .float .f64 b], .agg #[.float .f64 c, .float .f64 d]] w fun r w' => r = .returned (.agg #[.float .f64 (addP a b c d).1, .float .f64 (addP a b c d).2]) ∧ Below w.heap.size w w' :=
  rAdd_core a b c d _ _ _ _ _ _ _ _ _ _ w (hid fun u => rSum_all _ _ ha hc u) (hid fun u => rSum_all _ _ hb hd u) (hid fun u => sPlus_any _ _ (pl_wd _ _) (pl_wd _ _) u) (hid fun u => rQuick_all _ _ (pl_wd _ _) (pl_wd _ _) u) (hid fun u => sPlus_any _ _ (pl_wd _ _) (mi_wd _ _) u) (hid fun u => rQuick_all _ _ (pl_wd _ _) (pl_wd _ _) u)
theorem rMul_all (a b c d : Nat) (ha : Wd a) (hb : Wd b) (hc : Wd c) (hd : Wd d) (w : World) : Calls Try.prog 25 #[.agg #[.float .f64 a, .float .f64 b], .agg #[.float .f64 c, .float .f64 d]] w fun r w' => r = .returned (.agg #[.float .f64 (mulP a b c d).1, .float .f64 (mulP a b c d).2]) ∧ Below w.heap.size w w' :=
  rMul_core a b c d _ _ _ _ _ _ _ _ w (hid fun u => rProduct_all _ _ ha hc u) (hid fun u => sTimes_any _ _ ha hd u) (hid fun u => sTimes_any _ _ hb hc u) (hid fun u => sPlus_any _ _ (ti_wd _ _) (ti_wd _ _) u) (hid fun u => sPlus_any _ _ (pl_wd _ _) (pl_wd _ _) u) (hid fun u => rQuick_all _ _ (ti_wd _ _) (pl_wd _ _) u)
theorem rValue_all (a b : Nat) (ha : Wd a) (hb : Wd b) (w : World) : Calls Try.prog 28 #[.agg #[.float .f64 a, .float .f64 b]] w fun r w' => r = .returned (.float .f64 (plW a b)) ∧ Below w.heap.size w w' :=
  rValue_core a b _ w (hid fun u => sPlus_any _ _ ha hb u)
end Go.Proofs.Ythilnddhehbjiab

/- The chapter's examples, call by call. -/
namespace Go.Proofs.Ythilnddhehbjiab
open Go.RowKit J
set_option linter.unusedVariables false
set_option maxRecDepth 20000
set_option linter.unusedSimpArgs false
attribute [local go_sem] B.f64bits B.f64frombits

theorem power_lit (n : Int) (z : Nat) (h0 : -1022 ≤ n) (h1 : n ≤ 1023) (hz : (z : Int) = (n + 1023) * 4503599627370496) (w : World) : Calls Try.prog 15 #[.int .i64 n] w fun r w' => r = .returned (.float .f64 z) ∧ Below w.heap.size w w' := by
  have e1 : decide (n < -1022) = false := by simp; omega
  have e2 : IntKind.i64.wrap (n + 1023) = n + 1023 := by rw [IntKind.wrap_i64]; omega
  have e3 : IntKind.u64.wrap (n + 1023) = n + 1023 := by rw [IntKind.wrap_u64]; omega
  have e4 : IntKind.u64.wrap ((n + 1023) * 4503599627370496) = (z : Int) := by rw [IntKind.wrap_u64, hz]; omega
  have e5 : ((n + 1023) * 4503599627370496).toNat = z := by omega
  go_enter Try.func15, Try.ntmps15
  go_wp2
  exact bodyPost_ret (v := .float .f64 z) (by simp [results, Try.results15, go_sem, e1, e2, e3, e4, e5]) rfl ⟨rfl, Below.refl _ _⟩
theorem q_turn (u : World) : Calls Try.prog 10 #[.float .f64 0] u fun r w' => r = .returned (.float .f64 9223372036854775808) ∧ Below u.heap.size u w' :=
  (rTurned_any 0 (by decide) u).mono fun r w' h => ⟨h.1, by rw [h.2]; exact Below.refl _ _⟩
theorem q_odd (u : World) : Calls Try.prog 9 #[] u fun r w' => r = .returned (.float .f64 9221120237041090560) ∧ Below u.heap.size u w' :=
  (rOdd_any u).mono fun r w' h => ⟨h.1, by rw [h.2]; exact Below.refl _ _⟩
theorem q_value (u : World) : Calls Try.prog 27 #[.agg #[.float .f64 4607182418800017408, .float .f64 4336966441157787648]] u fun r w' => r = .returned (.float .f64 4607182418800017408) ∧ Below u.heap.size u w' := by
  have h := Value_all 4607182418800017408 4336966441157787648 u
  rw [show plW 4607182418800017408 4336966441157787648 = 4607182418800017408 from by kernel_rfl] at h
  exact h
theorem q_same (u : World) : Calls Try.prog 26 #[.float .f64 4607182418800017408, .float .f64 4607182418800017408] u fun r w' => r = .returned (.bool true) ∧ Below u.heap.size u w' :=
  (rSame_w _ _ u).mono fun r w' h => ⟨by rw [h.1]; simp, by rw [h.2]; exact Below.refl _ _⟩
theorem q0 (u : World) : Calls Try.prog 15 #[.int .i64 27] u fun r w' => r = .returned (.float .f64 4728779608739020800) ∧ Below u.heap.size u w' := power_lit 27 4728779608739020800 (by omega) (by omega) (by decide) u
theorem q1 (u : World) : Calls Try.prog 15 #[.int .i64 (-60)] u fun r w' => r = .returned (.float .f64 4336966441157787648) ∧ Below u.heap.size u w' := power_lit (-60) 4336966441157787648 (by omega) (by omega) (by decide) u
theorem q2 (u : World) : Calls Try.prog 12 #[.float .f64 4607182418800017408, .float .f64 4336966441157787648] u fun r w' => r = .returned (.agg #[.float .f64 4607182418800017408, .float .f64 4336966441157787648]) ∧ Below u.heap.size u w' := by
  have h := Sum_all 4607182418800017408 4336966441157787648 u
  rw [show sumP 4607182418800017408 4336966441157787648 = (4607182418800017408, 4336966441157787648) from by kernel_rfl] at h
  exact h
theorem q3 (u : World) : Calls Try.prog 11 #[.agg #[.float .f64 4607182418800017408, .float .f64 4336966441157787648], .float .f64 4607182418800017408, .float .f64 4336966441157787648] u fun r w' => r = .returned (.bool true) ∧ Below u.heap.size u w' := by
  have h := is_any 4607182418800017408 4336966441157787648 4607182418800017408 4336966441157787648 u
  rw [show ((4607182418800017408 : Nat) == 4607182418800017408 && (4336966441157787648 : Nat) == 4336966441157787648) = true from by decide] at h
  exact h
theorem q4 (u : World) : Calls Try.prog 15 #[.int .i64 60] u fun r w' => r = .returned (.float .f64 4877398396442247168) ∧ Below u.heap.size u w' := power_lit 60 4877398396442247168 (by omega) (by omega) (by decide) u
theorem q5 (u : World) : Calls Try.prog 18 #[.float .f64 4607182418800017408, .float .f64 4877398396442247169] u fun r w' => r = .returned (.agg #[.float .f64 4877398396442247169, .float .f64 0]) ∧ Below u.heap.size u w' := by
  have h := Quick_all 4607182418800017408 4877398396442247169 u
  rw [show quickP 4607182418800017408 4877398396442247169 = (4877398396442247169, 0) from by kernel_rfl] at h
  exact h
theorem q6 (u : World) : Calls Try.prog 11 #[.agg #[.float .f64 4877398396442247169, .float .f64 0], .float .f64 4877398396442247169, .float .f64 0] u fun r w' => r = .returned (.bool true) ∧ Below u.heap.size u w' := by
  have h := is_any 4877398396442247169 0 4877398396442247169 0 u
  rw [show ((4877398396442247169 : Nat) == 4877398396442247169 && (0 : Nat) == 0) = true from by decide] at h
  exact h
theorem q7 (u : World) : Calls Try.prog 12 #[.float .f64 9223372036854775808, .float .f64 9223372036854775808] u fun r w' => r = .returned (.agg #[.float .f64 9223372036854775808, .float .f64 0]) ∧ Below u.heap.size u w' := by
  have h := Sum_all 9223372036854775808 9223372036854775808 u
  rw [show sumP 9223372036854775808 9223372036854775808 = (9223372036854775808, 0) from by kernel_rfl] at h
  exact h
theorem q8 (u : World) : Calls Try.prog 11 #[.agg #[.float .f64 9223372036854775808, .float .f64 0], .float .f64 9223372036854775808, .float .f64 0] u fun r w' => r = .returned (.bool true) ∧ Below u.heap.size u w' := by
  have h := is_any 9223372036854775808 0 9223372036854775808 0 u
  rw [show ((9223372036854775808 : Nat) == 9223372036854775808 && (0 : Nat) == 0) = true from by decide] at h
  exact h
theorem q9 (u : World) : Calls Try.prog 12 #[.float .f64 9221120237041090560, .float .f64 4607182418800017408] u fun r w' => r = .returned (.agg #[.float .f64 9221120237041090560, .float .f64 9221120237041090560]) ∧ Below u.heap.size u w' := by
  have h := Sum_all 9221120237041090560 4607182418800017408 u
  rw [show sumP 9221120237041090560 4607182418800017408 = (9221120237041090560, 9221120237041090560) from by kernel_rfl] at h
  exact h
theorem q10 (u : World) : Calls Try.prog 11 #[.agg #[.float .f64 9221120237041090560, .float .f64 9221120237041090560], .float .f64 9221120237041090560, .float .f64 9221120237041090560] u fun r w' => r = .returned (.bool true) ∧ Below u.heap.size u w' := by
  have h := is_any 9221120237041090560 9221120237041090560 9221120237041090560 9221120237041090560 u
  rw [show ((9221120237041090560 : Nat) == 9221120237041090560 && (9221120237041090560 : Nat) == 9221120237041090560) = true from by decide] at h
  exact h
theorem q11 (u : World) : Calls Try.prog 13 #[.float .f64 4728779608772575232] u fun r w' => r = .returned (.agg #[.float .f64 4728779608739020800, .float .f64 4607182418800017408]) ∧ Below u.heap.size u w' := by
  have h := Halves_all 4728779608772575232 u
  rw [show halfP 4728779608772575232 = (4728779608739020800, 4607182418800017408) from by kernel_rfl] at h
  exact h
theorem q12 (u : World) : Calls Try.prog 11 #[.agg #[.float .f64 4728779608739020800, .float .f64 4607182418800017408], .float .f64 4728779608739020800, .float .f64 4607182418800017408] u fun r w' => r = .returned (.bool true) ∧ Below u.heap.size u w' := by
  have h := is_any 4728779608739020800 4607182418800017408 4728779608739020800 4607182418800017408 u
  rw [show ((4728779608739020800 : Nat) == 4728779608739020800 && (4607182418800017408 : Nat) == 4607182418800017408) = true from by decide] at h
  exact h
theorem q13 (u : World) : Calls Try.prog 14 #[.float .f64 4728779608772575232, .float .f64 4728779608772575232] u fun r w' => r = .returned (.agg #[.float .f64 4850376798745133056, .float .f64 4607182418800017408]) ∧ Below u.heap.size u w' := by
  have h := Product_all 4728779608772575232 4728779608772575232 u
  rw [show prodP 4728779608772575232 4728779608772575232 = (4850376798745133056, 4607182418800017408) from by kernel_rfl] at h
  exact h
theorem q14 (u : World) : Calls Try.prog 15 #[.int .i64 54] u fun r w' => r = .returned (.float .f64 4850376798678024192) ∧ Below u.heap.size u w' := power_lit 54 4850376798678024192 (by omega) (by omega) (by decide) u
theorem q15 (u : World) : Calls Try.prog 15 #[.int .i64 28] u fun r w' => r = .returned (.float .f64 4733283208366391296) ∧ Below u.heap.size u w' := power_lit 28 4733283208366391296 (by omega) (by omega) (by decide) u
theorem q16 (u : World) : Calls Try.prog 11 #[.agg #[.float .f64 4850376798745133056, .float .f64 4607182418800017408], .float .f64 4850376798745133056, .float .f64 4607182418800017408] u fun r w' => r = .returned (.bool true) ∧ Below u.heap.size u w' := by
  have h := is_any 4850376798745133056 4607182418800017408 4850376798745133056 4607182418800017408 u
  rw [show ((4850376798745133056 : Nat) == 4850376798745133056 && (4607182418800017408 : Nat) == 4607182418800017408) = true from by decide] at h
  exact h
theorem q17 (u : World) : Calls Try.prog 22 #[.agg #[.float .f64 4607182418800017408, .float .f64 4336966441157787648], .agg #[.float .f64 13830554455654793216, .float .f64 0]] u fun r w' => r = .returned (.agg #[.float .f64 4336966441157787648, .float .f64 0]) ∧ Below u.heap.size u w' := by
  have h := Add_all 4607182418800017408 4336966441157787648 13830554455654793216 0 u
  rw [show addP 4607182418800017408 4336966441157787648 13830554455654793216 0 = (4336966441157787648, 0) from by kernel_rfl] at h
  exact h
theorem q18 (u : World) : Calls Try.prog 11 #[.agg #[.float .f64 4336966441157787648, .float .f64 0], .float .f64 4336966441157787648, .float .f64 0] u fun r w' => r = .returned (.bool true) ∧ Below u.heap.size u w' := by
  have h := is_any 4336966441157787648 0 4336966441157787648 0 u
  rw [show ((4336966441157787648 : Nat) == 4336966441157787648 && (0 : Nat) == 0) = true from by decide] at h
  exact h
theorem q19 (u : World) : Calls Try.prog 15 #[.int .i64 53] u fun r w' => r = .returned (.float .f64 4845873199050653696) ∧ Below u.heap.size u w' := power_lit 53 4845873199050653696 (by omega) (by omega) (by decide) u
theorem q20 (u : World) : Calls Try.prog 24 #[.agg #[.float .f64 4845873199050653696, .float .f64 4607182418800017408], .agg #[.float .f64 4611686018427387904, .float .f64 0]] u fun r w' => r = .returned (.agg #[.float .f64 4850376798678024192, .float .f64 4611686018427387904]) ∧ Below u.heap.size u w' := by
  have h := Mul_all 4845873199050653696 4607182418800017408 4611686018427387904 0 u
  rw [show mulP 4845873199050653696 4607182418800017408 4611686018427387904 0 = (4850376798678024192, 4611686018427387904) from by kernel_rfl] at h
  exact h
theorem q21 (u : World) : Calls Try.prog 11 #[.agg #[.float .f64 4850376798678024192, .float .f64 4611686018427387904], .float .f64 4850376798678024192, .float .f64 4611686018427387904] u fun r w' => r = .returned (.bool true) ∧ Below u.heap.size u w' := by
  have h := is_any 4850376798678024192 4611686018427387904 4850376798678024192 4611686018427387904 u
  rw [show ((4850376798678024192 : Nat) == 4850376798678024192 && (4611686018427387904 : Nat) == 4611686018427387904) = true from by decide] at h
  exact h
theorem q22 (u : World) : Calls Try.prog 12 #[.float .f64 4591870180066957722, .float .f64 4596373779694328218] u fun r w' => r = .returned (.agg #[.float .f64 4599075939470750516, .float .f64 13582856476149415936]) ∧ Below u.heap.size u w' := by
  have h := Sum_all 4591870180066957722 4596373779694328218 u
  rw [show sumP 4591870180066957722 4596373779694328218 = (4599075939470750516, 13582856476149415936) from by kernel_rfl] at h
  exact h
theorem q23 (u : World) : Calls Try.prog 11 #[.agg #[.float .f64 4599075939470750516, .float .f64 13582856476149415936], .float .f64 4599075939470750516, .float .f64 13582856476149415936] u fun r w' => r = .returned (.bool true) ∧ Below u.heap.size u w' := by
  have h := is_any 4599075939470750516 13582856476149415936 4599075939470750516 13582856476149415936 u
  rw [show ((4599075939470750516 : Nat) == 4599075939470750516 && (13582856476149415936 : Nat) == 13582856476149415936) = true from by decide] at h
  exact h
theorem q24 (u : World) : Calls Try.prog 12 #[.float .f64 9218868437227405311, .float .f64 9218868437227405311] u fun r w' => r = .returned (.agg #[.float .f64 9218868437227405312, .float .f64 9221120237041090560]) ∧ Below u.heap.size u w' := by
  have h := Sum_all 9218868437227405311 9218868437227405311 u
  rw [show sumP 9218868437227405311 9218868437227405311 = (9218868437227405312, 9221120237041090560) from by kernel_rfl] at h
  exact h
theorem q25 (u : World) : Calls Try.prog 11 #[.agg #[.float .f64 9218868437227405312, .float .f64 9221120237041090560], .float .f64 9218868437227405312, .float .f64 9221120237041090560] u fun r w' => r = .returned (.bool true) ∧ Below u.heap.size u w' := by
  have h := is_any 9218868437227405312 9221120237041090560 9218868437227405312 9221120237041090560 u
  rw [show ((9218868437227405312 : Nat) == 9218868437227405312 && (9221120237041090560 : Nat) == 9221120237041090560) = true from by decide] at h
  exact h
theorem q26 (u : World) : Calls Try.prog 12 #[.float .f64 9218868437227405312, .float .f64 4607182418800017408] u fun r w' => r = .returned (.agg #[.float .f64 9218868437227405312, .float .f64 9221120237041090560]) ∧ Below u.heap.size u w' := by
  have h := Sum_all 9218868437227405312 4607182418800017408 u
  rw [show sumP 9218868437227405312 4607182418800017408 = (9218868437227405312, 9221120237041090560) from by kernel_rfl] at h
  exact h
theorem q27 (u : World) : Calls Try.prog 13 #[.float .f64 9223372036854775808] u fun r w' => r = .returned (.agg #[.float .f64 0, .float .f64 9223372036854775808]) ∧ Below u.heap.size u w' := by
  have h := Halves_all 9223372036854775808 u
  rw [show halfP 9223372036854775808 = (0, 9223372036854775808) from by kernel_rfl] at h
  exact h
theorem q28 (u : World) : Calls Try.prog 11 #[.agg #[.float .f64 0, .float .f64 9223372036854775808], .float .f64 0, .float .f64 9223372036854775808] u fun r w' => r = .returned (.bool true) ∧ Below u.heap.size u w' := by
  have h := is_any 0 9223372036854775808 0 9223372036854775808 u
  rw [show ((0 : Nat) == 0 && (9223372036854775808 : Nat) == 9223372036854775808) = true from by decide] at h
  exact h
theorem q29 (u : World) : Calls Try.prog 14 #[.float .f64 4591870180066957722, .float .f64 4621819117588971520] u fun r w' => r = .returned (.agg #[.float .f64 4607182418800017408, .float .f64 4363988038922010624]) ∧ Below u.heap.size u w' := by
  have h := Product_all 4591870180066957722 4621819117588971520 u
  rw [show prodP 4591870180066957722 4621819117588971520 = (4607182418800017408, 4363988038922010624) from by kernel_rfl] at h
  exact h
theorem q30 (u : World) : Calls Try.prog 11 #[.agg #[.float .f64 4607182418800017408, .float .f64 4363988038922010624], .float .f64 4607182418800017408, .float .f64 4363988038922010624] u fun r w' => r = .returned (.bool true) ∧ Below u.heap.size u w' := by
  have h := is_any 4607182418800017408 4363988038922010624 4607182418800017408 4363988038922010624 u
  rw [show ((4607182418800017408 : Nat) == 4607182418800017408 && (4363988038922010624 : Nat) == 4363988038922010624) = true from by decide] at h
  exact h
theorem q31 (u : World) : Calls Try.prog 14 #[.float .f64 13830554455654793216, .float .f64 0] u fun r w' => r = .returned (.agg #[.float .f64 9223372036854775808, .float .f64 0]) ∧ Below u.heap.size u w' := by
  have h := Product_all 13830554455654793216 0 u
  rw [show prodP 13830554455654793216 0 = (9223372036854775808, 0) from by kernel_rfl] at h
  exact h
theorem q32 (u : World) : Calls Try.prog 15 #[.int .i64 1000] u fun r w' => r = .returned (.float .f64 9110782046170513408) ∧ Below u.heap.size u w' := power_lit 1000 9110782046170513408 (by omega) (by omega) (by decide) u
theorem q33 (u : World) : Calls Try.prog 14 #[.float .f64 9110782046170513408, .float .f64 4607182418800017408] u fun r w' => r = .returned (.agg #[.float .f64 9110782046170513408, .float .f64 9221120237041090560]) ∧ Below u.heap.size u w' := by
  have h := Product_all 9110782046170513408 4607182418800017408 u
  rw [show prodP 9110782046170513408 4607182418800017408 = (9110782046170513408, 9221120237041090560) from by kernel_rfl] at h
  exact h
theorem q34 (u : World) : Calls Try.prog 11 #[.agg #[.float .f64 9110782046170513408, .float .f64 9221120237041090560], .float .f64 9110782046170513408, .float .f64 9221120237041090560] u fun r w' => r = .returned (.bool true) ∧ Below u.heap.size u w' := by
  have h := is_any 9110782046170513408 9221120237041090560 9110782046170513408 9221120237041090560 u
  rw [show ((9110782046170513408 : Nat) == 9110782046170513408 && (9221120237041090560 : Nat) == 9221120237041090560) = true from by decide] at h
  exact h
theorem q35 (u : World) : Calls Try.prog 12 #[.float .f64 4607182418800017408, .float .f64 13830554455654793216] u fun r w' => r = .returned (.agg #[.float .f64 0, .float .f64 0]) ∧ Below u.heap.size u w' := by
  have h := Sum_all 4607182418800017408 13830554455654793216 u
  rw [show sumP 4607182418800017408 13830554455654793216 = (0, 0) from by kernel_rfl] at h
  exact h
theorem q36 (u : World) : Calls Try.prog 11 #[.agg #[.float .f64 0, .float .f64 0], .float .f64 0, .float .f64 0] u fun r w' => r = .returned (.bool true) ∧ Below u.heap.size u w' := by
  have h := is_any 0 0 0 0 u
  rw [show ((0 : Nat) == 0 && (0 : Nat) == 0) = true from by decide] at h
  exact h
end Go.Proofs.Ythilnddhehbjiab

/- awake: the chapter's examples. -/
namespace Go.Proofs.Ythilnddhehbjiab
open Go.RowKit J
set_option linter.unusedVariables false
set_option maxRecDepth 20000
set_option linter.unusedSimpArgs false

set_option maxHeartbeats 8000000 in
theorem awake_all (w : World) : Calls Try.prog 7 #[] w fun r w' => r = .returned (.bool true) ∧ Below w.heap.size w w' := by
  have d1 : ∀ w, (binOp .add 23 (.float .f64 4728779608739020800) (.float .f64 4607182418800017408)).run Try.prog w = .ok (.float .f64 4728779608772575232) w := fun w => run_float_arith w .add _ .f64 _ _ _ (by kernel_rfl)
  have d2 : ∀ w, (binOp .add 23 (.float .f64 4877398396442247168) (.float .f64 4643211215818981376)).run Try.prog w = .ok (.float .f64 4877398396442247169) w := fun w => run_float_arith w .add _ .f64 _ _ _ (by kernel_rfl)
  have d3 : ∀ w, (binOp .add 23 (.float .f64 4850376798678024192) (.float .f64 4733283208366391296)).run Try.prog w = .ok (.float .f64 4850376798745133056) w := fun w => run_float_arith w .add _ .f64 _ _ _ (by kernel_rfl)
  go_enter Try.func7, Try.ntmps7
  go_wp2_with (simp only [d1, d2, d3])
  refine (Calls.mono (q0 _)) ?_
  rintro r w1 ⟨rfl, hb1⟩
  have S1 := Aside.intro hb1
  clear hb1
  go_wp2_with (simp only [d1, d2, d3])
  refine (Calls.mono (q_turn _)) ?_
  rintro r w2 ⟨rfl, hb2⟩
  have S2 := Aside.intro (S1.out.trans (hb2.mono S1.out.size))
  clear hb2 S1
  go_wp2_with (simp only [d1, d2, d3])
  refine (Calls.mono (q_odd _)) ?_
  rintro r w3 ⟨rfl, hb3⟩
  have S3 := Aside.intro (S2.out.trans (hb3.mono S2.out.size))
  clear hb3 S2
  go_wp2_with (simp only [d1, d2, d3])
  refine (Calls.mono (q1 _)) ?_
  rintro r w4 ⟨rfl, hb4⟩
  have S4 := Aside.intro (S3.out.trans (hb4.mono S3.out.size))
  clear hb4 S3
  go_wp2_with (simp only [d1, d2, d3])
  refine (Calls.mono (q2 _)) ?_
  rintro r w5 ⟨rfl, hb5⟩
  have S5 := Aside.intro (S4.out.trans (hb5.mono S4.out.size))
  clear hb5 S4
  go_wp2_with (simp only [d1, d2, d3])
  refine (Calls.mono (q1 _)) ?_
  rintro r w6 ⟨rfl, hb6⟩
  have S6 := Aside.intro (S5.out.trans (hb6.mono S5.out.size))
  clear hb6 S5
  go_wp2_with (simp only [d1, d2, d3])
  refine (Calls.mono (q3 _)) ?_
  rintro r w7 ⟨rfl, hb7⟩
  have S7 := Aside.intro (S6.out.trans (hb7.mono S6.out.size))
  clear hb7 S6
  go_wp2_with (simp only [d1, d2, d3])
  refine (Calls.mono (q4 _)) ?_
  rintro r w8 ⟨rfl, hb8⟩
  have S8 := Aside.intro (S7.out.trans (hb8.mono S7.out.size))
  clear hb8 S7
  go_wp2_with (simp only [d1, d2, d3])
  refine (Calls.mono (q5 _)) ?_
  rintro r w9 ⟨rfl, hb9⟩
  have S9 := Aside.intro (S8.out.trans (hb9.mono S8.out.size))
  clear hb9 S8
  go_wp2_with (simp only [d1, d2, d3])
  refine (Calls.mono (q4 _)) ?_
  rintro r w10 ⟨rfl, hb10⟩
  have S10 := Aside.intro (S9.out.trans (hb10.mono S9.out.size))
  clear hb10 S9
  go_wp2_with (simp only [d1, d2, d3])
  refine (Calls.mono (q6 _)) ?_
  rintro r w11 ⟨rfl, hb11⟩
  have S11 := Aside.intro (S10.out.trans (hb11.mono S10.out.size))
  clear hb11 S10
  go_wp2_with (simp only [d1, d2, d3])
  refine (Calls.mono (q7 _)) ?_
  rintro r w12 ⟨rfl, hb12⟩
  have S12 := Aside.intro (S11.out.trans (hb12.mono S11.out.size))
  clear hb12 S11
  go_wp2_with (simp only [d1, d2, d3])
  refine (Calls.mono (q8 _)) ?_
  rintro r w13 ⟨rfl, hb13⟩
  have S13 := Aside.intro (S12.out.trans (hb13.mono S12.out.size))
  clear hb13 S12
  go_wp2_with (simp only [d1, d2, d3])
  refine (Calls.mono (q9 _)) ?_
  rintro r w14 ⟨rfl, hb14⟩
  have S14 := Aside.intro (S13.out.trans (hb14.mono S13.out.size))
  clear hb14 S13
  go_wp2_with (simp only [d1, d2, d3])
  refine (Calls.mono (q10 _)) ?_
  rintro r w15 ⟨rfl, hb15⟩
  have S15 := Aside.intro (S14.out.trans (hb15.mono S14.out.size))
  clear hb15 S14
  go_wp2_with (simp only [d1, d2, d3])
  refine (Calls.mono (q11 _)) ?_
  rintro r w16 ⟨rfl, hb16⟩
  have S16 := Aside.intro (S15.out.trans (hb16.mono S15.out.size))
  clear hb16 S15
  go_wp2_with (simp only [d1, d2, d3])
  refine (Calls.mono (q0 _)) ?_
  rintro r w17 ⟨rfl, hb17⟩
  have S17 := Aside.intro (S16.out.trans (hb17.mono S16.out.size))
  clear hb17 S16
  go_wp2_with (simp only [d1, d2, d3])
  refine (Calls.mono (q12 _)) ?_
  rintro r w18 ⟨rfl, hb18⟩
  have S18 := Aside.intro (S17.out.trans (hb18.mono S17.out.size))
  clear hb18 S17
  go_wp2_with (simp only [d1, d2, d3])
  refine (Calls.mono (q13 _)) ?_
  rintro r w19 ⟨rfl, hb19⟩
  have S19 := Aside.intro (S18.out.trans (hb19.mono S18.out.size))
  clear hb19 S18
  go_wp2_with (simp only [d1, d2, d3])
  refine (Calls.mono (q14 _)) ?_
  rintro r w20 ⟨rfl, hb20⟩
  have S20 := Aside.intro (S19.out.trans (hb20.mono S19.out.size))
  clear hb20 S19
  go_wp2_with (simp only [d1, d2, d3])
  refine (Calls.mono (q15 _)) ?_
  rintro r w21 ⟨rfl, hb21⟩
  have S21 := Aside.intro (S20.out.trans (hb21.mono S20.out.size))
  clear hb21 S20
  go_wp2_with (simp only [d1, d2, d3])
  refine (Calls.mono (q16 _)) ?_
  rintro r w22 ⟨rfl, hb22⟩
  have S22 := Aside.intro (S21.out.trans (hb22.mono S21.out.size))
  clear hb22 S21
  go_wp2_with (simp only [d1, d2, d3])
  refine (Calls.mono (q1 _)) ?_
  rintro r w23 ⟨rfl, hb23⟩
  have S23 := Aside.intro (S22.out.trans (hb23.mono S22.out.size))
  clear hb23 S22
  go_wp2_with (simp only [d1, d2, d3])
  refine (Calls.mono (q17 _)) ?_
  rintro r w24 ⟨rfl, hb24⟩
  have S24 := Aside.intro (S23.out.trans (hb24.mono S23.out.size))
  clear hb24 S23
  go_wp2_with (simp only [d1, d2, d3])
  refine (Calls.mono (q1 _)) ?_
  rintro r w25 ⟨rfl, hb25⟩
  have S25 := Aside.intro (S24.out.trans (hb25.mono S24.out.size))
  clear hb25 S24
  go_wp2_with (simp only [d1, d2, d3])
  refine (Calls.mono (q18 _)) ?_
  rintro r w26 ⟨rfl, hb26⟩
  have S26 := Aside.intro (S25.out.trans (hb26.mono S25.out.size))
  clear hb26 S25
  go_wp2_with (simp only [d1, d2, d3])
  refine (Calls.mono (q19 _)) ?_
  rintro r w27 ⟨rfl, hb27⟩
  have S27 := Aside.intro (S26.out.trans (hb27.mono S26.out.size))
  clear hb27 S26
  go_wp2_with (simp only [d1, d2, d3])
  refine (Calls.mono (q20 _)) ?_
  rintro r w28 ⟨rfl, hb28⟩
  have S28 := Aside.intro (S27.out.trans (hb28.mono S27.out.size))
  clear hb28 S27
  go_wp2_with (simp only [d1, d2, d3])
  refine (Calls.mono (q14 _)) ?_
  rintro r w29 ⟨rfl, hb29⟩
  have S29 := Aside.intro (S28.out.trans (hb29.mono S28.out.size))
  clear hb29 S28
  go_wp2_with (simp only [d1, d2, d3])
  refine (Calls.mono (q21 _)) ?_
  rintro r w30 ⟨rfl, hb30⟩
  have S30 := Aside.intro (S29.out.trans (hb30.mono S29.out.size))
  clear hb30 S29
  go_wp2_with (simp only [d1, d2, d3])
  refine (Calls.mono (q1 _)) ?_
  rintro r w31 ⟨rfl, hb31⟩
  have S31 := Aside.intro (S30.out.trans (hb31.mono S30.out.size))
  clear hb31 S30
  go_wp2_with (simp only [d1, d2, d3])
  refine (Calls.mono (q_value _)) ?_
  rintro r w32 ⟨rfl, hb32⟩
  have S32 := Aside.intro (S31.out.trans (hb32.mono S31.out.size))
  clear hb32 S31
  go_wp2_with (simp only [d1, d2, d3])
  refine (Calls.mono (q_same _)) ?_
  rintro r w33 ⟨rfl, hb33⟩
  have S33 := Aside.intro (S32.out.trans (hb33.mono S32.out.size))
  clear hb33 S32
  go_wp2
  exact bodyPost_ret (v := .bool true) (by simp [results, Try.results7, go_sem]) rfl ⟨rfl, S33.out⟩
end Go.Proofs.Ythilnddhehbjiab

/- PairSteps: the walk. -/
namespace Go.Proofs.Ythilnddhehbjiab
open Go.RowKit J
set_option linter.unusedVariables false
set_option maxRecDepth 20000
set_option linter.unusedSimpArgs false
attribute [local go_sem] st_float

theorem same_self (a b : Nat) (w : World) : Calls Try.prog 16 #[.agg #[.float .f64 a, .float .f64 b], .agg #[.float .f64 a, .float .f64 b]] w fun r w' => r = .returned (.bool true) ∧ Below w.heap.size w w' := by
  have h := rSamePair_any a b a b w
  rw [show (a == a && b == b) = true by simp] at h
  exact h
theorem same_one (a : Nat) (w : World) : Calls Try.prog 26 #[.float .f64 a, .float .f64 a] w fun r w' => r = .returned (.bool true) ∧ Below w.heap.size w w' :=
  (rSame_w a a w).mono fun r w' h => ⟨by rw [h.1]; simp, by rw [h.2]; exact Below.refl _ _⟩

/-- Two pairs in blocks of their own. -/
structure Pq (w x : World) (g a b c d : Nat) : Prop where
  bel : Below w.heap.size w x
  lt : g + 1 < x.heap.size
  facts : x.cell? ⟨g, 0, none⟩ = some (.float .f64 a) ∧ x.cell? ⟨g, 1, none⟩ = some (.float .f64 b) ∧ x.cell? ⟨g + 1, 0, none⟩ = some (.float .f64 c) ∧ x.cell? ⟨g + 1, 1, none⟩ = some (.float .f64 d)
theorem Pq.below {w x y : World} {g a b c d : Nat} (h : Pq w x g a b c d) (hb : Below x.heap.size x y) : Pq w y g a b c d := by
  have hl := h.lt
  obtain ⟨h0, h1, h2, h3⟩ := h.facts
  obtain ⟨hc, _⟩ := bcell hb
  exact ⟨h.bel.trans (hb.mono h.bel.size), Nat.lt_of_lt_of_le h.lt hb.size, by rw [hc _ _ (by omega)]; exact h0, by rw [hc _ _ (by omega)]; exact h1, by rw [hc _ _ (by omega)]; exact h2, by rw [hc _ _ (by omega)]; exact h3⟩
theorem Pq.begin {w x : World} (hb : Below w.heap.size w x) (U : World) {T : TypeId} {g : Nat} (a b c d : Nat) (hg : x.heap.size = g) (hU : U = (x.alloc (.cells #[.float .f64 a, .float .f64 b] T)).alloc (.cells #[.float .f64 c, .float .f64 d] T)) : Pq w U g a b c d := by
  subst hg
  subst hU
  exact ⟨hb.trans ((((Below.refl _ x).alloc (Nat.le_refl _) _).alloc (by simp) _).mono hb.size), by simp, by simp [go_sem], by simp [go_sem], by simp [go_sem], by simp [go_sem]⟩
set_option maxHeartbeats 32000000 in
set_option maxRecDepth 100000 in
theorem steps_core (a b c d s0 t0 q0 p0 h0 l0 m0 n0 s1 t1 q1 p1 h1 l1 m1 n1 s2 t2 q2 p2 h2 l2 m2 n2 s3 t3 q3 p3 h3 l3 m3 n3 xE1 xE2 xF1 xF2 v : Nat) (w : World)
    (A0 : Hid (∀ u, Calls Try.prog 12 #[.float .f64 a, .float .f64 b] u fun r w' => r = .returned (.agg #[.float .f64 s0, .float .f64 t0]) ∧ Below u.heap.size u w') ∧ Hid (∀ u, Calls Try.prog 17 #[.float .f64 a, .float .f64 b] u fun r w' => r = .returned (.agg #[.float .f64 s0, .float .f64 t0]) ∧ Below u.heap.size u w'))
    (B0 : Hid (∀ u, Calls Try.prog 18 #[.float .f64 a, .float .f64 b] u fun r w' => r = .returned (.agg #[.float .f64 q0, .float .f64 p0]) ∧ Below u.heap.size u w') ∧ Hid (∀ u, Calls Try.prog 19 #[.float .f64 a, .float .f64 b] u fun r w' => r = .returned (.agg #[.float .f64 q0, .float .f64 p0]) ∧ Below u.heap.size u w'))
    (C0 : Hid (∀ u, Calls Try.prog 13 #[.float .f64 a] u fun r w' => r = .returned (.agg #[.float .f64 h0, .float .f64 l0]) ∧ Below u.heap.size u w') ∧ Hid (∀ u, Calls Try.prog 20 #[.float .f64 a] u fun r w' => r = .returned (.agg #[.float .f64 h0, .float .f64 l0]) ∧ Below u.heap.size u w'))
    (D0 : Hid (∀ u, Calls Try.prog 14 #[.float .f64 a, .float .f64 b] u fun r w' => r = .returned (.agg #[.float .f64 m0, .float .f64 n0]) ∧ Below u.heap.size u w') ∧ Hid (∀ u, Calls Try.prog 21 #[.float .f64 a, .float .f64 b] u fun r w' => r = .returned (.agg #[.float .f64 m0, .float .f64 n0]) ∧ Below u.heap.size u w'))
    (A1 : Hid (∀ u, Calls Try.prog 12 #[.float .f64 b, .float .f64 a] u fun r w' => r = .returned (.agg #[.float .f64 s1, .float .f64 t1]) ∧ Below u.heap.size u w') ∧ Hid (∀ u, Calls Try.prog 17 #[.float .f64 b, .float .f64 a] u fun r w' => r = .returned (.agg #[.float .f64 s1, .float .f64 t1]) ∧ Below u.heap.size u w'))
    (B1 : Hid (∀ u, Calls Try.prog 18 #[.float .f64 b, .float .f64 a] u fun r w' => r = .returned (.agg #[.float .f64 q1, .float .f64 p1]) ∧ Below u.heap.size u w') ∧ Hid (∀ u, Calls Try.prog 19 #[.float .f64 b, .float .f64 a] u fun r w' => r = .returned (.agg #[.float .f64 q1, .float .f64 p1]) ∧ Below u.heap.size u w'))
    (C1 : Hid (∀ u, Calls Try.prog 13 #[.float .f64 b] u fun r w' => r = .returned (.agg #[.float .f64 h1, .float .f64 l1]) ∧ Below u.heap.size u w') ∧ Hid (∀ u, Calls Try.prog 20 #[.float .f64 b] u fun r w' => r = .returned (.agg #[.float .f64 h1, .float .f64 l1]) ∧ Below u.heap.size u w'))
    (D1 : Hid (∀ u, Calls Try.prog 14 #[.float .f64 b, .float .f64 a] u fun r w' => r = .returned (.agg #[.float .f64 m1, .float .f64 n1]) ∧ Below u.heap.size u w') ∧ Hid (∀ u, Calls Try.prog 21 #[.float .f64 b, .float .f64 a] u fun r w' => r = .returned (.agg #[.float .f64 m1, .float .f64 n1]) ∧ Below u.heap.size u w'))
    (A2 : Hid (∀ u, Calls Try.prog 12 #[.float .f64 c, .float .f64 d] u fun r w' => r = .returned (.agg #[.float .f64 s2, .float .f64 t2]) ∧ Below u.heap.size u w') ∧ Hid (∀ u, Calls Try.prog 17 #[.float .f64 c, .float .f64 d] u fun r w' => r = .returned (.agg #[.float .f64 s2, .float .f64 t2]) ∧ Below u.heap.size u w'))
    (B2 : Hid (∀ u, Calls Try.prog 18 #[.float .f64 c, .float .f64 d] u fun r w' => r = .returned (.agg #[.float .f64 q2, .float .f64 p2]) ∧ Below u.heap.size u w') ∧ Hid (∀ u, Calls Try.prog 19 #[.float .f64 c, .float .f64 d] u fun r w' => r = .returned (.agg #[.float .f64 q2, .float .f64 p2]) ∧ Below u.heap.size u w'))
    (C2 : Hid (∀ u, Calls Try.prog 13 #[.float .f64 c] u fun r w' => r = .returned (.agg #[.float .f64 h2, .float .f64 l2]) ∧ Below u.heap.size u w') ∧ Hid (∀ u, Calls Try.prog 20 #[.float .f64 c] u fun r w' => r = .returned (.agg #[.float .f64 h2, .float .f64 l2]) ∧ Below u.heap.size u w'))
    (D2 : Hid (∀ u, Calls Try.prog 14 #[.float .f64 c, .float .f64 d] u fun r w' => r = .returned (.agg #[.float .f64 m2, .float .f64 n2]) ∧ Below u.heap.size u w') ∧ Hid (∀ u, Calls Try.prog 21 #[.float .f64 c, .float .f64 d] u fun r w' => r = .returned (.agg #[.float .f64 m2, .float .f64 n2]) ∧ Below u.heap.size u w'))
    (A3 : Hid (∀ u, Calls Try.prog 12 #[.float .f64 a, .float .f64 a] u fun r w' => r = .returned (.agg #[.float .f64 s3, .float .f64 t3]) ∧ Below u.heap.size u w') ∧ Hid (∀ u, Calls Try.prog 17 #[.float .f64 a, .float .f64 a] u fun r w' => r = .returned (.agg #[.float .f64 s3, .float .f64 t3]) ∧ Below u.heap.size u w'))
    (B3 : Hid (∀ u, Calls Try.prog 18 #[.float .f64 a, .float .f64 a] u fun r w' => r = .returned (.agg #[.float .f64 q3, .float .f64 p3]) ∧ Below u.heap.size u w') ∧ Hid (∀ u, Calls Try.prog 19 #[.float .f64 a, .float .f64 a] u fun r w' => r = .returned (.agg #[.float .f64 q3, .float .f64 p3]) ∧ Below u.heap.size u w'))
    (C3 : Hid (∀ u, Calls Try.prog 13 #[.float .f64 a] u fun r w' => r = .returned (.agg #[.float .f64 h3, .float .f64 l3]) ∧ Below u.heap.size u w') ∧ Hid (∀ u, Calls Try.prog 20 #[.float .f64 a] u fun r w' => r = .returned (.agg #[.float .f64 h3, .float .f64 l3]) ∧ Below u.heap.size u w'))
    (D3 : Hid (∀ u, Calls Try.prog 14 #[.float .f64 a, .float .f64 a] u fun r w' => r = .returned (.agg #[.float .f64 m3, .float .f64 n3]) ∧ Below u.heap.size u w') ∧ Hid (∀ u, Calls Try.prog 21 #[.float .f64 a, .float .f64 a] u fun r w' => r = .returned (.agg #[.float .f64 m3, .float .f64 n3]) ∧ Below u.heap.size u w'))
    (E : Hid (∀ u, Calls Try.prog 22 #[.agg #[.float .f64 a, .float .f64 b], .agg #[.float .f64 c, .float .f64 d]] u fun r w' => r = .returned (.agg #[.float .f64 xE1, .float .f64 xE2]) ∧ Below u.heap.size u w') ∧ Hid (∀ u, Calls Try.prog 23 #[.agg #[.float .f64 a, .float .f64 b], .agg #[.float .f64 c, .float .f64 d]] u fun r w' => r = .returned (.agg #[.float .f64 xE1, .float .f64 xE2]) ∧ Below u.heap.size u w'))
    (F : Hid (∀ u, Calls Try.prog 24 #[.agg #[.float .f64 a, .float .f64 b], .agg #[.float .f64 c, .float .f64 d]] u fun r w' => r = .returned (.agg #[.float .f64 xF1, .float .f64 xF2]) ∧ Below u.heap.size u w') ∧ Hid (∀ u, Calls Try.prog 25 #[.agg #[.float .f64 a, .float .f64 b], .agg #[.float .f64 c, .float .f64 d]] u fun r w' => r = .returned (.agg #[.float .f64 xF1, .float .f64 xF2]) ∧ Below u.heap.size u w'))
    (G : Hid (∀ u, Calls Try.prog 27 #[.agg #[.float .f64 a, .float .f64 b]] u fun r w' => r = .returned (.float .f64 v) ∧ Below u.heap.size u w') ∧ Hid (∀ u, Calls Try.prog 28 #[.agg #[.float .f64 a, .float .f64 b]] u fun r w' => r = .returned (.float .f64 v) ∧ Below u.heap.size u w')) :
    Calls Try.prog 4 #[.float .f64 a, .float .f64 b, .float .f64 c, .float .f64 d] w fun r w' => r = .returned (.bool true) ∧ Below w.heap.size w w' := by
  go_enter Try.func4, Try.ntmps4
  go_wp2_with fail
  refine (Calls.mono (awake_all _)) ?_
  rintro r w1 ⟨rfl, hb⟩
  have S := Aside.intro hb
  clear hb
  obtain ⟨W0, hW0⟩ : ∃ W, W = (w1.alloc (.cells #[.float .f64 a, .float .f64 b, .float .f64 c, .float .f64 a] 23)).alloc (.cells #[.float .f64 b, .float .f64 a, .float .f64 d, .float .f64 a] 23) := ⟨_, rfl⟩
  have hz0 : W0.heap.size = w1.heap.size + 2 := by rw [hW0]; simp
  have K0 : W0.cell? ⟨w1.heap.size, 0, none⟩ = some (.float .f64 a) ∧ W0.cell? ⟨w1.heap.size + 1, 0, none⟩ = some (.float .f64 b) := by rw [hW0]; constructor <;> simp [go_sem]
  have K1 : W0.cell? ⟨w1.heap.size, 1, none⟩ = some (.float .f64 b) ∧ W0.cell? ⟨w1.heap.size + 1, 1, none⟩ = some (.float .f64 a) := by rw [hW0]; constructor <;> simp [go_sem]
  have K2 : W0.cell? ⟨w1.heap.size, 2, none⟩ = some (.float .f64 c) ∧ W0.cell? ⟨w1.heap.size + 1, 2, none⟩ = some (.float .f64 d) := by rw [hW0]; constructor <;> simp [go_sem]
  have K3 : W0.cell? ⟨w1.heap.size, 3, none⟩ = some (.float .f64 a) ∧ W0.cell? ⟨w1.heap.size + 1, 3, none⟩ = some (.float .f64 a) := by rw [hW0]; constructor <;> simp [go_sem]
  have SB := Aside.intro (show Below w.heap.size w W0 by rw [hW0]; exact S.out.trans ((((Below.refl _ w1).alloc (Nat.le_refl _) _).alloc (by simp) _).mono S.out.size))
  have KK := Aside.intro (And.intro K0 (And.intro K1 (And.intro K2 K3)))
  have RR := Aside.intro (Below.refl W0.heap.size W0)
  clear K0 K1 K2 K3
  go_upto_region 4 with fail
  rw [← hW0]
  clear hW0
  go_wp2_with fail
  refine wp_loop_rounds 5 ?_
  rw [rounds_succ]
  obtain ⟨c1, c2⟩ : W0.cell? ⟨w1.heap.size, 0, none⟩ = some (.float .f64 a) ∧ W0.cell? ⟨w1.heap.size + 1, 0, none⟩ = some (.float .f64 b) := ⟨by rw [(bcell RR.out).1 _ _ (by omega)]; exact (KK.out.1).1, by rw [(bcell RR.out).1 _ _ (by omega)]; exact (KK.out.1).2⟩
  go_wp2_with fail
  clear c1 c2
  refine (Calls.mono (A0.1.out _)) ?_
  rintro r u1 ⟨rfl, hb⟩
  replace RR := Aside.intro (RR.out.trans (hb.mono RR.out.size))
  clear hb
  go_wp2_with fail
  refine (Calls.mono (A0.2.out _)) ?_
  rintro r u2 ⟨rfl, hb⟩
  replace RR := Aside.intro (RR.out.trans (hb.mono RR.out.size))
  clear hb
  go_wp2_with fail
  refine (Calls.mono (same_self _ _ _)) ?_
  rintro r u3 ⟨rfl, hb⟩
  replace RR := Aside.intro (RR.out.trans (hb.mono RR.out.size))
  clear hb
  go_wp2_with fail
  refine (Calls.mono (B0.1.out _)) ?_
  rintro r u4 ⟨rfl, hb⟩
  replace RR := Aside.intro (RR.out.trans (hb.mono RR.out.size))
  clear hb
  go_wp2_with fail
  refine (Calls.mono (B0.2.out _)) ?_
  rintro r u5 ⟨rfl, hb⟩
  replace RR := Aside.intro (RR.out.trans (hb.mono RR.out.size))
  clear hb
  go_wp2_with fail
  refine (Calls.mono (same_self _ _ _)) ?_
  rintro r u6 ⟨rfl, hb⟩
  replace RR := Aside.intro (RR.out.trans (hb.mono RR.out.size))
  clear hb
  go_wp2_with fail
  refine (Calls.mono (C0.1.out _)) ?_
  rintro r u7 ⟨rfl, hb⟩
  replace RR := Aside.intro (RR.out.trans (hb.mono RR.out.size))
  clear hb
  go_wp2_with fail
  refine (Calls.mono (C0.2.out _)) ?_
  rintro r u8 ⟨rfl, hb⟩
  replace RR := Aside.intro (RR.out.trans (hb.mono RR.out.size))
  clear hb
  go_wp2_with fail
  refine (Calls.mono (same_self _ _ _)) ?_
  rintro r u9 ⟨rfl, hb⟩
  replace RR := Aside.intro (RR.out.trans (hb.mono RR.out.size))
  clear hb
  go_wp2_with fail
  refine (Calls.mono (D0.1.out _)) ?_
  rintro r u10 ⟨rfl, hb⟩
  replace RR := Aside.intro (RR.out.trans (hb.mono RR.out.size))
  clear hb
  go_wp2_with fail
  refine (Calls.mono (D0.2.out _)) ?_
  rintro r u11 ⟨rfl, hb⟩
  replace RR := Aside.intro (RR.out.trans (hb.mono RR.out.size))
  clear hb
  go_wp2_with fail
  refine (Calls.mono (same_self _ _ _)) ?_
  rintro r u12 ⟨rfl, hb⟩
  replace RR := Aside.intro (RR.out.trans (hb.mono RR.out.size))
  clear hb
  clear A0 B0 C0 D0
  go_wp2_with fail
  rw [rounds_succ]
  obtain ⟨c1, c2⟩ : u12.cell? ⟨w1.heap.size, 1, none⟩ = some (.float .f64 b) ∧ u12.cell? ⟨w1.heap.size + 1, 1, none⟩ = some (.float .f64 a) := ⟨by rw [(bcell RR.out).1 _ _ (by omega)]; exact (KK.out.2.1).1, by rw [(bcell RR.out).1 _ _ (by omega)]; exact (KK.out.2.1).2⟩
  go_wp2_with fail
  clear c1 c2
  refine (Calls.mono (A1.1.out _)) ?_
  rintro r u13 ⟨rfl, hb⟩
  replace RR := Aside.intro (RR.out.trans (hb.mono RR.out.size))
  clear hb
  go_wp2_with fail
  refine (Calls.mono (A1.2.out _)) ?_
  rintro r u14 ⟨rfl, hb⟩
  replace RR := Aside.intro (RR.out.trans (hb.mono RR.out.size))
  clear hb
  go_wp2_with fail
  refine (Calls.mono (same_self _ _ _)) ?_
  rintro r u15 ⟨rfl, hb⟩
  replace RR := Aside.intro (RR.out.trans (hb.mono RR.out.size))
  clear hb
  go_wp2_with fail
  refine (Calls.mono (B1.1.out _)) ?_
  rintro r u16 ⟨rfl, hb⟩
  replace RR := Aside.intro (RR.out.trans (hb.mono RR.out.size))
  clear hb
  go_wp2_with fail
  refine (Calls.mono (B1.2.out _)) ?_
  rintro r u17 ⟨rfl, hb⟩
  replace RR := Aside.intro (RR.out.trans (hb.mono RR.out.size))
  clear hb
  go_wp2_with fail
  refine (Calls.mono (same_self _ _ _)) ?_
  rintro r u18 ⟨rfl, hb⟩
  replace RR := Aside.intro (RR.out.trans (hb.mono RR.out.size))
  clear hb
  go_wp2_with fail
  refine (Calls.mono (C1.1.out _)) ?_
  rintro r u19 ⟨rfl, hb⟩
  replace RR := Aside.intro (RR.out.trans (hb.mono RR.out.size))
  clear hb
  go_wp2_with fail
  refine (Calls.mono (C1.2.out _)) ?_
  rintro r u20 ⟨rfl, hb⟩
  replace RR := Aside.intro (RR.out.trans (hb.mono RR.out.size))
  clear hb
  go_wp2_with fail
  refine (Calls.mono (same_self _ _ _)) ?_
  rintro r u21 ⟨rfl, hb⟩
  replace RR := Aside.intro (RR.out.trans (hb.mono RR.out.size))
  clear hb
  go_wp2_with fail
  refine (Calls.mono (D1.1.out _)) ?_
  rintro r u22 ⟨rfl, hb⟩
  replace RR := Aside.intro (RR.out.trans (hb.mono RR.out.size))
  clear hb
  go_wp2_with fail
  refine (Calls.mono (D1.2.out _)) ?_
  rintro r u23 ⟨rfl, hb⟩
  replace RR := Aside.intro (RR.out.trans (hb.mono RR.out.size))
  clear hb
  go_wp2_with fail
  refine (Calls.mono (same_self _ _ _)) ?_
  rintro r u24 ⟨rfl, hb⟩
  replace RR := Aside.intro (RR.out.trans (hb.mono RR.out.size))
  clear hb
  clear A1 B1 C1 D1
  go_wp2_with fail
  rw [rounds_succ]
  obtain ⟨c1, c2⟩ : u24.cell? ⟨w1.heap.size, 2, none⟩ = some (.float .f64 c) ∧ u24.cell? ⟨w1.heap.size + 1, 2, none⟩ = some (.float .f64 d) := ⟨by rw [(bcell RR.out).1 _ _ (by omega)]; exact (KK.out.2.2.1).1, by rw [(bcell RR.out).1 _ _ (by omega)]; exact (KK.out.2.2.1).2⟩
  go_wp2_with fail
  clear c1 c2
  refine (Calls.mono (A2.1.out _)) ?_
  rintro r u25 ⟨rfl, hb⟩
  replace RR := Aside.intro (RR.out.trans (hb.mono RR.out.size))
  clear hb
  go_wp2_with fail
  refine (Calls.mono (A2.2.out _)) ?_
  rintro r u26 ⟨rfl, hb⟩
  replace RR := Aside.intro (RR.out.trans (hb.mono RR.out.size))
  clear hb
  go_wp2_with fail
  refine (Calls.mono (same_self _ _ _)) ?_
  rintro r u27 ⟨rfl, hb⟩
  replace RR := Aside.intro (RR.out.trans (hb.mono RR.out.size))
  clear hb
  go_wp2_with fail
  refine (Calls.mono (B2.1.out _)) ?_
  rintro r u28 ⟨rfl, hb⟩
  replace RR := Aside.intro (RR.out.trans (hb.mono RR.out.size))
  clear hb
  go_wp2_with fail
  refine (Calls.mono (B2.2.out _)) ?_
  rintro r u29 ⟨rfl, hb⟩
  replace RR := Aside.intro (RR.out.trans (hb.mono RR.out.size))
  clear hb
  go_wp2_with fail
  refine (Calls.mono (same_self _ _ _)) ?_
  rintro r u30 ⟨rfl, hb⟩
  replace RR := Aside.intro (RR.out.trans (hb.mono RR.out.size))
  clear hb
  go_wp2_with fail
  refine (Calls.mono (C2.1.out _)) ?_
  rintro r u31 ⟨rfl, hb⟩
  replace RR := Aside.intro (RR.out.trans (hb.mono RR.out.size))
  clear hb
  go_wp2_with fail
  refine (Calls.mono (C2.2.out _)) ?_
  rintro r u32 ⟨rfl, hb⟩
  replace RR := Aside.intro (RR.out.trans (hb.mono RR.out.size))
  clear hb
  go_wp2_with fail
  refine (Calls.mono (same_self _ _ _)) ?_
  rintro r u33 ⟨rfl, hb⟩
  replace RR := Aside.intro (RR.out.trans (hb.mono RR.out.size))
  clear hb
  go_wp2_with fail
  refine (Calls.mono (D2.1.out _)) ?_
  rintro r u34 ⟨rfl, hb⟩
  replace RR := Aside.intro (RR.out.trans (hb.mono RR.out.size))
  clear hb
  go_wp2_with fail
  refine (Calls.mono (D2.2.out _)) ?_
  rintro r u35 ⟨rfl, hb⟩
  replace RR := Aside.intro (RR.out.trans (hb.mono RR.out.size))
  clear hb
  go_wp2_with fail
  refine (Calls.mono (same_self _ _ _)) ?_
  rintro r u36 ⟨rfl, hb⟩
  replace RR := Aside.intro (RR.out.trans (hb.mono RR.out.size))
  clear hb
  clear A2 B2 C2 D2
  go_wp2_with fail
  rw [rounds_succ]
  obtain ⟨c1, c2⟩ : u36.cell? ⟨w1.heap.size, 3, none⟩ = some (.float .f64 a) ∧ u36.cell? ⟨w1.heap.size + 1, 3, none⟩ = some (.float .f64 a) := ⟨by rw [(bcell RR.out).1 _ _ (by omega)]; exact (KK.out.2.2.2).1, by rw [(bcell RR.out).1 _ _ (by omega)]; exact (KK.out.2.2.2).2⟩
  go_wp2_with fail
  clear c1 c2
  refine (Calls.mono (A3.1.out _)) ?_
  rintro r u37 ⟨rfl, hb⟩
  replace RR := Aside.intro (RR.out.trans (hb.mono RR.out.size))
  clear hb
  go_wp2_with fail
  refine (Calls.mono (A3.2.out _)) ?_
  rintro r u38 ⟨rfl, hb⟩
  replace RR := Aside.intro (RR.out.trans (hb.mono RR.out.size))
  clear hb
  go_wp2_with fail
  refine (Calls.mono (same_self _ _ _)) ?_
  rintro r u39 ⟨rfl, hb⟩
  replace RR := Aside.intro (RR.out.trans (hb.mono RR.out.size))
  clear hb
  go_wp2_with fail
  refine (Calls.mono (B3.1.out _)) ?_
  rintro r u40 ⟨rfl, hb⟩
  replace RR := Aside.intro (RR.out.trans (hb.mono RR.out.size))
  clear hb
  go_wp2_with fail
  refine (Calls.mono (B3.2.out _)) ?_
  rintro r u41 ⟨rfl, hb⟩
  replace RR := Aside.intro (RR.out.trans (hb.mono RR.out.size))
  clear hb
  go_wp2_with fail
  refine (Calls.mono (same_self _ _ _)) ?_
  rintro r u42 ⟨rfl, hb⟩
  replace RR := Aside.intro (RR.out.trans (hb.mono RR.out.size))
  clear hb
  go_wp2_with fail
  refine (Calls.mono (C3.1.out _)) ?_
  rintro r u43 ⟨rfl, hb⟩
  replace RR := Aside.intro (RR.out.trans (hb.mono RR.out.size))
  clear hb
  go_wp2_with fail
  refine (Calls.mono (C3.2.out _)) ?_
  rintro r u44 ⟨rfl, hb⟩
  replace RR := Aside.intro (RR.out.trans (hb.mono RR.out.size))
  clear hb
  go_wp2_with fail
  refine (Calls.mono (same_self _ _ _)) ?_
  rintro r u45 ⟨rfl, hb⟩
  replace RR := Aside.intro (RR.out.trans (hb.mono RR.out.size))
  clear hb
  go_wp2_with fail
  refine (Calls.mono (D3.1.out _)) ?_
  rintro r u46 ⟨rfl, hb⟩
  replace RR := Aside.intro (RR.out.trans (hb.mono RR.out.size))
  clear hb
  go_wp2_with fail
  refine (Calls.mono (D3.2.out _)) ?_
  rintro r u47 ⟨rfl, hb⟩
  replace RR := Aside.intro (RR.out.trans (hb.mono RR.out.size))
  clear hb
  go_wp2_with fail
  refine (Calls.mono (same_self _ _ _)) ?_
  rintro r u48 ⟨rfl, hb⟩
  replace RR := Aside.intro (RR.out.trans (hb.mono RR.out.size))
  clear hb
  clear A3 B3 C3 D3
  go_wp2_with fail
  rw [rounds_succ]
  clear KK
  obtain ⟨U1, hU1⟩ : ∃ U, U = (u48.alloc (.cells #[.float .f64 a, .float .f64 b] 30)).alloc (.cells #[.float .f64 c, .float .f64 d] 30) := ⟨_, rfl⟩
  have BU : Below w.heap.size w u48 := SB.out.trans (RR.out.mono SB.out.size)
  have Z1 := Aside.intro (Pq.begin BU U1 a b c d rfl hU1)
  clear BU RR SB S hz0
  go_upto_region 17 with fail
  rw [← hU1]
  clear hU1
  obtain ⟨g, hg⟩ : ∃ g, u48.heap.size = g := ⟨_, rfl⟩
  rw [hg] at Z1 ⊢
  clear hg
  go_cut [21] from 95 to 101 (fun v wx => v = .bool true ∧ Aside (Pq w wx g a b c d))
  case first =>
    obtain ⟨k0, k1, k2, k3⟩ := Z1.out.facts
    go_region_held3 (fun w' => w'.cell? ⟨g, 0, none⟩ = some (.float .f64 a) ∧ w'.cell? ⟨g, 1, none⟩ = some (.float .f64 b) ∧ w'.cell? ⟨g + 1, 0, none⟩ = some (.float .f64 c) ∧ w'.cell? ⟨g + 1, 1, none⟩ = some (.float .f64 d)) (go_keep) (first
      | (go_at_call 16
         with_reducible refine (Calls.mono (same_self _ _ _)) ?_
         rintro r x3 ⟨rfl, hb⟩
         have hb1 : Below x2.heap.size x2 x3 := by first | exact hb | exact ((Below.refl _ x2).drew).trans (hb.mono (Nat.le_refl _)) | exact ((Below.refl _ x2).drew).drew.trans (hb.mono (Nat.le_refl _))
         have T3 := Aside.intro (T2.out.below hb1)
         obtain ⟨t30, t31, t32, t33⟩ := T3.out.facts
         clear hb hb1)
      | (go_at_call 23
         with_reducible refine (Calls.mono (E.2.out _)) ?_
         rintro r x2 ⟨rfl, hb⟩
         have hb1 : Below x1.heap.size x1 x2 := by first | exact hb | exact ((Below.refl _ x1).drew).trans (hb.mono (Nat.le_refl _)) | exact ((Below.refl _ x1).drew).drew.trans (hb.mono (Nat.le_refl _))
         have T2 := Aside.intro (T1.out.below hb1)
         obtain ⟨t20, t21, t22, t23⟩ := T2.out.facts
         clear hb hb1)
      | (go_at_call 22
         with_reducible refine (Calls.mono (E.1.out _)) ?_
         rintro r x1 ⟨rfl, hb⟩
         have hb1 : Below U1.heap.size U1 x1 := by first | exact hb | exact ((Below.refl _ U1).drew).trans (hb.mono (Nat.le_refl _)) | exact ((Below.refl _ U1).drew).drew.trans (hb.mono (Nat.le_refl _))
         have T1 := Aside.intro (Z1.out.below hb1)
         obtain ⟨t10, t11, t12, t13⟩ := T1.out.facts
         clear hb hb1))
    all_goals (
      go_wp2_with fail
      go_meet
      case rel => exact ⟨rfl, T3⟩)
  case rest =>
    obtain ⟨rfl, Z2⟩ := hcut
    obtain ⟨U2, hU⟩ : ∃ U, U = wc := ⟨_, rfl⟩
    subst hU
    clear Z1
    go_upto_region 18 with fail
    go_cut [22] from 102 to 108 (fun v wx => v = .bool true ∧ Aside (Pq w wx g a b c d))
    case first =>
      obtain ⟨k0, k1, k2, k3⟩ := Z2.out.facts
      go_region_held3 (fun w' => w'.cell? ⟨g, 0, none⟩ = some (.float .f64 a) ∧ w'.cell? ⟨g, 1, none⟩ = some (.float .f64 b) ∧ w'.cell? ⟨g + 1, 0, none⟩ = some (.float .f64 c) ∧ w'.cell? ⟨g + 1, 1, none⟩ = some (.float .f64 d)) (go_keep) (first
        | (go_at_call 16
           with_reducible refine (Calls.mono (same_self _ _ _)) ?_
           rintro r x3 ⟨rfl, hb⟩
           have hb1 : Below x2.heap.size x2 x3 := by first | exact hb | exact ((Below.refl _ x2).drew).trans (hb.mono (Nat.le_refl _)) | exact ((Below.refl _ x2).drew).drew.trans (hb.mono (Nat.le_refl _))
           have T3 := Aside.intro (T2.out.below hb1)
           obtain ⟨t30, t31, t32, t33⟩ := T3.out.facts
           clear hb hb1)
        | (go_at_call 25
           with_reducible refine (Calls.mono (F.2.out _)) ?_
           rintro r x2 ⟨rfl, hb⟩
           have hb1 : Below x1.heap.size x1 x2 := by first | exact hb | exact ((Below.refl _ x1).drew).trans (hb.mono (Nat.le_refl _)) | exact ((Below.refl _ x1).drew).drew.trans (hb.mono (Nat.le_refl _))
           have T2 := Aside.intro (T1.out.below hb1)
           obtain ⟨t20, t21, t22, t23⟩ := T2.out.facts
           clear hb hb1)
        | (go_at_call 24
           with_reducible refine (Calls.mono (F.1.out _)) ?_
           rintro r x1 ⟨rfl, hb⟩
           have hb1 : Below U2.heap.size U2 x1 := by first | exact hb | exact ((Below.refl _ U2).drew).trans (hb.mono (Nat.le_refl _)) | exact ((Below.refl _ U2).drew).drew.trans (hb.mono (Nat.le_refl _))
           have T1 := Aside.intro (Z2.out.below hb1)
           obtain ⟨t10, t11, t12, t13⟩ := T1.out.facts
           clear hb hb1))
      all_goals (
        go_wp2_with fail
        go_meet
        case rel => exact ⟨rfl, T3⟩)
    case rest =>
      obtain ⟨rfl, Z3⟩ := hcut
      obtain ⟨U3, hU⟩ : ∃ U, U = wc := ⟨_, rfl⟩
      subst hU
      clear Z2
      go_upto_region 19 with fail
      go_cut [23] from 109 to 113 (fun v wx => v = .bool true ∧ Aside (Pq w wx g a b c d))
      case first =>
        obtain ⟨k0, k1, k2, k3⟩ := Z3.out.facts
        go_region_held3 (fun w' => w'.cell? ⟨g, 0, none⟩ = some (.float .f64 a) ∧ w'.cell? ⟨g, 1, none⟩ = some (.float .f64 b) ∧ w'.cell? ⟨g + 1, 0, none⟩ = some (.float .f64 c) ∧ w'.cell? ⟨g + 1, 1, none⟩ = some (.float .f64 d)) (go_keep) (first
          | (go_at_call 26
             with_reducible refine (Calls.mono (same_one _ _)) ?_
             rintro r x3 ⟨rfl, hb⟩
             have hb1 : Below x2.heap.size x2 x3 := by first | exact hb | exact ((Below.refl _ x2).drew).trans (hb.mono (Nat.le_refl _)) | exact ((Below.refl _ x2).drew).drew.trans (hb.mono (Nat.le_refl _))
             have T3 := Aside.intro (T2.out.below hb1)
             obtain ⟨t30, t31, t32, t33⟩ := T3.out.facts
             clear hb hb1)
          | (go_at_call 28
             with_reducible refine (Calls.mono (G.2.out _)) ?_
             rintro r x2 ⟨rfl, hb⟩
             have hb1 : Below x1.heap.size x1 x2 := by first | exact hb | exact ((Below.refl _ x1).drew).trans (hb.mono (Nat.le_refl _)) | exact ((Below.refl _ x1).drew).drew.trans (hb.mono (Nat.le_refl _))
             have T2 := Aside.intro (T1.out.below hb1)
             obtain ⟨t20, t21, t22, t23⟩ := T2.out.facts
             clear hb hb1)
          | (go_at_call 27
             with_reducible refine (Calls.mono (G.1.out _)) ?_
             rintro r x1 ⟨rfl, hb⟩
             have hb1 : Below U3.heap.size U3 x1 := by first | exact hb | exact ((Below.refl _ U3).drew).trans (hb.mono (Nat.le_refl _)) | exact ((Below.refl _ U3).drew).drew.trans (hb.mono (Nat.le_refl _))
             have T1 := Aside.intro (Z3.out.below hb1)
             obtain ⟨t10, t11, t12, t13⟩ := T1.out.facts
             clear hb hb1))
        all_goals (
          go_wp2_with fail
          go_meet
          case rel => exact ⟨rfl, T3⟩)
      case rest =>
        obtain ⟨rfl, Z4⟩ := hcut
        obtain ⟨U4, hU⟩ : ∃ U, U = wc := ⟨_, rfl⟩
        subst hU
        clear Z3
        go_wp2
        exact bodyPost_ret (v := .bool true) (by simp [results, Try.results4, go_sem]) rfl ⟨rfl, Z4.out.bel⟩

theorem walk_PairSteps (a b c d : Nat) (w0 : (Lit.float .f64 a).wf = true) (w1 : (Lit.float .f64 b).wf = true) (w2 : (Lit.float .f64 c).wf = true) (w3 : (Lit.float .f64 d).wf = true) (w : World) :
    Calls Try.prog 4 #[.float .f64 a, .float .f64 b, .float .f64 c, .float .f64 d] w fun r w' => r = .returned (.bool true) ∧ Below w.heap.size w w' := by
  have ha : Wd a := by have h := w0; simp [Lit.wf] at h; exact h
  have hb : Wd b := by have h := w1; simp [Lit.wf] at h; exact h
  have hc : Wd c := by have h := w2; simp [Lit.wf] at h; exact h
  have hd : Wd d := by have h := w3; simp [Lit.wf] at h; exact h
  exact steps_core a b c d _ _ _ _ _ _ _ _ _ _ _ _ _ _ _ _ _ _ _ _ _ _ _ _ _ _ _ _ _ _ _ _ _ _ _ _ _ w
    ⟨hid fun u => Sum_all a b u, hid fun u => rSum_all a b ha hb u⟩ ⟨hid fun u => Quick_all a b u, hid fun u => rQuick_all a b ha hb u⟩ ⟨hid fun u => Halves_all a u, hid fun u => rHalves_all a ha u⟩ ⟨hid fun u => Product_all a b u, hid fun u => rProduct_all a b ha hb u⟩
    ⟨hid fun u => Sum_all b a u, hid fun u => rSum_all b a hb ha u⟩ ⟨hid fun u => Quick_all b a u, hid fun u => rQuick_all b a hb ha u⟩ ⟨hid fun u => Halves_all b u, hid fun u => rHalves_all b hb u⟩ ⟨hid fun u => Product_all b a u, hid fun u => rProduct_all b a hb ha u⟩
    ⟨hid fun u => Sum_all c d u, hid fun u => rSum_all c d hc hd u⟩ ⟨hid fun u => Quick_all c d u, hid fun u => rQuick_all c d hc hd u⟩ ⟨hid fun u => Halves_all c u, hid fun u => rHalves_all c hc u⟩ ⟨hid fun u => Product_all c d u, hid fun u => rProduct_all c d hc hd u⟩
    ⟨hid fun u => Sum_all a a u, hid fun u => rSum_all a a ha ha u⟩ ⟨hid fun u => Quick_all a a u, hid fun u => rQuick_all a a ha ha u⟩ ⟨hid fun u => Halves_all a u, hid fun u => rHalves_all a ha u⟩ ⟨hid fun u => Product_all a a u, hid fun u => rProduct_all a a ha ha u⟩
    ⟨hid fun u => Add_all a b c d u, hid fun u => rAdd_all a b c d ha hb hc hd u⟩ ⟨hid fun u => Mul_all a b c d u, hid fun u => rMul_all a b c d ha hb hc hd u⟩ ⟨hid fun u => Value_all a b u, hid fun u => rValue_all a b ha hb u⟩
end Go.Proofs.Ythilnddhehbjiab

