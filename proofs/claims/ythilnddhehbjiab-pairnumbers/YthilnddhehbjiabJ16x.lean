/- What each call of the package and of the document answers, as a plain function of the numbers' bits. -/
import Derived.Test.YthilnddhehbjiabD39x
import Derived.Test.YthilnddhehbjiabJ4x
import Derived.Test.YthilnddhehbjiabJ6x
import Derived.KernelRfl
namespace Go.Proofs.Ythilnddhehbjiab
open Go.RowKit J
set_option linter.unusedVariables false
set_option maxRecDepth 20000

abbrev Wd (x : Nat) : Prop := x < 18446744073709551616
theorem odd_wd : Wd oddW := by unfold Wd oddW; decide
theorem ar_wd (op : BinOp) (ho : op = .add ∨ op = .sub ∨ op = .mul) (x y : Nat) : Wd (arW op x y) := by
  unfold arW
  cases h : floatBits op .f64 x y with
  | none => exact odd_wd
  | some z => exact (bits_fin ho h).2
def plW (x y : Nat) : Nat := arW .add x y
def miW (x y : Nat) : Nat := arW .sub x y
def tiW (x y : Nat) : Nat := arW .mul x y
theorem pl_wd (x y : Nat) : Wd (plW x y) := ar_wd .add (.inl rfl) x y
theorem mi_wd (x y : Nat) : Wd (miW x y) := ar_wd .sub (.inr (.inl rfl)) x y
theorem ti_wd (x y : Nat) : Wd (tiW x y) := ar_wd .mul (.inr (.inr rfl)) x y
def quickP (a b : Nat) : Nat × Nat := (plW a b, miW b (miW (plW a b) a))
def sumP (a b : Nat) : Nat × Nat := (plW a b, plW (miW a (miW (plW a b) (miW (plW a b) a))) (miW b (miW (plW a b) a)))
def halfP (a : Nat) : Nat × Nat := (plW (tiW 4728779608772575232 a) (miW a (tiW 4728779608772575232 a)), miW a (plW (tiW 4728779608772575232 a) (miW a (tiW 4728779608772575232 a))))
def prodP (a b : Nat) : Nat × Nat := (tiW a b, plW (plW (plW (miW (tiW (halfP a).1 (halfP b).1) (tiW a b)) (tiW (halfP a).1 (halfP b).2)) (tiW (halfP a).2 (halfP b).1)) (tiW (halfP a).2 (halfP b).2))
def addY (a b c d : Nat) : Nat := plW (sumP b d).2 (quickP (sumP a c).1 (plW (sumP a c).2 (sumP b d).1)).2
def addP (a b c d : Nat) : Nat × Nat := quickP (quickP (sumP a c).1 (plW (sumP a c).2 (sumP b d).1)).1 (addY a b c d)
def mulP (a b c d : Nat) : Nat × Nat := quickP (prodP a c).1 (plW (prodP a c).2 (plW (tiW a d) (tiW b c)))

theorem Quick_all (a b : Nat) (w : World) : Calls Try.prog 18 #[.float .f64 a, .float .f64 b] w fun r w' => r = .returned (.agg #[.float .f64 (quickP a b).1, .float .f64 (quickP a b).2]) ∧ Below w.heap.size w w' :=
  Quick_core a b _ _ _ w (hid fun u => step_plus _ _ u) (hid fun u => step_minus _ _ u) (hid fun u => step_minus _ _ u)
theorem Sum_all (a b : Nat) (w : World) : Calls Try.prog 12 #[.float .f64 a, .float .f64 b] w fun r w' => r = .returned (.agg #[.float .f64 (sumP a b).1, .float .f64 (sumP a b).2]) ∧ Below w.heap.size w w' :=
  Sum_core a b _ _ _ _ _ _ w (hid fun u => step_plus _ _ u) (hid fun u => step_minus _ _ u) (hid fun u => step_minus _ _ u) (hid fun u => step_minus _ _ u) (hid fun u => step_minus _ _ u) (hid fun u => step_plus _ _ u)
theorem Halves_all (a : Nat) (w : World) : Calls Try.prog 13 #[.float .f64 a] w fun r w' => r = .returned (.agg #[.float .f64 (halfP a).1, .float .f64 (halfP a).2]) ∧ Below w.heap.size w w' :=
  Halves_core a _ _ _ _ w (hid fun u => step_times _ _ u) (hid fun u => step_minus _ _ u) (hid fun u => step_plus _ _ u) (hid fun u => step_minus _ _ u)
theorem Product_all (a b : Nat) (w : World) : Calls Try.prog 14 #[.float .f64 a, .float .f64 b] w fun r w' => r = .returned (.agg #[.float .f64 (prodP a b).1, .float .f64 (prodP a b).2]) ∧ Below w.heap.size w w' :=
  Product_core a b _ _ _ _ _ _ _ _ _ _ _ _ _ w (hid fun u => step_times _ _ u) (hid fun u => Halves_all a  u) (hid fun u => Halves_all b  u) (hid fun u => step_times _ _ u) (hid fun u => step_minus _ _ u) (hid fun u => step_times _ _ u) (hid fun u => step_plus _ _ u) (hid fun u => step_times _ _ u) (hid fun u => step_plus _ _ u) (hid fun u => step_times _ _ u) (hid fun u => step_plus _ _ u)
theorem Add_all (a b c d : Nat) (w : World) : Calls Try.prog 22 #[.agg #[.float .f64 a, .float .f64 b], .agg #[.float .f64 c, .float .f64 d]] w fun r w' => r = .returned (.agg #[.float .f64 (addP a b c d).1, .float .f64 (addP a b c d).2]) ∧ Below w.heap.size w w' :=
  Add_core a b c d _ _ _ _ _ _ _ _ _ _ w (hid fun u => Sum_all _ _  u) (hid fun u => Sum_all _ _  u) (hid fun u => step_plus _ _ u) (hid fun u => Quick_all _ _  u) (hid fun u => step_plus _ _ u) (hid fun u => Quick_all _ _  u)
theorem Mul_all (a b c d : Nat) (w : World) : Calls Try.prog 24 #[.agg #[.float .f64 a, .float .f64 b], .agg #[.float .f64 c, .float .f64 d]] w fun r w' => r = .returned (.agg #[.float .f64 (mulP a b c d).1, .float .f64 (mulP a b c d).2]) ∧ Below w.heap.size w w' :=
  Mul_core a b c d _ _ _ _ _ _ _ _ w (hid fun u => Product_all _ _  u) (hid fun u => step_times _ _ u) (hid fun u => step_times _ _ u) (hid fun u => step_plus _ _ u) (hid fun u => step_plus _ _ u) (hid fun u => Quick_all _ _  u)
theorem Value_all (a b : Nat) (w : World) : Calls Try.prog 27 #[.agg #[.float .f64 a, .float .f64 b]] w fun r w' => r = .returned (.float .f64 (plW a b)) ∧ Below w.heap.size w w' :=
  Value_core a b _ w (hid fun u => step_plus _ _ u)
theorem rQuick_all (a b : Nat) (ha : Wd a) (hb : Wd b) (w : World) : Calls Try.prog 19 #[.float .f64 a, .float .f64 b] w fun r w' => r = .returned (.agg #[.float .f64 (quickP a b).1, .float .f64 (quickP a b).2]) ∧ Below w.heap.size w w' :=
  rQuick_core a b _ _ _ w (hid fun u => sPlus_any _ _ ha hb u) (hid fun u => sMinus_any _ _ (pl_wd _ _) ha u) (hid fun u => sMinus_any _ _ hb (mi_wd _ _) u)
theorem rSum_all (a b : Nat) (ha : Wd a) (hb : Wd b) (w : World) : Calls Try.prog 17 #[.float .f64 a, .float .f64 b] w fun r w' => r = .returned (.agg #[.float .f64 (sumP a b).1, .float .f64 (sumP a b).2]) ∧ Below w.heap.size w w' :=
  rSum_core a b _ _ _ _ _ _ w (hid fun u => sPlus_any _ _ ha hb u) (hid fun u => sMinus_any _ _ (pl_wd _ _) ha u) (hid fun u => sMinus_any _ _ (pl_wd _ _) (mi_wd _ _) u) (hid fun u => sMinus_any _ _ ha (mi_wd _ _) u) (hid fun u => sMinus_any _ _ hb (mi_wd _ _) u) (hid fun u => sPlus_any _ _ (mi_wd _ _) (mi_wd _ _) u)
theorem rHalves_all (a : Nat) (ha : Wd a) (w : World) : Calls Try.prog 20 #[.float .f64 a] w fun r w' => r = .returned (.agg #[.float .f64 (halfP a).1, .float .f64 (halfP a).2]) ∧ Below w.heap.size w w' :=
  rHalves_core a _ _ _ _ w (hid fun u => sTimes_any _ _ (by decide) ha u) (hid fun u => sMinus_any _ _ ha (ti_wd _ _) u) (hid fun u => sPlus_any _ _ (ti_wd _ _) (mi_wd _ _) u) (hid fun u => sMinus_any _ _ ha (pl_wd _ _) u)
theorem rProduct_all (a b : Nat) (ha : Wd a) (hb : Wd b) (w : World) : Calls Try.prog 21 #[.float .f64 a, .float .f64 b] w fun r w' => r = .returned (.agg #[.float .f64 (prodP a b).1, .float .f64 (prodP a b).2]) ∧ Below w.heap.size w w' :=
  rProduct_core a b _ _ _ _ _ _ _ _ _ _ _ _ _ w (hid fun u => sTimes_any _ _ ha hb u) (hid fun u => rHalves_all a ha u) (hid fun u => rHalves_all b hb u) (hid fun u => sTimes_any _ _ (pl_wd _ _) (pl_wd _ _) u) (hid fun u => sMinus_any _ _ (ti_wd _ _) (ti_wd _ _) u) (hid fun u => sTimes_any _ _ (pl_wd _ _) (mi_wd _ _) u) (hid fun u => sPlus_any _ _ (mi_wd _ _) (ti_wd _ _) u) (hid fun u => sTimes_any _ _ (mi_wd _ _) (pl_wd _ _) u) (hid fun u => sPlus_any _ _ (pl_wd _ _) (ti_wd _ _) u) (hid fun u => sTimes_any _ _ (mi_wd _ _) (mi_wd _ _) u) (hid fun u => sPlus_any _ _ (pl_wd _ _) (ti_wd _ _) u)
theorem rAdd_all (a b c d : Nat) (ha : Wd a) (hb : Wd b) (hc : Wd c) (hd : Wd d) (w : World) : Calls Try.prog 23 #[.agg #[.float .f64 a, .float .f64 b], .agg #[.float .f64 c, .float .f64 d]] w fun r w' => r = .returned (.agg #[.float .f64 (addP a b c d).1, .float .f64 (addP a b c d).2]) ∧ Below w.heap.size w w' :=
  rAdd_core a b c d _ _ _ _ _ _ _ _ _ _ w (hid fun u => rSum_all _ _ ha hc u) (hid fun u => rSum_all _ _ hb hd u) (hid fun u => sPlus_any _ _ (pl_wd _ _) (pl_wd _ _) u) (hid fun u => rQuick_all _ _ (pl_wd _ _) (pl_wd _ _) u) (hid fun u => sPlus_any _ _ (pl_wd _ _) (mi_wd _ _) u) (hid fun u => rQuick_all _ _ (pl_wd _ _) (pl_wd _ _) u)
theorem rMul_all (a b c d : Nat) (ha : Wd a) (hb : Wd b) (hc : Wd c) (hd : Wd d) (w : World) : Calls Try.prog 25 #[.agg #[.float .f64 a, .float .f64 b], .agg #[.float .f64 c, .float .f64 d]] w fun r w' => r = .returned (.agg #[.float .f64 (mulP a b c d).1, .float .f64 (mulP a b c d).2]) ∧ Below w.heap.size w w' :=
  rMul_core a b c d _ _ _ _ _ _ _ _ w (hid fun u => rProduct_all _ _ ha hc u) (hid fun u => sTimes_any _ _ ha hd u) (hid fun u => sTimes_any _ _ hb hc u) (hid fun u => sPlus_any _ _ (ti_wd _ _) (ti_wd _ _) u) (hid fun u => sPlus_any _ _ (pl_wd _ _) (pl_wd _ _) u) (hid fun u => rQuick_all _ _ (ti_wd _ _) (pl_wd _ _) u)
theorem rValue_all (a b : Nat) (ha : Wd a) (hb : Wd b) (w : World) : Calls Try.prog 28 #[.agg #[.float .f64 a, .float .f64 b]] w fun r w' => r = .returned (.float .f64 (plW a b)) ∧ Below w.heap.size w w' :=
  rValue_core a b _ w (hid fun u => sPlus_any _ _ ha hb u)
end Go.Proofs.Ythilnddhehbjiab

/- The chapter's examples, call by call. -/
namespace Go.Proofs.Ythilnddhehbjiab
open Go.RowKit J
set_option linter.unusedVariables false
set_option maxRecDepth 20000
set_option linter.unusedSimpArgs false
attribute [local go_sem] B.f64bits B.f64frombits

theorem power_lit (n : Int) (z : Nat) (h0 : -1022 ≤ n) (h1 : n ≤ 1023) (hz : (z : Int) = (n + 1023) * 4503599627370496) (w : World) : Calls Try.prog 15 #[.int .i64 n] w fun r w' => r = .returned (.float .f64 z) ∧ Below w.heap.size w w' := by
  have e1 : decide (n < -1022) = false := by simp; omega
  have e2 : IntKind.i64.wrap (n + 1023) = n + 1023 := by rw [IntKind.wrap_i64]; omega
  have e3 : IntKind.u64.wrap (n + 1023) = n + 1023 := by rw [IntKind.wrap_u64]; omega
  have e4 : IntKind.u64.wrap ((n + 1023) * 4503599627370496) = (z : Int) := by rw [IntKind.wrap_u64, hz]; omega
  have e5 : ((n + 1023) * 4503599627370496).toNat = z := by omega
  go_enter Try.func15, Try.ntmps15
  go_wp2
  exact bodyPost_ret (v := .float .f64 z) (by simp [results, Try.results15, go_sem, e1, e2, e3, e4, e5]) rfl ⟨rfl, Below.refl _ _⟩
theorem q_turn (u : World) : Calls Try.prog 10 #[.float .f64 0] u fun r w' => r = .returned (.float .f64 9223372036854775808) ∧ Below u.heap.size u w' :=
  (rTurned_any 0 (by decide) u).mono fun r w' h => ⟨h.1, by rw [h.2]; exact Below.refl _ _⟩
theorem q_odd (u : World) : Calls Try.prog 9 #[] u fun r w' => r = .returned (.float .f64 9221120237041090560) ∧ Below u.heap.size u w' :=
  (rOdd_any u).mono fun r w' h => ⟨h.1, by rw [h.2]; exact Below.refl _ _⟩
theorem q_value (u : World) : Calls Try.prog 27 #[.agg #[.float .f64 4607182418800017408, .float .f64 4336966441157787648]] u fun r w' => r = .returned (.float .f64 4607182418800017408) ∧ Below u.heap.size u w' := by
  have h := Value_all 4607182418800017408 4336966441157787648 u
  rw [show plW 4607182418800017408 4336966441157787648 = 4607182418800017408 from by kernel_rfl] at h
  exact h
theorem q_same (u : World) : Calls Try.prog 26 #[.float .f64 4607182418800017408, .float .f64 4607182418800017408] u fun r w' => r = .returned (.bool true) ∧ Below u.heap.size u w' :=
  (rSame_w _ _ u).mono fun r w' h => ⟨by rw [h.1]; simp, by rw [h.2]; exact Below.refl _ _⟩
theorem q0 (u : World) : Calls Try.prog 15 #[.int .i64 27] u fun r w' => r = .returned (.float .f64 4728779608739020800) ∧ Below u.heap.size u w' := power_lit 27 4728779608739020800 (by omega) (by omega) (by decide) u
theorem q1 (u : World) : Calls Try.prog 15 #[.int .i64 (-60)] u fun r w' => r = .returned (.float .f64 4336966441157787648) ∧ Below u.heap.size u w' := power_lit (-60) 4336966441157787648 (by omega) (by omega) (by decide) u
theorem q2 (u : World) : Calls Try.prog 12 #[.float .f64 4607182418800017408, .float .f64 4336966441157787648] u fun r w' => r = .returned (.agg #[.float .f64 4607182418800017408, .float .f64 4336966441157787648]) ∧ Below u.heap.size u w' := by
  have h := Sum_all 4607182418800017408 4336966441157787648 u
  rw [show sumP 4607182418800017408 4336966441157787648 = (4607182418800017408, 4336966441157787648) from by kernel_rfl] at h
  exact h
theorem q3 (u : World) : Calls Try.prog 11 #[.agg #[.float .f64 4607182418800017408, .float .f64 4336966441157787648], .float .f64 4607182418800017408, .float .f64 4336966441157787648] u fun r w' => r = .returned (.bool true) ∧ Below u.heap.size u w' := by
  have h := is_any 4607182418800017408 4336966441157787648 4607182418800017408 4336966441157787648 u
  rw [show ((4607182418800017408 : Nat) == 4607182418800017408 && (4336966441157787648 : Nat) == 4336966441157787648) = true from by decide] at h
  exact h
theorem q4 (u : World) : Calls Try.prog 15 #[.int .i64 60] u fun r w' => r = .returned (.float .f64 4877398396442247168) ∧ Below u.heap.size u w' := power_lit 60 4877398396442247168 (by omega) (by omega) (by decide) u
theorem q5 (u : World) : Calls Try.prog 18 #[.float .f64 4607182418800017408, .float .f64 4877398396442247169] u fun r w' => r = .returned (.agg #[.float .f64 4877398396442247169, .float .f64 0]) ∧ Below u.heap.size u w' := by
  have h := Quick_all 4607182418800017408 4877398396442247169 u
  rw [show quickP 4607182418800017408 4877398396442247169 = (4877398396442247169, 0) from by kernel_rfl] at h
  exact h
theorem q6 (u : World) : Calls Try.prog 11 #[.agg #[.float .f64 4877398396442247169, .float .f64 0], .float .f64 4877398396442247169, .float .f64 0] u fun r w' => r = .returned (.bool true) ∧ Below u.heap.size u w' := by
  have h := is_any 4877398396442247169 0 4877398396442247169 0 u
  rw [show ((4877398396442247169 : Nat) == 4877398396442247169 && (0 : Nat) == 0) = true from by decide] at h
  exact h
theorem q7 (u : World) : Calls Try.prog 12 #[.float .f64 9223372036854775808, .float .f64 9223372036854775808] u fun r w' => r = .returned (.agg #[.float .f64 9223372036854775808, .float .f64 0]) ∧ Below u.heap.size u w' := by
  have h := Sum_all 9223372036854775808 9223372036854775808 u
  rw [show sumP 9223372036854775808 9223372036854775808 = (9223372036854775808, 0) from by kernel_rfl] at h
  exact h
theorem q8 (u : World) : Calls Try.prog 11 #[.agg #[.float .f64 9223372036854775808, .float .f64 0], .float .f64 9223372036854775808, .float .f64 0] u fun r w' => r = .returned (.bool true) ∧ Below u.heap.size u w' := by
  have h := is_any 9223372036854775808 0 9223372036854775808 0 u
  rw [show ((9223372036854775808 : Nat) == 9223372036854775808 && (0 : Nat) == 0) = true from by decide] at h
  exact h
theorem q9 (u : World) : Calls Try.prog 12 #[.float .f64 9221120237041090560, .float .f64 4607182418800017408] u fun r w' => r = .returned (.agg #[.float .f64 9221120237041090560, .float .f64 9221120237041090560]) ∧ Below u.heap.size u w' := by
  have h := Sum_all 9221120237041090560 4607182418800017408 u
  rw [show sumP 9221120237041090560 4607182418800017408 = (9221120237041090560, 9221120237041090560) from by kernel_rfl] at h
  exact h
theorem q10 (u : World) : Calls Try.prog 11 #[.agg #[.float .f64 9221120237041090560, .float .f64 9221120237041090560], .float .f64 9221120237041090560, .float .f64 9221120237041090560] u fun r w' => r = .returned (.bool true) ∧ Below u.heap.size u w' := by
  have h := is_any 9221120237041090560 9221120237041090560 9221120237041090560 9221120237041090560 u
  rw [show ((9221120237041090560 : Nat) == 9221120237041090560 && (9221120237041090560 : Nat) == 9221120237041090560) = true from by decide] at h
  exact h
theorem q11 (u : World) : Calls Try.prog 13 #[.float .f64 4728779608772575232] u fun r w' => r = .returned (.agg #[.float .f64 4728779608739020800, .float .f64 4607182418800017408]) ∧ Below u.heap.size u w' := by
  have h := Halves_all 4728779608772575232 u
  rw [show halfP 4728779608772575232 = (4728779608739020800, 4607182418800017408) from by kernel_rfl] at h
  exact h
theorem q12 (u : World) : Calls Try.prog 11 #[.agg #[.float .f64 4728779608739020800, .float .f64 4607182418800017408], .float .f64 4728779608739020800, .float .f64 4607182418800017408] u fun r w' => r = .returned (.bool true) ∧ Below u.heap.size u w' := by
  have h := is_any 4728779608739020800 4607182418800017408 4728779608739020800 4607182418800017408 u
  rw [show ((4728779608739020800 : Nat) == 4728779608739020800 && (4607182418800017408 : Nat) == 4607182418800017408) = true from by decide] at h
  exact h
theorem q13 (u : World) : Calls Try.prog 14 #[.float .f64 4728779608772575232, .float .f64 4728779608772575232] u fun r w' => r = .returned (.agg #[.float .f64 4850376798745133056, .float .f64 4607182418800017408]) ∧ Below u.heap.size u w' := by
  have h := Product_all 4728779608772575232 4728779608772575232 u
  rw [show prodP 4728779608772575232 4728779608772575232 = (4850376798745133056, 4607182418800017408) from by kernel_rfl] at h
  exact h
theorem q14 (u : World) : Calls Try.prog 15 #[.int .i64 54] u fun r w' => r = .returned (.float .f64 4850376798678024192) ∧ Below u.heap.size u w' := power_lit 54 4850376798678024192 (by omega) (by omega) (by decide) u
theorem q15 (u : World) : Calls Try.prog 15 #[.int .i64 28] u fun r w' => r = .returned (.float .f64 4733283208366391296) ∧ Below u.heap.size u w' := power_lit 28 4733283208366391296 (by omega) (by omega) (by decide) u
theorem q16 (u : World) : Calls Try.prog 11 #[.agg #[.float .f64 4850376798745133056, .float .f64 4607182418800017408], .float .f64 4850376798745133056, .float .f64 4607182418800017408] u fun r w' => r = .returned (.bool true) ∧ Below u.heap.size u w' := by
  have h := is_any 4850376798745133056 4607182418800017408 4850376798745133056 4607182418800017408 u
  rw [show ((4850376798745133056 : Nat) == 4850376798745133056 && (4607182418800017408 : Nat) == 4607182418800017408) = true from by decide] at h
  exact h
theorem q17 (u : World) : Calls Try.prog 22 #[.agg #[.float .f64 4607182418800017408, .float .f64 4336966441157787648], .agg #[.float .f64 13830554455654793216, .float .f64 0]] u fun r w' => r = .returned (.agg #[.float .f64 4336966441157787648, .float .f64 0]) ∧ Below u.heap.size u w' := by
  have h := Add_all 4607182418800017408 4336966441157787648 13830554455654793216 0 u
  rw [show addP 4607182418800017408 4336966441157787648 13830554455654793216 0 = (4336966441157787648, 0) from by kernel_rfl] at h
  exact h
theorem q18 (u : World) : Calls Try.prog 11 #[.agg #[.float .f64 4336966441157787648, .float .f64 0], .float .f64 4336966441157787648, .float .f64 0] u fun r w' => r = .returned (.bool true) ∧ Below u.heap.size u w' := by
  have h := is_any 4336966441157787648 0 4336966441157787648 0 u
  rw [show ((4336966441157787648 : Nat) == 4336966441157787648 && (0 : Nat) == 0) = true from by decide] at h
  exact h
theorem q19 (u : World) : Calls Try.prog 15 #[.int .i64 53] u fun r w' => r = .returned (.float .f64 4845873199050653696) ∧ Below u.heap.size u w' := power_lit 53 4845873199050653696 (by omega) (by omega) (by decide) u
theorem q20 (u : World) : Calls Try.prog 24 #[.agg #[.float .f64 4845873199050653696, .float .f64 4607182418800017408], .agg #[.float .f64 4611686018427387904, .float .f64 0]] u fun r w' => r = .returned (.agg #[.float .f64 4850376798678024192, .float .f64 4611686018427387904]) ∧ Below u.heap.size u w' := by
  have h := Mul_all 4845873199050653696 4607182418800017408 4611686018427387904 0 u
  rw [show mulP 4845873199050653696 4607182418800017408 4611686018427387904 0 = (4850376798678024192, 4611686018427387904) from by kernel_rfl] at h
  exact h
theorem q21 (u : World) : Calls Try.prog 11 #[.agg #[.float .f64 4850376798678024192, .float .f64 4611686018427387904], .float .f64 4850376798678024192, .float .f64 4611686018427387904] u fun r w' => r = .returned (.bool true) ∧ Below u.heap.size u w' := by
  have h := is_any 4850376798678024192 4611686018427387904 4850376798678024192 4611686018427387904 u
  rw [show ((4850376798678024192 : Nat) == 4850376798678024192 && (4611686018427387904 : Nat) == 4611686018427387904) = true from by decide] at h
  exact h
theorem q22 (u : World) : Calls Try.prog 12 #[.float .f64 4591870180066957722, .float .f64 4596373779694328218] u fun r w' => r = .returned (.agg #[.float .f64 4599075939470750516, .float .f64 13582856476149415936]) ∧ Below u.heap.size u w' := by
  have h := Sum_all 4591870180066957722 4596373779694328218 u
  rw [show sumP 4591870180066957722 4596373779694328218 = (4599075939470750516, 13582856476149415936) from by kernel_rfl] at h
  exact h
theorem q23 (u : World) : Calls Try.prog 11 #[.agg #[.float .f64 4599075939470750516, .float .f64 13582856476149415936], .float .f64 4599075939470750516, .float .f64 13582856476149415936] u fun r w' => r = .returned (.bool true) ∧ Below u.heap.size u w' := by
  have h := is_any 4599075939470750516 13582856476149415936 4599075939470750516 13582856476149415936 u
  rw [show ((4599075939470750516 : Nat) == 4599075939470750516 && (13582856476149415936 : Nat) == 13582856476149415936) = true from by decide] at h
  exact h
theorem q24 (u : World) : Calls Try.prog 12 #[.float .f64 9218868437227405311, .float .f64 9218868437227405311] u fun r w' => r = .returned (.agg #[.float .f64 9218868437227405312, .float .f64 9221120237041090560]) ∧ Below u.heap.size u w' := by
  have h := Sum_all 9218868437227405311 9218868437227405311 u
  rw [show sumP 9218868437227405311 9218868437227405311 = (9218868437227405312, 9221120237041090560) from by kernel_rfl] at h
  exact h
theorem q25 (u : World) : Calls Try.prog 11 #[.agg #[.float .f64 9218868437227405312, .float .f64 9221120237041090560], .float .f64 9218868437227405312, .float .f64 9221120237041090560] u fun r w' => r = .returned (.bool true) ∧ Below u.heap.size u w' := by
  have h := is_any 9218868437227405312 9221120237041090560 9218868437227405312 9221120237041090560 u
  rw [show ((9218868437227405312 : Nat) == 9218868437227405312 && (9221120237041090560 : Nat) == 9221120237041090560) = true from by decide] at h
  exact h
theorem q26 (u : World) : Calls Try.prog 12 #[.float .f64 9218868437227405312, .float .f64 4607182418800017408] u fun r w' => r = .returned (.agg #[.float .f64 9218868437227405312, .float .f64 9221120237041090560]) ∧ Below u.heap.size u w' := by
  have h := Sum_all 9218868437227405312 4607182418800017408 u
  rw [show sumP 9218868437227405312 4607182418800017408 = (9218868437227405312, 9221120237041090560) from by kernel_rfl] at h
  exact h
theorem q27 (u : World) : Calls Try.prog 13 #[.float .f64 9223372036854775808] u fun r w' => r = .returned (.agg #[.float .f64 0, .float .f64 9223372036854775808]) ∧ Below u.heap.size u w' := by
  have h := Halves_all 9223372036854775808 u
  rw [show halfP 9223372036854775808 = (0, 9223372036854775808) from by kernel_rfl] at h
  exact h
theorem q28 (u : World) : Calls Try.prog 11 #[.agg #[.float .f64 0, .float .f64 9223372036854775808], .float .f64 0, .float .f64 9223372036854775808] u fun r w' => r = .returned (.bool true) ∧ Below u.heap.size u w' := by
  have h := is_any 0 9223372036854775808 0 9223372036854775808 u
  rw [show ((0 : Nat) == 0 && (9223372036854775808 : Nat) == 9223372036854775808) = true from by decide] at h
  exact h
theorem q29 (u : World) : Calls Try.prog 14 #[.float .f64 4591870180066957722, .float .f64 4621819117588971520] u fun r w' => r = .returned (.agg #[.float .f64 4607182418800017408, .float .f64 4363988038922010624]) ∧ Below u.heap.size u w' := by
  have h := Product_all 4591870180066957722 4621819117588971520 u
  rw [show prodP 4591870180066957722 4621819117588971520 = (4607182418800017408, 4363988038922010624) from by kernel_rfl] at h
  exact h
theorem q30 (u : World) : Calls Try.prog 11 #[.agg #[.float .f64 4607182418800017408, .float .f64 4363988038922010624], .float .f64 4607182418800017408, .float .f64 4363988038922010624] u fun r w' => r = .returned (.bool true) ∧ Below u.heap.size u w' := by
  have h := is_any 4607182418800017408 4363988038922010624 4607182418800017408 4363988038922010624 u
  rw [show ((4607182418800017408 : Nat) == 4607182418800017408 && (4363988038922010624 : Nat) == 4363988038922010624) = true from by decide] at h
  exact h
theorem q31 (u : World) : Calls Try.prog 14 #[.float .f64 13830554455654793216, .float .f64 0] u fun r w' => r = .returned (.agg #[.float .f64 9223372036854775808, .float .f64 0]) ∧ Below u.heap.size u w' := by
  have h := Product_all 13830554455654793216 0 u
  rw [show prodP 13830554455654793216 0 = (9223372036854775808, 0) from by kernel_rfl] at h
  exact h
theorem q32 (u : World) : Calls Try.prog 15 #[.int .i64 1000] u fun r w' => r = .returned (.float .f64 9110782046170513408) ∧ Below u.heap.size u w' := power_lit 1000 9110782046170513408 (by omega) (by omega) (by decide) u
theorem q33 (u : World) : Calls Try.prog 14 #[.float .f64 9110782046170513408, .float .f64 4607182418800017408] u fun r w' => r = .returned (.agg #[.float .f64 9110782046170513408, .float .f64 9221120237041090560]) ∧ Below u.heap.size u w' := by
  have h := Product_all 9110782046170513408 4607182418800017408 u
  rw [show prodP 9110782046170513408 4607182418800017408 = (9110782046170513408, 9221120237041090560) from by kernel_rfl] at h
  exact h
theorem q34 (u : World) : Calls Try.prog 11 #[.agg #[.float .f64 9110782046170513408, .float .f64 9221120237041090560], .float .f64 9110782046170513408, .float .f64 9221120237041090560] u fun r w' => r = .returned (.bool true) ∧ Below u.heap.size u w' := by
  have h := is_any 9110782046170513408 9221120237041090560 9110782046170513408 9221120237041090560 u
  rw [show ((9110782046170513408 : Nat) == 9110782046170513408 && (9221120237041090560 : Nat) == 9221120237041090560) = true from by decide] at h
  exact h
theorem q35 (u : World) : Calls Try.prog 12 #[.float .f64 4607182418800017408, .float .f64 13830554455654793216] u fun r w' => r = .returned (.agg #[.float .f64 0, .float .f64 0]) ∧ Below u.heap.size u w' := by
  have h := Sum_all 4607182418800017408 13830554455654793216 u
  rw [show sumP 4607182418800017408 13830554455654793216 = (0, 0) from by kernel_rfl] at h
  exact h
theorem q36 (u : World) : Calls Try.prog 11 #[.agg #[.float .f64 0, .float .f64 0], .float .f64 0, .float .f64 0] u fun r w' => r = .returned (.bool true) ∧ Below u.heap.size u w' := by
  have h := is_any 0 0 0 0 u
  rw [show ((0 : Nat) == 0 && (0 : Nat) == 0) = true from by decide] at h
  exact h
end Go.Proofs.Ythilnddhehbjiab

/- awake: the chapter's examples. -/
namespace Go.Proofs.Ythilnddhehbjiab
open Go.RowKit J
set_option linter.unusedVariables false
set_option maxRecDepth 20000
set_option linter.unusedSimpArgs false

set_option maxHeartbeats 8000000 in
theorem awake_all (w : World) : Calls Try.prog 7 #[] w fun r w' => r = .returned (.bool true) ∧ Below w.heap.size w w' := by
  have d1 : ∀ w, (binOp .add 23 (.float .f64 4728779608739020800) (.float .f64 4607182418800017408)).run Try.prog w = .ok (.float .f64 4728779608772575232) w := fun w => run_float_arith w .add _ .f64 _ _ _ (by kernel_rfl)
  have d2 : ∀ w, (binOp .add 23 (.float .f64 4877398396442247168) (.float .f64 4643211215818981376)).run Try.prog w = .ok (.float .f64 4877398396442247169) w := fun w => run_float_arith w .add _ .f64 _ _ _ (by kernel_rfl)
  have d3 : ∀ w, (binOp .add 23 (.float .f64 4850376798678024192) (.float .f64 4733283208366391296)).run Try.prog w = .ok (.float .f64 4850376798745133056) w := fun w => run_float_arith w .add _ .f64 _ _ _ (by kernel_rfl)
  go_enter Try.func7, Try.ntmps7
  go_wp2_with (simp only [d1, d2, d3])
  refine (Calls.mono (q0 _)) ?_
  rintro r w1 ⟨rfl, hb1⟩
  have S1 := Aside.intro hb1
  clear hb1
  go_wp2_with (simp only [d1, d2, d3])
  refine (Calls.mono (q_turn _)) ?_
  rintro r w2 ⟨rfl, hb2⟩
  have S2 := Aside.intro (S1.out.trans (hb2.mono S1.out.size))
  clear hb2 S1
  go_wp2_with (simp only [d1, d2, d3])
  refine (Calls.mono (q_odd _)) ?_
  rintro r w3 ⟨rfl, hb3⟩
  have S3 := Aside.intro (S2.out.trans (hb3.mono S2.out.size))
  clear hb3 S2
  go_wp2_with (simp only [d1, d2, d3])
  refine (Calls.mono (q1 _)) ?_
  rintro r w4 ⟨rfl, hb4⟩
  have S4 := Aside.intro (S3.out.trans (hb4.mono S3.out.size))
  clear hb4 S3
  go_wp2_with (simp only [d1, d2, d3])
  refine (Calls.mono (q2 _)) ?_
  rintro r w5 ⟨rfl, hb5⟩
  have S5 := Aside.intro (S4.out.trans (hb5.mono S4.out.size))
  clear hb5 S4
  go_wp2_with (simp only [d1, d2, d3])
  refine (Calls.mono (q1 _)) ?_
  rintro r w6 ⟨rfl, hb6⟩
  have S6 := Aside.intro (S5.out.trans (hb6.mono S5.out.size))
  clear hb6 S5
  go_wp2_with (simp only [d1, d2, d3])
  refine (Calls.mono (q3 _)) ?_
  rintro r w7 ⟨rfl, hb7⟩
  have S7 := Aside.intro (S6.out.trans (hb7.mono S6.out.size))
  clear hb7 S6
  go_wp2_with (simp only [d1, d2, d3])
  refine (Calls.mono (q4 _)) ?_
  rintro r w8 ⟨rfl, hb8⟩
  have S8 := Aside.intro (S7.out.trans (hb8.mono S7.out.size))
  clear hb8 S7
  go_wp2_with (simp only [d1, d2, d3])
  refine (Calls.mono (q5 _)) ?_
  rintro r w9 ⟨rfl, hb9⟩
  have S9 := Aside.intro (S8.out.trans (hb9.mono S8.out.size))
  clear hb9 S8
  go_wp2_with (simp only [d1, d2, d3])
  refine (Calls.mono (q4 _)) ?_
  rintro r w10 ⟨rfl, hb10⟩
  have S10 := Aside.intro (S9.out.trans (hb10.mono S9.out.size))
  clear hb10 S9
  go_wp2_with (simp only [d1, d2, d3])
  refine (Calls.mono (q6 _)) ?_
  rintro r w11 ⟨rfl, hb11⟩
  have S11 := Aside.intro (S10.out.trans (hb11.mono S10.out.size))
  clear hb11 S10
  go_wp2_with (simp only [d1, d2, d3])
  refine (Calls.mono (q7 _)) ?_
  rintro r w12 ⟨rfl, hb12⟩
  have S12 := Aside.intro (S11.out.trans (hb12.mono S11.out.size))
  clear hb12 S11
  go_wp2_with (simp only [d1, d2, d3])
  refine (Calls.mono (q8 _)) ?_
  rintro r w13 ⟨rfl, hb13⟩
  have S13 := Aside.intro (S12.out.trans (hb13.mono S12.out.size))
  clear hb13 S12
  go_wp2_with (simp only [d1, d2, d3])
  refine (Calls.mono (q9 _)) ?_
  rintro r w14 ⟨rfl, hb14⟩
  have S14 := Aside.intro (S13.out.trans (hb14.mono S13.out.size))
  clear hb14 S13
  go_wp2_with (simp only [d1, d2, d3])
  refine (Calls.mono (q10 _)) ?_
  rintro r w15 ⟨rfl, hb15⟩
  have S15 := Aside.intro (S14.out.trans (hb15.mono S14.out.size))
  clear hb15 S14
  go_wp2_with (simp only [d1, d2, d3])
  refine (Calls.mono (q11 _)) ?_
  rintro r w16 ⟨rfl, hb16⟩
  have S16 := Aside.intro (S15.out.trans (hb16.mono S15.out.size))
  clear hb16 S15
  go_wp2_with (simp only [d1, d2, d3])
  refine (Calls.mono (q0 _)) ?_
  rintro r w17 ⟨rfl, hb17⟩
  have S17 := Aside.intro (S16.out.trans (hb17.mono S16.out.size))
  clear hb17 S16
  go_wp2_with (simp only [d1, d2, d3])
  refine (Calls.mono (q12 _)) ?_
  rintro r w18 ⟨rfl, hb18⟩
  have S18 := Aside.intro (S17.out.trans (hb18.mono S17.out.size))
  clear hb18 S17
  go_wp2_with (simp only [d1, d2, d3])
  refine (Calls.mono (q13 _)) ?_
  rintro r w19 ⟨rfl, hb19⟩
  have S19 := Aside.intro (S18.out.trans (hb19.mono S18.out.size))
  clear hb19 S18
  go_wp2_with (simp only [d1, d2, d3])
  refine (Calls.mono (q14 _)) ?_
  rintro r w20 ⟨rfl, hb20⟩
  have S20 := Aside.intro (S19.out.trans (hb20.mono S19.out.size))
  clear hb20 S19
  go_wp2_with (simp only [d1, d2, d3])
  refine (Calls.mono (q15 _)) ?_
  rintro r w21 ⟨rfl, hb21⟩
  have S21 := Aside.intro (S20.out.trans (hb21.mono S20.out.size))
  clear hb21 S20
  go_wp2_with (simp only [d1, d2, d3])
  refine (Calls.mono (q16 _)) ?_
  rintro r w22 ⟨rfl, hb22⟩
  have S22 := Aside.intro (S21.out.trans (hb22.mono S21.out.size))
  clear hb22 S21
  go_wp2_with (simp only [d1, d2, d3])
  refine (Calls.mono (q1 _)) ?_
  rintro r w23 ⟨rfl, hb23⟩
  have S23 := Aside.intro (S22.out.trans (hb23.mono S22.out.size))
  clear hb23 S22
  go_wp2_with (simp only [d1, d2, d3])
  refine (Calls.mono (q17 _)) ?_
  rintro r w24 ⟨rfl, hb24⟩
  have S24 := Aside.intro (S23.out.trans (hb24.mono S23.out.size))
  clear hb24 S23
  go_wp2_with (simp only [d1, d2, d3])
  refine (Calls.mono (q1 _)) ?_
  rintro r w25 ⟨rfl, hb25⟩
  have S25 := Aside.intro (S24.out.trans (hb25.mono S24.out.size))
  clear hb25 S24
  go_wp2_with (simp only [d1, d2, d3])
  refine (Calls.mono (q18 _)) ?_
  rintro r w26 ⟨rfl, hb26⟩
  have S26 := Aside.intro (S25.out.trans (hb26.mono S25.out.size))
  clear hb26 S25
  go_wp2_with (simp only [d1, d2, d3])
  refine (Calls.mono (q19 _)) ?_
  rintro r w27 ⟨rfl, hb27⟩
  have S27 := Aside.intro (S26.out.trans (hb27.mono S26.out.size))
  clear hb27 S26
  go_wp2_with (simp only [d1, d2, d3])
  refine (Calls.mono (q20 _)) ?_
  rintro r w28 ⟨rfl, hb28⟩
  have S28 := Aside.intro (S27.out.trans (hb28.mono S27.out.size))
  clear hb28 S27
  go_wp2_with (simp only [d1, d2, d3])
  refine (Calls.mono (q14 _)) ?_
  rintro r w29 ⟨rfl, hb29⟩
  have S29 := Aside.intro (S28.out.trans (hb29.mono S28.out.size))
  clear hb29 S28
  go_wp2_with (simp only [d1, d2, d3])
  refine (Calls.mono (q21 _)) ?_
  rintro r w30 ⟨rfl, hb30⟩
  have S30 := Aside.intro (S29.out.trans (hb30.mono S29.out.size))
  clear hb30 S29
  go_wp2_with (simp only [d1, d2, d3])
  refine (Calls.mono (q1 _)) ?_
  rintro r w31 ⟨rfl, hb31⟩
  have S31 := Aside.intro (S30.out.trans (hb31.mono S30.out.size))
  clear hb31 S30
  go_wp2_with (simp only [d1, d2, d3])
  refine (Calls.mono (q_value _)) ?_
  rintro r w32 ⟨rfl, hb32⟩
  have S32 := Aside.intro (S31.out.trans (hb32.mono S31.out.size))
  clear hb32 S31
  go_wp2_with (simp only [d1, d2, d3])
  refine (Calls.mono (q_same _)) ?_
  rintro r w33 ⟨rfl, hb33⟩
  have S33 := Aside.intro (S32.out.trans (hb33.mono S32.out.size))
  clear hb33 S32
  go_wp2
  exact bodyPost_ret (v := .bool true) (by simp [results, Try.results7, go_sem]) rfl ⟨rfl, S33.out⟩
end Go.Proofs.Ythilnddhehbjiab

/- PairNumbers: the chapter's examples. -/
namespace Go.Proofs.Ythilnddhehbjiab
open Go.RowKit J
set_option linter.unusedVariables false
set_option maxRecDepth 20000
set_option linter.unusedSimpArgs false
attribute [local go_sem] B.f64bits B.f64frombits

set_option maxHeartbeats 8000000 in
theorem walk_PairNumbers (w : World) : Calls Try.prog 3 #[] w fun r w' => r = .returned (.bool true) ∧ Below w.heap.size w w' := by
  go_enter Try.func3, Try.ntmps3
  go_wp2_with fail
  refine (Calls.mono (awake_all _)) ?_
  rintro r w1 ⟨rfl, hb1⟩
  have S1 := Aside.intro hb1
  clear hb1
  go_wp2_with fail
  refine (Calls.mono (q_odd _)) ?_
  rintro r w2 ⟨rfl, hb2⟩
  have S2 := Aside.intro (S1.out.trans (hb2.mono S1.out.size))
  clear hb2 S1
  go_wp2_with fail
  refine (Calls.mono (q_turn _)) ?_
  rintro r w3 ⟨rfl, hb3⟩
  have S3 := Aside.intro (S2.out.trans (hb3.mono S2.out.size))
  clear hb3 S2
  go_wp2_with fail
  refine (Calls.mono (q22 _)) ?_
  rintro r w4 ⟨rfl, hb4⟩
  have S4 := Aside.intro (S3.out.trans (hb4.mono S3.out.size))
  clear hb4 S3
  go_wp2_with fail
  refine (Calls.mono (q23 _)) ?_
  rintro r w5 ⟨rfl, hb5⟩
  have S5 := Aside.intro (S4.out.trans (hb5.mono S4.out.size))
  clear hb5 S4
  go_wp2_with fail
  refine (Calls.mono (q24 _)) ?_
  rintro r w6 ⟨rfl, hb6⟩
  have S6 := Aside.intro (S5.out.trans (hb6.mono S5.out.size))
  clear hb6 S5
  go_wp2_with fail
  refine (Calls.mono (q25 _)) ?_
  rintro r w7 ⟨rfl, hb7⟩
  have S7 := Aside.intro (S6.out.trans (hb7.mono S6.out.size))
  clear hb7 S6
  go_wp2_with fail
  refine (Calls.mono (q26 _)) ?_
  rintro r w8 ⟨rfl, hb8⟩
  have S8 := Aside.intro (S7.out.trans (hb8.mono S7.out.size))
  clear hb8 S7
  go_wp2_with fail
  refine (Calls.mono (q25 _)) ?_
  rintro r w9 ⟨rfl, hb9⟩
  have S9 := Aside.intro (S8.out.trans (hb9.mono S8.out.size))
  clear hb9 S8
  go_wp2_with fail
  refine (Calls.mono (q27 _)) ?_
  rintro r w10 ⟨rfl, hb10⟩
  have S10 := Aside.intro (S9.out.trans (hb10.mono S9.out.size))
  clear hb10 S9
  go_wp2_with fail
  refine (Calls.mono (q28 _)) ?_
  rintro r w11 ⟨rfl, hb11⟩
  have S11 := Aside.intro (S10.out.trans (hb11.mono S10.out.size))
  clear hb11 S10
  go_wp2_with fail
  refine (Calls.mono (q29 _)) ?_
  rintro r w12 ⟨rfl, hb12⟩
  have S12 := Aside.intro (S11.out.trans (hb12.mono S11.out.size))
  clear hb12 S11
  go_wp2_with fail
  refine (Calls.mono (q30 _)) ?_
  rintro r w13 ⟨rfl, hb13⟩
  have S13 := Aside.intro (S12.out.trans (hb13.mono S12.out.size))
  clear hb13 S12
  go_wp2_with fail
  refine (Calls.mono (q31 _)) ?_
  rintro r w14 ⟨rfl, hb14⟩
  have S14 := Aside.intro (S13.out.trans (hb14.mono S13.out.size))
  clear hb14 S13
  go_wp2_with fail
  refine (Calls.mono (q8 _)) ?_
  rintro r w15 ⟨rfl, hb15⟩
  have S15 := Aside.intro (S14.out.trans (hb15.mono S14.out.size))
  clear hb15 S14
  go_wp2_with fail
  refine (Calls.mono (q32 _)) ?_
  rintro r w16 ⟨rfl, hb16⟩
  have S16 := Aside.intro (S15.out.trans (hb16.mono S15.out.size))
  clear hb16 S15
  go_wp2_with fail
  refine (Calls.mono (q33 _)) ?_
  rintro r w17 ⟨rfl, hb17⟩
  have S17 := Aside.intro (S16.out.trans (hb17.mono S16.out.size))
  clear hb17 S16
  go_wp2_with fail
  refine (Calls.mono (q32 _)) ?_
  rintro r w18 ⟨rfl, hb18⟩
  have S18 := Aside.intro (S17.out.trans (hb18.mono S17.out.size))
  clear hb18 S17
  go_wp2_with fail
  refine (Calls.mono (q34 _)) ?_
  rintro r w19 ⟨rfl, hb19⟩
  have S19 := Aside.intro (S18.out.trans (hb19.mono S18.out.size))
  clear hb19 S18
  go_wp2_with fail
  refine (Calls.mono (q35 _)) ?_
  rintro r w20 ⟨rfl, hb20⟩
  have S20 := Aside.intro (S19.out.trans (hb20.mono S19.out.size))
  clear hb20 S19
  go_wp2_with fail
  refine (Calls.mono (q36 _)) ?_
  rintro r w21 ⟨rfl, hb21⟩
  have S21 := Aside.intro (S20.out.trans (hb21.mono S20.out.size))
  clear hb21 S20
  go_wp2
  exact bodyPost_ret (v := .bool true) (by simp [results, Try.results3, go_sem]) rfl ⟨rfl, S21.out⟩
end Go.Proofs.Ythilnddhehbjiab

