/- The chapter's examples, call by call. -/
import Derived.Test.YthilnddhehbjiabJ16x
import Derived.KernelRfl
import Derived.Test.YthilnddhehbjiabJ27x
namespace Go.Proofs.Ythilnddhehbjiab
open Go.RowKit J
set_option linter.unusedVariables false
set_option maxRecDepth 20000
set_option linter.unusedSimpArgs false
attribute [local go_sem] B.f64bits B.f64frombits

theorem power_lit (n : Int) (z : Nat) (h0 : -1022 ≤ n) (h1 : n ≤ 1023) (hz : (z : Int) = (n + 1023) * 4503599627370496) (w : World) : Calls Try.prog 15 #[.int .i64 n] w fun r w' => r = .returned (.float .f64 z) ∧ Below w.heap.size w w' := by
  have e1 : decide (n < -1022) = false := by simp; omega
  have e2 : IntKind.i64.wrap (n + 1023) = n + 1023 := by rw [IntKind.wrap_i64]; omega
  have e3 : IntKind.u64.wrap (n + 1023) = n + 1023 := by rw [IntKind.wrap_u64]; omega
  have e4 : IntKind.u64.wrap ((n + 1023) * 4503599627370496) = (z : Int) := by rw [IntKind.wrap_u64, hz]; omega
  have e5 : ((n + 1023) * 4503599627370496).toNat = z := by omega
  go_enter Try.func15, Try.ntmps15
  go_wp2
  exact bodyPost_ret (v := .float .f64 z) (by simp [results, Try.results15, go_sem, e1, e2, e3, e4, e5]) rfl ⟨rfl, Below.refl _ _⟩
theorem q_turn (u : World) : Calls Try.prog 10 #[.float .f64 0] u fun r w' => r = .returned (.float .f64 9223372036854775808) ∧ Below u.heap.size u w' :=
  (rTurned_any 0 (by decide) u).mono fun r w' h => ⟨h.1, by rw [h.2]; exact Below.refl _ _⟩
theorem q_odd (u : World) : Calls Try.prog 9 #[] u fun r w' => r = .returned (.float .f64 9221120237041090560) ∧ Below u.heap.size u w' :=
  (rOdd_any u).mono fun r w' h => ⟨h.1, by rw [h.2]; exact Below.refl _ _⟩
theorem q_value (u : World) : Calls Try.prog 27 #[.agg #[.float .f64 4607182418800017408, .float .f64 4336966441157787648]] u fun r w' => r = .returned (.float .f64 4607182418800017408) ∧ Below u.heap.size u w' := by
  have h := Value_all 4607182418800017408 4336966441157787648 u
  rw [show plW 4607182418800017408 4336966441157787648 = 4607182418800017408 from by kernel_rfl] at h
  exact h
theorem q_same (u : World) : Calls Try.prog 26 #[.float .f64 4607182418800017408, .float .f64 4607182418800017408] u fun r w' => r = .returned (.bool true) ∧ Below u.heap.size u w' :=
  (rSame_w _ _ u).mono fun r w' h => ⟨by rw [h.1]; simp, by rw [h.2]; exact Below.refl _ _⟩
theorem q0 (u : World) : Calls Try.prog 15 #[.int .i64 27] u fun r w' => r = .returned (.float .f64 4728779608739020800) ∧ Below u.heap.size u w' := power_lit 27 4728779608739020800 (by omega) (by omega) (by decide) u
theorem q1 (u : World) : Calls Try.prog 15 #[.int .i64 (-60)] u fun r w' => r = .returned (.float .f64 4336966441157787648) ∧ Below u.heap.size u w' := power_lit (-60) 4336966441157787648 (by omega) (by omega) (by decide) u
theorem q2 (u : World) : Calls Try.prog 12 #[.float .f64 4607182418800017408, .float .f64 4336966441157787648] u fun r w' => r = .returned (.agg #[.float .f64 4607182418800017408, .float .f64 4336966441157787648]) ∧ Below u.heap.size u w' := by
  have h := Sum_all 4607182418800017408 4336966441157787648 u
  rw [show sumP 4607182418800017408 4336966441157787648 = (4607182418800017408, 4336966441157787648) from by kernel_rfl] at h
  exact h
theorem q3 (u : World) : Calls Try.prog 11 #[.agg #[.float .f64 4607182418800017408, .float .f64 4336966441157787648], .float .f64 4607182418800017408, .float .f64 4336966441157787648] u fun r w' => r = .returned (.bool true) ∧ Below u.heap.size u w' := by
  have h := is_any 4607182418800017408 4336966441157787648 4607182418800017408 4336966441157787648 u
  rw [show ((4607182418800017408 : Nat) == 4607182418800017408 && (4336966441157787648 : Nat) == 4336966441157787648) = true from by decide] at h
  exact h
theorem q4 (u : World) : Calls Try.prog 15 #[.int .i64 60] u fun r w' => r = .returned (.float .f64 4877398396442247168) ∧ Below u.heap.size u w' := power_lit 60 4877398396442247168 (by omega) (by omega) (by decide) u
theorem q5 (u : World) : Calls Try.prog 18 #[.float .f64 4607182418800017408, .float .f64 4877398396442247169] u fun r w' => r = .returned (.agg #[.float .f64 4877398396442247169, .float .f64 0]) ∧ Below u.heap.size u w' := by
  have h := Quick_all 4607182418800017408 4877398396442247169 u
  rw [show quickP 4607182418800017408 4877398396442247169 = (4877398396442247169, 0) from by kernel_rfl] at h
  exact h
theorem q6 (u : World) : Calls Try.prog 11 #[.agg #[.float .f64 4877398396442247169, .float .f64 0], .float .f64 4877398396442247169, .float .f64 0] u fun r w' => r = .returned (.bool true) ∧ Below u.heap.size u w' := by
  have h := is_any 4877398396442247169 0 4877398396442247169 0 u
  rw [show ((4877398396442247169 : Nat) == 4877398396442247169 && (0 : Nat) == 0) = true from by decide] at h
  exact h
theorem q7 (u : World) : Calls Try.prog 12 #[.float .f64 9223372036854775808, .float .f64 9223372036854775808] u fun r w' => r = .returned (.agg #[.float .f64 9223372036854775808, .float .f64 0]) ∧ Below u.heap.size u w' := by
  have h := Sum_all 9223372036854775808 9223372036854775808 u
  rw [show sumP 9223372036854775808 9223372036854775808 = (9223372036854775808, 0) from by kernel_rfl] at h
  exact h
theorem q8 (u : World) : Calls Try.prog 11 #[.agg #[.float .f64 9223372036854775808, .float .f64 0], .float .f64 9223372036854775808, .float .f64 0] u fun r w' => r = .returned (.bool true) ∧ Below u.heap.size u w' := by
  have h := is_any 9223372036854775808 0 9223372036854775808 0 u
  rw [show ((9223372036854775808 : Nat) == 9223372036854775808 && (0 : Nat) == 0) = true from by decide] at h
  exact h
theorem q9 (u : World) : Calls Try.prog 12 #[.float .f64 9221120237041090560, .float .f64 4607182418800017408] u fun r w' => r = .returned (.agg #[.float .f64 9221120237041090560, .float .f64 9221120237041090560]) ∧ Below u.heap.size u w' := by
  have h := Sum_all 9221120237041090560 4607182418800017408 u
  rw [show sumP 9221120237041090560 4607182418800017408 = (9221120237041090560, 9221120237041090560) from by kernel_rfl] at h
  exact h
theorem q10 (u : World) : Calls Try.prog 11 #[.agg #[.float .f64 9221120237041090560, .float .f64 9221120237041090560], .float .f64 9221120237041090560, .float .f64 9221120237041090560] u fun r w' => r = .returned (.bool true) ∧ Below u.heap.size u w' := by
  have h := is_any 9221120237041090560 9221120237041090560 9221120237041090560 9221120237041090560 u
  rw [show ((9221120237041090560 : Nat) == 9221120237041090560 && (9221120237041090560 : Nat) == 9221120237041090560) = true from by decide] at h
  exact h
theorem q11 (u : World) : Calls Try.prog 13 #[.float .f64 4728779608772575232] u fun r w' => r = .returned (.agg #[.float .f64 4728779608739020800, .float .f64 4607182418800017408]) ∧ Below u.heap.size u w' := by
  have h := Halves_all 4728779608772575232 u
  rw [show halfP 4728779608772575232 = (4728779608739020800, 4607182418800017408) from by kernel_rfl] at h
  exact h
theorem q12 (u : World) : Calls Try.prog 11 #[.agg #[.float .f64 4728779608739020800, .float .f64 4607182418800017408], .float .f64 4728779608739020800, .float .f64 4607182418800017408] u fun r w' => r = .returned (.bool true) ∧ Below u.heap.size u w' := by
  have h := is_any 4728779608739020800 4607182418800017408 4728779608739020800 4607182418800017408 u
  rw [show ((4728779608739020800 : Nat) == 4728779608739020800 && (4607182418800017408 : Nat) == 4607182418800017408) = true from by decide] at h
  exact h
theorem q13 (u : World) : Calls Try.prog 14 #[.float .f64 4728779608772575232, .float .f64 4728779608772575232] u fun r w' => r = .returned (.agg #[.float .f64 4850376798745133056, .float .f64 4607182418800017408]) ∧ Below u.heap.size u w' := by
  have h := Product_all 4728779608772575232 4728779608772575232 u
  rw [show prodP 4728779608772575232 4728779608772575232 = (4850376798745133056, 4607182418800017408) from by kernel_rfl] at h
  exact h
theorem q14 (u : World) : Calls Try.prog 15 #[.int .i64 54] u fun r w' => r = .returned (.float .f64 4850376798678024192) ∧ Below u.heap.size u w' := power_lit 54 4850376798678024192 (by omega) (by omega) (by decide) u
theorem q15 (u : World) : Calls Try.prog 15 #[.int .i64 28] u fun r w' => r = .returned (.float .f64 4733283208366391296) ∧ Below u.heap.size u w' := power_lit 28 4733283208366391296 (by omega) (by omega) (by decide) u
theorem q16 (u : World) : Calls Try.prog 11 #[.agg #[.float .f64 4850376798745133056, .float .f64 4607182418800017408], .float .f64 4850376798745133056, .float .f64 4607182418800017408] u fun r w' => r = .returned (.bool true) ∧ Below u.heap.size u w' := by
  have h := is_any 4850376798745133056 4607182418800017408 4850376798745133056 4607182418800017408 u
  rw [show ((4850376798745133056 : Nat) == 4850376798745133056 && (4607182418800017408 : Nat) == 4607182418800017408) = true from by decide] at h
  exact h
theorem q17 (u : World) : Calls Try.prog 22 #[.agg #[.float .f64 4607182418800017408, .float .f64 4336966441157787648], .agg #[.float .f64 13830554455654793216, .float .f64 0]] u fun r w' => r = .returned (.agg #[.float .f64 4336966441157787648, .float .f64 0]) ∧ Below u.heap.size u w' := by
  have h := Add_all 4607182418800017408 4336966441157787648 13830554455654793216 0 u
  rw [show addP 4607182418800017408 4336966441157787648 13830554455654793216 0 = (4336966441157787648, 0) from by kernel_rfl] at h
  exact h
theorem q18 (u : World) : Calls Try.prog 11 #[.agg #[.float .f64 4336966441157787648, .float .f64 0], .float .f64 4336966441157787648, .float .f64 0] u fun r w' => r = .returned (.bool true) ∧ Below u.heap.size u w' := by
  have h := is_any 4336966441157787648 0 4336966441157787648 0 u
  rw [show ((4336966441157787648 : Nat) == 4336966441157787648 && (0 : Nat) == 0) = true from by decide] at h
  exact h
theorem q19 (u : World) : Calls Try.prog 15 #[.int .i64 53] u fun r w' => r = .returned (.float .f64 4845873199050653696) ∧ Below u.heap.size u w' := power_lit 53 4845873199050653696 (by omega) (by omega) (by decide) u
theorem q20 (u : World) : Calls Try.prog 24 #[.agg #[.float .f64 4845873199050653696, .float .f64 4607182418800017408], .agg #[.float .f64 4611686018427387904, .float .f64 0]] u fun r w' => r = .returned (.agg #[.float .f64 4850376798678024192, .float .f64 4611686018427387904]) ∧ Below u.heap.size u w' := by
  have h := Mul_all 4845873199050653696 4607182418800017408 4611686018427387904 0 u
  rw [show mulP 4845873199050653696 4607182418800017408 4611686018427387904 0 = (4850376798678024192, 4611686018427387904) from by kernel_rfl] at h
  exact h
theorem q21 (u : World) : Calls Try.prog 11 #[.agg #[.float .f64 4850376798678024192, .float .f64 4611686018427387904], .float .f64 4850376798678024192, .float .f64 4611686018427387904] u fun r w' => r = .returned (.bool true) ∧ Below u.heap.size u w' := by
  have h := is_any 4850376798678024192 4611686018427387904 4850376798678024192 4611686018427387904 u
  rw [show ((4850376798678024192 : Nat) == 4850376798678024192 && (4611686018427387904 : Nat) == 4611686018427387904) = true from by decide] at h
  exact h
theorem q22 (u : World) : Calls Try.prog 12 #[.float .f64 4591870180066957722, .float .f64 4596373779694328218] u fun r w' => r = .returned (.agg #[.float .f64 4599075939470750516, .float .f64 13582856476149415936]) ∧ Below u.heap.size u w' := by
  have h := Sum_all 4591870180066957722 4596373779694328218 u
  rw [show sumP 4591870180066957722 4596373779694328218 = (4599075939470750516, 13582856476149415936) from by kernel_rfl] at h
  exact h
theorem q23 (u : World) : Calls Try.prog 11 #[.agg #[.float .f64 4599075939470750516, .float .f64 13582856476149415936], .float .f64 4599075939470750516, .float .f64 13582856476149415936] u fun r w' => r = .returned (.bool true) ∧ Below u.heap.size u w' := by
  have h := is_any 4599075939470750516 13582856476149415936 4599075939470750516 13582856476149415936 u
  rw [show ((4599075939470750516 : Nat) == 4599075939470750516 && (13582856476149415936 : Nat) == 13582856476149415936) = true from by decide] at h
  exact h
theorem q24 (u : World) : Calls Try.prog 12 #[.float .f64 9218868437227405311, .float .f64 9218868437227405311] u fun r w' => r = .returned (.agg #[.float .f64 9218868437227405312, .float .f64 9221120237041090560]) ∧ Below u.heap.size u w' := by
  have h := Sum_all 9218868437227405311 9218868437227405311 u
  rw [show sumP 9218868437227405311 9218868437227405311 = (9218868437227405312, 9221120237041090560) from by kernel_rfl] at h
  exact h
theorem q25 (u : World) : Calls Try.prog 11 #[.agg #[.float .f64 9218868437227405312, .float .f64 9221120237041090560], .float .f64 9218868437227405312, .float .f64 9221120237041090560] u fun r w' => r = .returned (.bool true) ∧ Below u.heap.size u w' := by
  have h := is_any 9218868437227405312 9221120237041090560 9218868437227405312 9221120237041090560 u
  rw [show ((9218868437227405312 : Nat) == 9218868437227405312 && (9221120237041090560 : Nat) == 9221120237041090560) = true from by decide] at h
  exact h
theorem q26 (u : World) : Calls Try.prog 12 #[.float .f64 9218868437227405312, .float .f64 4607182418800017408] u fun r w' => r = .returned (.agg #[.float .f64 9218868437227405312, .float .f64 9221120237041090560]) ∧ Below u.heap.size u w' := by
  have h := Sum_all 9218868437227405312 4607182418800017408 u
  rw [show sumP 9218868437227405312 4607182418800017408 = (9218868437227405312, 9221120237041090560) from by kernel_rfl] at h
  exact h
theorem q27 (u : World) : Calls Try.prog 13 #[.float .f64 9223372036854775808] u fun r w' => r = .returned (.agg #[.float .f64 0, .float .f64 9223372036854775808]) ∧ Below u.heap.size u w' := by
  have h := Halves_all 9223372036854775808 u
  rw [show halfP 9223372036854775808 = (0, 9223372036854775808) from by kernel_rfl] at h
  exact h
theorem q28 (u : World) : Calls Try.prog 11 #[.agg #[.float .f64 0, .float .f64 9223372036854775808], .float .f64 0, .float .f64 9223372036854775808] u fun r w' => r = .returned (.bool true) ∧ Below u.heap.size u w' := by
  have h := is_any 0 9223372036854775808 0 9223372036854775808 u
  rw [show ((0 : Nat) == 0 && (9223372036854775808 : Nat) == 9223372036854775808) = true from by decide] at h
  exact h
theorem q29 (u : World) : Calls Try.prog 14 #[.float .f64 4591870180066957722, .float .f64 4621819117588971520] u fun r w' => r = .returned (.agg #[.float .f64 4607182418800017408, .float .f64 4363988038922010624]) ∧ Below u.heap.size u w' := by
  have h := Product_all 4591870180066957722 4621819117588971520 u
  rw [show prodP 4591870180066957722 4621819117588971520 = (4607182418800017408, 4363988038922010624) from by kernel_rfl] at h
  exact h
theorem q30 (u : World) : Calls Try.prog 11 #[.agg #[.float .f64 4607182418800017408, .float .f64 4363988038922010624], .float .f64 4607182418800017408, .float .f64 4363988038922010624] u fun r w' => r = .returned (.bool true) ∧ Below u.heap.size u w' := by
  have h := is_any 4607182418800017408 4363988038922010624 4607182418800017408 4363988038922010624 u
  rw [show ((4607182418800017408 : Nat) == 4607182418800017408 && (4363988038922010624 : Nat) == 4363988038922010624) = true from by decide] at h
  exact h
theorem q31 (u : World) : Calls Try.prog 14 #[.float .f64 13830554455654793216, .float .f64 0] u fun r w' => r = .returned (.agg #[.float .f64 9223372036854775808, .float .f64 0]) ∧ Below u.heap.size u w' := by
  have h := Product_all 13830554455654793216 0 u
  rw [show prodP 13830554455654793216 0 = (9223372036854775808, 0) from by kernel_rfl] at h
  exact h
theorem q32 (u : World) : Calls Try.prog 15 #[.int .i64 1000] u fun r w' => r = .returned (.float .f64 9110782046170513408) ∧ Below u.heap.size u w' := power_lit 1000 9110782046170513408 (by omega) (by omega) (by decide) u
theorem q33 (u : World) : Calls Try.prog 14 #[.float .f64 9110782046170513408, .float .f64 4607182418800017408] u fun r w' => r = .returned (.agg #[.float .f64 9110782046170513408, .float .f64 9221120237041090560]) ∧ Below u.heap.size u w' := by
  have h := Product_all 9110782046170513408 4607182418800017408 u
  rw [show prodP 9110782046170513408 4607182418800017408 = (9110782046170513408, 9221120237041090560) from by kernel_rfl] at h
  exact h
theorem q34 (u : World) : Calls Try.prog 11 #[.agg #[.float .f64 9110782046170513408, .float .f64 9221120237041090560], .float .f64 9110782046170513408, .float .f64 9221120237041090560] u fun r w' => r = .returned (.bool true) ∧ Below u.heap.size u w' := by
  have h := is_any 9110782046170513408 9221120237041090560 9110782046170513408 9221120237041090560 u
  rw [show ((9110782046170513408 : Nat) == 9110782046170513408 && (9221120237041090560 : Nat) == 9221120237041090560) = true from by decide] at h
  exact h
theorem q35 (u : World) : Calls Try.prog 12 #[.float .f64 4607182418800017408, .float .f64 13830554455654793216] u fun r w' => r = .returned (.agg #[.float .f64 0, .float .f64 0]) ∧ Below u.heap.size u w' := by
  have h := Sum_all 4607182418800017408 13830554455654793216 u
  rw [show sumP 4607182418800017408 13830554455654793216 = (0, 0) from by kernel_rfl] at h
  exact h
theorem q36 (u : World) : Calls Try.prog 11 #[.agg #[.float .f64 0, .float .f64 0], .float .f64 0, .float .f64 0] u fun r w' => r = .returned (.bool true) ∧ Below u.heap.size u w' := by
  have h := is_any 0 0 0 0 u
  rw [show ((0 : Nat) == 0 && (0 : Nat) == 0) = true from by decide] at h
  exact h
end Go.Proofs.Ythilnddhehbjiab

/- awake: the chapter's examples. -/
namespace Go.Proofs.Ythilnddhehbjiab
open Go.RowKit J
set_option linter.unusedVariables false
set_option maxRecDepth 20000
set_option linter.unusedSimpArgs false

set_option maxHeartbeats 8000000 in
theorem awake_all (w : World) : Calls Try.prog 7 #[] w fun r w' => r = .returned (.bool true) ∧ Below w.heap.size w w' := by
  have d1 : ∀ w, (binOp .add 23 (.float .f64 4728779608739020800) (.float .f64 4607182418800017408)).run Try.prog w = .ok (.float .f64 4728779608772575232) w := fun w => run_float_arith w .add _ .f64 _ _ _ (by kernel_rfl)
  have d2 : ∀ w, (binOp .add 23 (.float .f64 4877398396442247168) (.float .f64 4643211215818981376)).run Try.prog w = .ok (.float .f64 4877398396442247169) w := fun w => run_float_arith w .add _ .f64 _ _ _ (by kernel_rfl)
  have d3 : ∀ w, (binOp .add 23 (.float .f64 4850376798678024192) (.float .f64 4733283208366391296)).run Try.prog w = .ok (.float .f64 4850376798745133056) w := fun w => run_float_arith w .add _ .f64 _ _ _ (by kernel_rfl)
  go_enter Try.func7, Try.ntmps7
  go_wp2_with (simp only [d1, d2, d3])
  refine (Calls.mono (q0 _)) ?_
  rintro r w1 ⟨rfl, hb1⟩
  have S1 := Aside.intro hb1
  clear hb1
  go_wp2_with (simp only [d1, d2, d3])
  refine (Calls.mono (q_turn _)) ?_
  rintro r w2 ⟨rfl, hb2⟩
  have S2 := Aside.intro (S1.out.trans (hb2.mono S1.out.size))
  clear hb2 S1
  go_wp2_with (simp only [d1, d2, d3])
  refine (Calls.mono (q_odd _)) ?_
  rintro r w3 ⟨rfl, hb3⟩
  have S3 := Aside.intro (S2.out.trans (hb3.mono S2.out.size))
  clear hb3 S2
  go_wp2_with (simp only [d1, d2, d3])
  refine (Calls.mono (q1 _)) ?_
  rintro r w4 ⟨rfl, hb4⟩
  have S4 := Aside.intro (S3.out.trans (hb4.mono S3.out.size))
  clear hb4 S3
  go_wp2_with (simp only [d1, d2, d3])
  refine (Calls.mono (q2 _)) ?_
  rintro r w5 ⟨rfl, hb5⟩
  have S5 := Aside.intro (S4.out.trans (hb5.mono S4.out.size))
  clear hb5 S4
  go_wp2_with (simp only [d1, d2, d3])
  refine (Calls.mono (q1 _)) ?_
  rintro r w6 ⟨rfl, hb6⟩
  have S6 := Aside.intro (S5.out.trans (hb6.mono S5.out.size))
  clear hb6 S5
  go_wp2_with (simp only [d1, d2, d3])
  refine (Calls.mono (q3 _)) ?_
  rintro r w7 ⟨rfl, hb7⟩
  have S7 := Aside.intro (S6.out.trans (hb7.mono S6.out.size))
  clear hb7 S6
  go_wp2_with (simp only [d1, d2, d3])
  refine (Calls.mono (q4 _)) ?_
  rintro r w8 ⟨rfl, hb8⟩
  have S8 := Aside.intro (S7.out.trans (hb8.mono S7.out.size))
  clear hb8 S7
  go_wp2_with (simp only [d1, d2, d3])
  refine (Calls.mono (q5 _)) ?_
  rintro r w9 ⟨rfl, hb9⟩
  have S9 := Aside.intro (S8.out.trans (hb9.mono S8.out.size))
  clear hb9 S8
  go_wp2_with (simp only [d1, d2, d3])
  refine (Calls.mono (q4 _)) ?_
  rintro r w10 ⟨rfl, hb10⟩
  have S10 := Aside.intro (S9.out.trans (hb10.mono S9.out.size))
  clear hb10 S9
  go_wp2_with (simp only [d1, d2, d3])
  refine (Calls.mono (q6 _)) ?_
  rintro r w11 ⟨rfl, hb11⟩
  have S11 := Aside.intro (S10.out.trans (hb11.mono S10.out.size))
  clear hb11 S10
  go_wp2_with (simp only [d1, d2, d3])
  refine (Calls.mono (q7 _)) ?_
  rintro r w12 ⟨rfl, hb12⟩
  have S12 := Aside.intro (S11.out.trans (hb12.mono S11.out.size))
  clear hb12 S11
  go_wp2_with (simp only [d1, d2, d3])
  refine (Calls.mono (q8 _)) ?_
  rintro r w13 ⟨rfl, hb13⟩
  have S13 := Aside.intro (S12.out.trans (hb13.mono S12.out.size))
  clear hb13 S12
  go_wp2_with (simp only [d1, d2, d3])
  refine (Calls.mono (q9 _)) ?_
  rintro r w14 ⟨rfl, hb14⟩
  have S14 := Aside.intro (S13.out.trans (hb14.mono S13.out.size))
  clear hb14 S13
  go_wp2_with (simp only [d1, d2, d3])
  refine (Calls.mono (q10 _)) ?_
  rintro r w15 ⟨rfl, hb15⟩
  have S15 := Aside.intro (S14.out.trans (hb15.mono S14.out.size))
  clear hb15 S14
  go_wp2_with (simp only [d1, d2, d3])
  refine (Calls.mono (q11 _)) ?_
  rintro r w16 ⟨rfl, hb16⟩
  have S16 := Aside.intro (S15.out.trans (hb16.mono S15.out.size))
  clear hb16 S15
  go_wp2_with (simp only [d1, d2, d3])
  refine (Calls.mono (q0 _)) ?_
  rintro r w17 ⟨rfl, hb17⟩
  have S17 := Aside.intro (S16.out.trans (hb17.mono S16.out.size))
  clear hb17 S16
  go_wp2_with (simp only [d1, d2, d3])
  refine (Calls.mono (q12 _)) ?_
  rintro r w18 ⟨rfl, hb18⟩
  have S18 := Aside.intro (S17.out.trans (hb18.mono S17.out.size))
  clear hb18 S17
  go_wp2_with (simp only [d1, d2, d3])
  refine (Calls.mono (q13 _)) ?_
  rintro r w19 ⟨rfl, hb19⟩
  have S19 := Aside.intro (S18.out.trans (hb19.mono S18.out.size))
  clear hb19 S18
  go_wp2_with (simp only [d1, d2, d3])
  refine (Calls.mono (q14 _)) ?_
  rintro r w20 ⟨rfl, hb20⟩
  have S20 := Aside.intro (S19.out.trans (hb20.mono S19.out.size))
  clear hb20 S19
  go_wp2_with (simp only [d1, d2, d3])
  refine (Calls.mono (q15 _)) ?_
  rintro r w21 ⟨rfl, hb21⟩
  have S21 := Aside.intro (S20.out.trans (hb21.mono S20.out.size))
  clear hb21 S20
  go_wp2_with (simp only [d1, d2, d3])
  refine (Calls.mono (q16 _)) ?_
  rintro r w22 ⟨rfl, hb22⟩
  have S22 := Aside.intro (S21.out.trans (hb22.mono S21.out.size))
  clear hb22 S21
  go_wp2_with (simp only [d1, d2, d3])
  refine (Calls.mono (q1 _)) ?_
  rintro r w23 ⟨rfl, hb23⟩
  have S23 := Aside.intro (S22.out.trans (hb23.mono S22.out.size))
  clear hb23 S22
  go_wp2_with (simp only [d1, d2, d3])
  refine (Calls.mono (q17 _)) ?_
  rintro r w24 ⟨rfl, hb24⟩
  have S24 := Aside.intro (S23.out.trans (hb24.mono S23.out.size))
  clear hb24 S23
  go_wp2_with (simp only [d1, d2, d3])
  refine (Calls.mono (q1 _)) ?_
  rintro r w25 ⟨rfl, hb25⟩
  have S25 := Aside.intro (S24.out.trans (hb25.mono S24.out.size))
  clear hb25 S24
  go_wp2_with (simp only [d1, d2, d3])
  refine (Calls.mono (q18 _)) ?_
  rintro r w26 ⟨rfl, hb26⟩
  have S26 := Aside.intro (S25.out.trans (hb26.mono S25.out.size))
  clear hb26 S25
  go_wp2_with (simp only [d1, d2, d3])
  refine (Calls.mono (q19 _)) ?_
  rintro r w27 ⟨rfl, hb27⟩
  have S27 := Aside.intro (S26.out.trans (hb27.mono S26.out.size))
  clear hb27 S26
  go_wp2_with (simp only [d1, d2, d3])
  refine (Calls.mono (q20 _)) ?_
  rintro r w28 ⟨rfl, hb28⟩
  have S28 := Aside.intro (S27.out.trans (hb28.mono S27.out.size))
  clear hb28 S27
  go_wp2_with (simp only [d1, d2, d3])
  refine (Calls.mono (q14 _)) ?_
  rintro r w29 ⟨rfl, hb29⟩
  have S29 := Aside.intro (S28.out.trans (hb29.mono S28.out.size))
  clear hb29 S28
  go_wp2_with (simp only [d1, d2, d3])
  refine (Calls.mono (q21 _)) ?_
  rintro r w30 ⟨rfl, hb30⟩
  have S30 := Aside.intro (S29.out.trans (hb30.mono S29.out.size))
  clear hb30 S29
  go_wp2_with (simp only [d1, d2, d3])
  refine (Calls.mono (q1 _)) ?_
  rintro r w31 ⟨rfl, hb31⟩
  have S31 := Aside.intro (S30.out.trans (hb31.mono S30.out.size))
  clear hb31 S30
  go_wp2_with (simp only [d1, d2, d3])
  refine (Calls.mono (q_value _)) ?_
  rintro r w32 ⟨rfl, hb32⟩
  have S32 := Aside.intro (S31.out.trans (hb32.mono S31.out.size))
  clear hb32 S31
  go_wp2_with (simp only [d1, d2, d3])
  refine (Calls.mono (q_same _)) ?_
  rintro r w33 ⟨rfl, hb33⟩
  have S33 := Aside.intro (S32.out.trans (hb33.mono S32.out.size))
  clear hb33 S32
  go_wp2
  exact bodyPost_ret (v := .bool true) (by simp [results, Try.results7, go_sem]) rfl ⟨rfl, S33.out⟩
end Go.Proofs.Ythilnddhehbjiab

/- PairExact: the walk. -/
namespace Go.Proofs.Ythilnddhehbjiab
open Go.RowKit J
set_option linter.unusedVariables false
set_option maxRecDepth 20000
set_option linter.unusedSimpArgs false
attribute [local go_sem] st_float

set_option maxHeartbeats 8000000 in
theorem exact_ff (fa fb : Nat) (nX nY : Bool) (XX XY : Nat) (eX eY : Int) (w : World) (lX : (ws XX).length ≤ 8192) (lY : (ws XY).length ≤ 8192)
    (HX : Hid (∀ u, Calls Try.prog 29 #[.float .f64 fa] u fun r w' => (∃ v, r = .returned (.tuple #[.agg #[.bool nX, v, .int .i64 eX], .bool false]) ∧ Nt u.heap.size w' v XX) ∧ Below u.heap.size u w'))
    (HY : Hid (∀ u, Calls Try.prog 29 #[.float .f64 fb] u fun r w' => (∃ v, r = .returned (.tuple #[.agg #[.bool nY, v, .int .i64 eY], .bool false]) ∧ Nt u.heap.size w' v XY) ∧ Below u.heap.size u w')) :
    Calls Try.prog 5 #[.float .f64 fa, .float .f64 fb] w fun r w' => r = .returned (.bool true) ∧ Below w.heap.size w w' := by
  go_enter Try.func5, Try.ntmps5
  go_wp2_with fail
  refine (Calls.mono (awake_all _)) ?_
  rintro r w1 ⟨rfl, hb1⟩
  have hy1 : w.heap.size ≤ w1.heap.size := by
    have := hb1.size
    try simp only [World.size_alloc, World.size_setCell] at this
    omega
  have B1 := Aside.intro (Below.trans (B := w.heap.size) (a := w) (by repeat (first | exact Below.refl _ _ | assumption | exact Nat.le_refl _ | (simp only [World.size_alloc, World.size_setCell]; omega) | omega | refine Below.alloc ?_ ?_ _ | refine Below.setCell ?_ ?_ _ | refine Below.drew ?_)) (hb1.mono (by first | omega | (simp only [World.size_alloc, World.size_setCell]; omega))))
  have S1 := B1
  obtain ⟨hc1, hf1⟩ := bcell hb1
  clear hb1 B1
  clear hc1 hf1 
  go_wp2_with fail
  refine (Calls.mono (HX.out _)) ?_
  rintro r w2 ⟨⟨v2, rfl, N2⟩, hb2⟩
  obtain ⟨aX, cX, rfl, AX⟩ := N2.arg (by omega)
  clear N2
  clear HX
  have hy2 : w1.heap.size ≤ w2.heap.size := by
    have := hb2.size
    try simp only [World.size_alloc, World.size_setCell] at this
    omega
  have B2 := Aside.intro (Below.trans (B := w1.heap.size) (a := w1) (by repeat (first | exact Below.refl _ _ | assumption | exact Nat.le_refl _ | (simp only [World.size_alloc, World.size_setCell]; omega) | omega | refine Below.alloc ?_ ?_ _ | refine Below.setCell ?_ ?_ _ | refine Below.drew ?_)) (hb2.mono (by first | omega | (simp only [World.size_alloc, World.size_setCell]; omega))))
  have S2 := Aside.intro (S1.out.trans (B2.out.mono S1.out.size))
  clear S1
  obtain ⟨hc2, hf2⟩ := bcell hb2
  clear hb2 B2
  clear hc2 hf2 
  go_wp2_with fail
  refine (Calls.mono (HY.out _)) ?_
  rintro r w3 ⟨⟨v3, rfl, N3⟩, hb3⟩
  obtain ⟨aY, cY, rfl, AY⟩ := N3.arg (by omega)
  clear N3
  clear HY
  have hy3 : w2.heap.size ≤ w3.heap.size := by
    have := hb3.size
    try simp only [World.size_alloc, World.size_setCell] at this
    omega
  have hz3_0 : w2.heap.size < w3.heap.size := by
    have := hb3.size
    try simp only [World.size_alloc, World.size_setCell] at this
    omega
  have B3 := Aside.intro (Below.trans (B := w2.heap.size) (a := w2) (by repeat (first | exact Below.refl _ _ | assumption | exact Nat.le_refl _ | (simp only [World.size_alloc, World.size_setCell]; omega) | omega | refine Below.alloc ?_ ?_ _ | refine Below.setCell ?_ ?_ _ | refine Below.drew ?_)) (hb3.mono (by first | omega | (simp only [World.size_alloc, World.size_setCell]; omega))))
  have S3 := Aside.intro (S2.out.trans (B3.out.mono S2.out.size))
  clear S2
  replace AX := AX.below B3.out
  obtain ⟨hc3, hf3⟩ := bcell hb3
  clear hb3 B3
  have c3_0_0 : w3.cell? ⟨w2.heap.size, 0, none⟩ = some (.bool nX) := by
    rw [hc3 _ _ (by first | omega | (simp only [World.size_alloc, World.size_setCell]; omega))]
    first | assumption | (simp [go_sem]; done)
  have f3_0_0 : w3.frozen? ⟨w2.heap.size, 0, none⟩ = false := by
    rw [hf3 _ _ (by first | omega | (simp only [World.size_alloc, World.size_setCell]; omega))]
    first | assumption | (simp [go_sem]; done)
  have c3_0_1 : w3.cell? ⟨w2.heap.size, 1, none⟩ = some (.slice aX (ws XX).length cX) := by
    rw [hc3 _ _ (by first | omega | (simp only [World.size_alloc, World.size_setCell]; omega))]
    first | assumption | (simp [go_sem]; done)
  have f3_0_1 : w3.frozen? ⟨w2.heap.size, 1, none⟩ = false := by
    rw [hf3 _ _ (by first | omega | (simp only [World.size_alloc, World.size_setCell]; omega))]
    first | assumption | (simp [go_sem]; done)
  have c3_0_2 : w3.cell? ⟨w2.heap.size, 2, none⟩ = some (.int .i64 eX) := by
    rw [hc3 _ _ (by first | omega | (simp only [World.size_alloc, World.size_setCell]; omega))]
    first | assumption | (simp [go_sem]; done)
  have f3_0_2 : w3.frozen? ⟨w2.heap.size, 2, none⟩ = false := by
    rw [hf3 _ _ (by first | omega | (simp only [World.size_alloc, World.size_setCell]; omega))]
    first | assumption | (simp [go_sem]; done)
  clear hc3 hf3 
  have ne0 : w2.heap.size ≠ w3.heap.size := by omega
  go_wp2
  have SS := S3.out
  exact bodyPost_ret (v := .bool true) (by simp [results, Try.results5, go_sem, c3_0_0, f3_0_0, c3_0_1, f3_0_1, c3_0_2, f3_0_2, hz3_0, ne0]) rfl ⟨rfl, (by repeat (first | exact Below.refl _ _ | assumption | exact Nat.le_refl _ | (simp only [World.size_alloc, World.size_setCell]; omega) | omega | refine Below.alloc ?_ ?_ _ | refine Below.setCell ?_ ?_ _ | refine Below.drew ?_))⟩
set_option maxHeartbeats 8000000 in
theorem exact_ft (fa fb : Nat) (nX nY : Bool) (XX XY : Nat) (eX eY : Int) (w : World) (lX : (ws XX).length ≤ 8192) (lY : (ws XY).length ≤ 8192)
    (HX : Hid (∀ u, Calls Try.prog 29 #[.float .f64 fa] u fun r w' => (∃ v, r = .returned (.tuple #[.agg #[.bool nX, v, .int .i64 eX], .bool false]) ∧ Nt u.heap.size w' v XX) ∧ Below u.heap.size u w'))
    (HY : Hid (∀ u, Calls Try.prog 29 #[.float .f64 fb] u fun r w' => (∃ v, r = .returned (.tuple #[.agg #[.bool nY, v, .int .i64 eY], .bool true]) ∧ Nt u.heap.size w' v XY) ∧ Below u.heap.size u w')) :
    Calls Try.prog 5 #[.float .f64 fa, .float .f64 fb] w fun r w' => r = .returned (.bool true) ∧ Below w.heap.size w w' := by
  go_enter Try.func5, Try.ntmps5
  go_wp2_with fail
  refine (Calls.mono (awake_all _)) ?_
  rintro r w1 ⟨rfl, hb1⟩
  have hy1 : w.heap.size ≤ w1.heap.size := by
    have := hb1.size
    try simp only [World.size_alloc, World.size_setCell] at this
    omega
  have B1 := Aside.intro (Below.trans (B := w.heap.size) (a := w) (by repeat (first | exact Below.refl _ _ | assumption | exact Nat.le_refl _ | (simp only [World.size_alloc, World.size_setCell]; omega) | omega | refine Below.alloc ?_ ?_ _ | refine Below.setCell ?_ ?_ _ | refine Below.drew ?_)) (hb1.mono (by first | omega | (simp only [World.size_alloc, World.size_setCell]; omega))))
  have S1 := B1
  obtain ⟨hc1, hf1⟩ := bcell hb1
  clear hb1 B1
  clear hc1 hf1 
  go_wp2_with fail
  refine (Calls.mono (HX.out _)) ?_
  rintro r w2 ⟨⟨v2, rfl, N2⟩, hb2⟩
  obtain ⟨aX, cX, rfl, AX⟩ := N2.arg (by omega)
  clear N2
  clear HX
  have hy2 : w1.heap.size ≤ w2.heap.size := by
    have := hb2.size
    try simp only [World.size_alloc, World.size_setCell] at this
    omega
  have B2 := Aside.intro (Below.trans (B := w1.heap.size) (a := w1) (by repeat (first | exact Below.refl _ _ | assumption | exact Nat.le_refl _ | (simp only [World.size_alloc, World.size_setCell]; omega) | omega | refine Below.alloc ?_ ?_ _ | refine Below.setCell ?_ ?_ _ | refine Below.drew ?_)) (hb2.mono (by first | omega | (simp only [World.size_alloc, World.size_setCell]; omega))))
  have S2 := Aside.intro (S1.out.trans (B2.out.mono S1.out.size))
  clear S1
  obtain ⟨hc2, hf2⟩ := bcell hb2
  clear hb2 B2
  clear hc2 hf2 
  go_wp2_with fail
  refine (Calls.mono (HY.out _)) ?_
  rintro r w3 ⟨⟨v3, rfl, N3⟩, hb3⟩
  obtain ⟨aY, cY, rfl, AY⟩ := N3.arg (by omega)
  clear N3
  clear HY
  have hy3 : w2.heap.size ≤ w3.heap.size := by
    have := hb3.size
    try simp only [World.size_alloc, World.size_setCell] at this
    omega
  have hz3_0 : w2.heap.size < w3.heap.size := by
    have := hb3.size
    try simp only [World.size_alloc, World.size_setCell] at this
    omega
  have B3 := Aside.intro (Below.trans (B := w2.heap.size) (a := w2) (by repeat (first | exact Below.refl _ _ | assumption | exact Nat.le_refl _ | (simp only [World.size_alloc, World.size_setCell]; omega) | omega | refine Below.alloc ?_ ?_ _ | refine Below.setCell ?_ ?_ _ | refine Below.drew ?_)) (hb3.mono (by first | omega | (simp only [World.size_alloc, World.size_setCell]; omega))))
  have S3 := Aside.intro (S2.out.trans (B3.out.mono S2.out.size))
  clear S2
  replace AX := AX.below B3.out
  obtain ⟨hc3, hf3⟩ := bcell hb3
  clear hb3 B3
  have c3_0_0 : w3.cell? ⟨w2.heap.size, 0, none⟩ = some (.bool nX) := by
    rw [hc3 _ _ (by first | omega | (simp only [World.size_alloc, World.size_setCell]; omega))]
    first | assumption | (simp [go_sem]; done)
  have f3_0_0 : w3.frozen? ⟨w2.heap.size, 0, none⟩ = false := by
    rw [hf3 _ _ (by first | omega | (simp only [World.size_alloc, World.size_setCell]; omega))]
    first | assumption | (simp [go_sem]; done)
  have c3_0_1 : w3.cell? ⟨w2.heap.size, 1, none⟩ = some (.slice aX (ws XX).length cX) := by
    rw [hc3 _ _ (by first | omega | (simp only [World.size_alloc, World.size_setCell]; omega))]
    first | assumption | (simp [go_sem]; done)
  have f3_0_1 : w3.frozen? ⟨w2.heap.size, 1, none⟩ = false := by
    rw [hf3 _ _ (by first | omega | (simp only [World.size_alloc, World.size_setCell]; omega))]
    first | assumption | (simp [go_sem]; done)
  have c3_0_2 : w3.cell? ⟨w2.heap.size, 2, none⟩ = some (.int .i64 eX) := by
    rw [hc3 _ _ (by first | omega | (simp only [World.size_alloc, World.size_setCell]; omega))]
    first | assumption | (simp [go_sem]; done)
  have f3_0_2 : w3.frozen? ⟨w2.heap.size, 2, none⟩ = false := by
    rw [hf3 _ _ (by first | omega | (simp only [World.size_alloc, World.size_setCell]; omega))]
    first | assumption | (simp [go_sem]; done)
  clear hc3 hf3 
  have ne0 : w2.heap.size ≠ w3.heap.size := by omega
  go_wp2
  have SS := S3.out
  exact bodyPost_ret (v := .bool true) (by simp [results, Try.results5, go_sem, c3_0_0, f3_0_0, c3_0_1, f3_0_1, c3_0_2, f3_0_2, hz3_0, ne0]) rfl ⟨rfl, (by repeat (first | exact Below.refl _ _ | assumption | exact Nat.le_refl _ | (simp only [World.size_alloc, World.size_setCell]; omega) | omega | refine Below.alloc ?_ ?_ _ | refine Below.setCell ?_ ?_ _ | refine Below.drew ?_))⟩
set_option maxHeartbeats 8000000 in
theorem exact_tf (fa fb : Nat) (nX nY : Bool) (XX XY : Nat) (eX eY : Int) (w : World) (lX : (ws XX).length ≤ 8192) (lY : (ws XY).length ≤ 8192)
    (HX : Hid (∀ u, Calls Try.prog 29 #[.float .f64 fa] u fun r w' => (∃ v, r = .returned (.tuple #[.agg #[.bool nX, v, .int .i64 eX], .bool true]) ∧ Nt u.heap.size w' v XX) ∧ Below u.heap.size u w'))
    (HY : Hid (∀ u, Calls Try.prog 29 #[.float .f64 fb] u fun r w' => (∃ v, r = .returned (.tuple #[.agg #[.bool nY, v, .int .i64 eY], .bool false]) ∧ Nt u.heap.size w' v XY) ∧ Below u.heap.size u w')) :
    Calls Try.prog 5 #[.float .f64 fa, .float .f64 fb] w fun r w' => r = .returned (.bool true) ∧ Below w.heap.size w w' := by
  go_enter Try.func5, Try.ntmps5
  go_wp2_with fail
  refine (Calls.mono (awake_all _)) ?_
  rintro r w1 ⟨rfl, hb1⟩
  have hy1 : w.heap.size ≤ w1.heap.size := by
    have := hb1.size
    try simp only [World.size_alloc, World.size_setCell] at this
    omega
  have B1 := Aside.intro (Below.trans (B := w.heap.size) (a := w) (by repeat (first | exact Below.refl _ _ | assumption | exact Nat.le_refl _ | (simp only [World.size_alloc, World.size_setCell]; omega) | omega | refine Below.alloc ?_ ?_ _ | refine Below.setCell ?_ ?_ _ | refine Below.drew ?_)) (hb1.mono (by first | omega | (simp only [World.size_alloc, World.size_setCell]; omega))))
  have S1 := B1
  obtain ⟨hc1, hf1⟩ := bcell hb1
  clear hb1 B1
  clear hc1 hf1 
  go_wp2_with fail
  refine (Calls.mono (HX.out _)) ?_
  rintro r w2 ⟨⟨v2, rfl, N2⟩, hb2⟩
  obtain ⟨aX, cX, rfl, AX⟩ := N2.arg (by omega)
  clear N2
  clear HX
  have hy2 : w1.heap.size ≤ w2.heap.size := by
    have := hb2.size
    try simp only [World.size_alloc, World.size_setCell] at this
    omega
  have B2 := Aside.intro (Below.trans (B := w1.heap.size) (a := w1) (by repeat (first | exact Below.refl _ _ | assumption | exact Nat.le_refl _ | (simp only [World.size_alloc, World.size_setCell]; omega) | omega | refine Below.alloc ?_ ?_ _ | refine Below.setCell ?_ ?_ _ | refine Below.drew ?_)) (hb2.mono (by first | omega | (simp only [World.size_alloc, World.size_setCell]; omega))))
  have S2 := Aside.intro (S1.out.trans (B2.out.mono S1.out.size))
  clear S1
  obtain ⟨hc2, hf2⟩ := bcell hb2
  clear hb2 B2
  clear hc2 hf2 
  go_wp2_with fail
  refine (Calls.mono (HY.out _)) ?_
  rintro r w3 ⟨⟨v3, rfl, N3⟩, hb3⟩
  obtain ⟨aY, cY, rfl, AY⟩ := N3.arg (by omega)
  clear N3
  clear HY
  have hy3 : w2.heap.size ≤ w3.heap.size := by
    have := hb3.size
    try simp only [World.size_alloc, World.size_setCell] at this
    omega
  have hz3_0 : w2.heap.size < w3.heap.size := by
    have := hb3.size
    try simp only [World.size_alloc, World.size_setCell] at this
    omega
  have B3 := Aside.intro (Below.trans (B := w2.heap.size) (a := w2) (by repeat (first | exact Below.refl _ _ | assumption | exact Nat.le_refl _ | (simp only [World.size_alloc, World.size_setCell]; omega) | omega | refine Below.alloc ?_ ?_ _ | refine Below.setCell ?_ ?_ _ | refine Below.drew ?_)) (hb3.mono (by first | omega | (simp only [World.size_alloc, World.size_setCell]; omega))))
  have S3 := Aside.intro (S2.out.trans (B3.out.mono S2.out.size))
  clear S2
  replace AX := AX.below B3.out
  obtain ⟨hc3, hf3⟩ := bcell hb3
  clear hb3 B3
  have c3_0_0 : w3.cell? ⟨w2.heap.size, 0, none⟩ = some (.bool nX) := by
    rw [hc3 _ _ (by first | omega | (simp only [World.size_alloc, World.size_setCell]; omega))]
    first | assumption | (simp [go_sem]; done)
  have f3_0_0 : w3.frozen? ⟨w2.heap.size, 0, none⟩ = false := by
    rw [hf3 _ _ (by first | omega | (simp only [World.size_alloc, World.size_setCell]; omega))]
    first | assumption | (simp [go_sem]; done)
  have c3_0_1 : w3.cell? ⟨w2.heap.size, 1, none⟩ = some (.slice aX (ws XX).length cX) := by
    rw [hc3 _ _ (by first | omega | (simp only [World.size_alloc, World.size_setCell]; omega))]
    first | assumption | (simp [go_sem]; done)
  have f3_0_1 : w3.frozen? ⟨w2.heap.size, 1, none⟩ = false := by
    rw [hf3 _ _ (by first | omega | (simp only [World.size_alloc, World.size_setCell]; omega))]
    first | assumption | (simp [go_sem]; done)
  have c3_0_2 : w3.cell? ⟨w2.heap.size, 2, none⟩ = some (.int .i64 eX) := by
    rw [hc3 _ _ (by first | omega | (simp only [World.size_alloc, World.size_setCell]; omega))]
    first | assumption | (simp [go_sem]; done)
  have f3_0_2 : w3.frozen? ⟨w2.heap.size, 2, none⟩ = false := by
    rw [hf3 _ _ (by first | omega | (simp only [World.size_alloc, World.size_setCell]; omega))]
    first | assumption | (simp [go_sem]; done)
  clear hc3 hf3 
  have ne0 : w2.heap.size ≠ w3.heap.size := by omega
  go_wp2
  have SS := S3.out
  exact bodyPost_ret (v := .bool true) (by simp [results, Try.results5, go_sem, c3_0_0, f3_0_0, c3_0_1, f3_0_1, c3_0_2, f3_0_2, hz3_0, ne0]) rfl ⟨rfl, (by repeat (first | exact Below.refl _ _ | assumption | exact Nat.le_refl _ | (simp only [World.size_alloc, World.size_setCell]; omega) | omega | refine Below.alloc ?_ ?_ _ | refine Below.setCell ?_ ?_ _ | refine Below.drew ?_))⟩
set_option maxHeartbeats 8000000 in
theorem exact_tt (fa fb : Nat) (nX nY : Bool) (XX XY : Nat) (eX eY : Int) (w : World) (lX : (ws XX).length ≤ 8192) (lY : (ws XY).length ≤ 8192)
    (HX : Hid (∀ u, Calls Try.prog 29 #[.float .f64 fa] u fun r w' => (∃ v, r = .returned (.tuple #[.agg #[.bool nX, v, .int .i64 eX], .bool true]) ∧ Nt u.heap.size w' v XX) ∧ Below u.heap.size u w'))
    (HY : Hid (∀ u, Calls Try.prog 29 #[.float .f64 fb] u fun r w' => (∃ v, r = .returned (.tuple #[.agg #[.bool nY, v, .int .i64 eY], .bool true]) ∧ Nt u.heap.size w' v XY) ∧ Below u.heap.size u w'))
    (HS : Hid (∀ u a b c d, Arg u a (ws XX).length c (ws XX) → Arg u b (ws XY).length d (ws XY) → Calls Try.prog 30 #[.float .f64 fa, .float .f64 fb, .agg #[.bool nX, .slice a (ws XX).length c, .int .i64 eX], .agg #[.bool nY, .slice b (ws XY).length d, .int .i64 eY]] u fun r w' => r = .returned (.bool true) ∧ Below u.heap.size u w'))
    (HH : Hid (∀ u a c, Arg u a (ws XX).length c (ws XX) → Calls Try.prog 31 #[.float .f64 fa, .agg #[.bool nX, .slice a (ws XX).length c, .int .i64 eX]] u fun r w' => r = .returned (.bool true) ∧ Below u.heap.size u w'))
    (HP : Hid (∀ u a b c d, Arg u a (ws XX).length c (ws XX) → Arg u b (ws XY).length d (ws XY) → Calls Try.prog 32 #[.float .f64 fa, .float .f64 fb, .agg #[.bool nX, .slice a (ws XX).length c, .int .i64 eX], .agg #[.bool nY, .slice b (ws XY).length d, .int .i64 eY]] u fun r w' => r = .returned (.bool true) ∧ Below u.heap.size u w')) :
    Calls Try.prog 5 #[.float .f64 fa, .float .f64 fb] w fun r w' => r = .returned (.bool true) ∧ Below w.heap.size w w' := by
  go_enter Try.func5, Try.ntmps5
  go_wp2_with fail
  refine (Calls.mono (awake_all _)) ?_
  rintro r w1 ⟨rfl, hb1⟩
  have hy1 : w.heap.size ≤ w1.heap.size := by
    have := hb1.size
    try simp only [World.size_alloc, World.size_setCell] at this
    omega
  have B1 := Aside.intro (Below.trans (B := w.heap.size) (a := w) (by repeat (first | exact Below.refl _ _ | assumption | exact Nat.le_refl _ | (simp only [World.size_alloc, World.size_setCell]; omega) | omega | refine Below.alloc ?_ ?_ _ | refine Below.setCell ?_ ?_ _ | refine Below.drew ?_)) (hb1.mono (by first | omega | (simp only [World.size_alloc, World.size_setCell]; omega))))
  have S1 := B1
  obtain ⟨hc1, hf1⟩ := bcell hb1
  clear hb1 B1
  clear hc1 hf1 
  go_wp2_with fail
  refine (Calls.mono (HX.out _)) ?_
  rintro r w2 ⟨⟨v2, rfl, N2⟩, hb2⟩
  obtain ⟨aX, cX, rfl, AX⟩ := N2.arg (by omega)
  clear N2
  clear HX
  have hy2 : w1.heap.size ≤ w2.heap.size := by
    have := hb2.size
    try simp only [World.size_alloc, World.size_setCell] at this
    omega
  have B2 := Aside.intro (Below.trans (B := w1.heap.size) (a := w1) (by repeat (first | exact Below.refl _ _ | assumption | exact Nat.le_refl _ | (simp only [World.size_alloc, World.size_setCell]; omega) | omega | refine Below.alloc ?_ ?_ _ | refine Below.setCell ?_ ?_ _ | refine Below.drew ?_)) (hb2.mono (by first | omega | (simp only [World.size_alloc, World.size_setCell]; omega))))
  have S2 := Aside.intro (S1.out.trans (B2.out.mono S1.out.size))
  clear S1
  obtain ⟨hc2, hf2⟩ := bcell hb2
  clear hb2 B2
  clear hc2 hf2 
  go_wp2_with fail
  refine (Calls.mono (HY.out _)) ?_
  rintro r w3 ⟨⟨v3, rfl, N3⟩, hb3⟩
  obtain ⟨aY, cY, rfl, AY⟩ := N3.arg (by omega)
  clear N3
  clear HY
  have hy3 : w2.heap.size ≤ w3.heap.size := by
    have := hb3.size
    try simp only [World.size_alloc, World.size_setCell] at this
    omega
  have hz3_0 : w2.heap.size < w3.heap.size := by
    have := hb3.size
    try simp only [World.size_alloc, World.size_setCell] at this
    omega
  have B3 := Aside.intro (Below.trans (B := w2.heap.size) (a := w2) (by repeat (first | exact Below.refl _ _ | assumption | exact Nat.le_refl _ | (simp only [World.size_alloc, World.size_setCell]; omega) | omega | refine Below.alloc ?_ ?_ _ | refine Below.setCell ?_ ?_ _ | refine Below.drew ?_)) (hb3.mono (by first | omega | (simp only [World.size_alloc, World.size_setCell]; omega))))
  have S3 := Aside.intro (S2.out.trans (B3.out.mono S2.out.size))
  clear S2
  replace AX := AX.below B3.out
  obtain ⟨hc3, hf3⟩ := bcell hb3
  clear hb3 B3
  have c3_0_0 : w3.cell? ⟨w2.heap.size, 0, none⟩ = some (.bool nX) := by
    rw [hc3 _ _ (by first | omega | (simp only [World.size_alloc, World.size_setCell]; omega))]
    first | assumption | (simp [go_sem]; done)
  have f3_0_0 : w3.frozen? ⟨w2.heap.size, 0, none⟩ = false := by
    rw [hf3 _ _ (by first | omega | (simp only [World.size_alloc, World.size_setCell]; omega))]
    first | assumption | (simp [go_sem]; done)
  have c3_0_1 : w3.cell? ⟨w2.heap.size, 1, none⟩ = some (.slice aX (ws XX).length cX) := by
    rw [hc3 _ _ (by first | omega | (simp only [World.size_alloc, World.size_setCell]; omega))]
    first | assumption | (simp [go_sem]; done)
  have f3_0_1 : w3.frozen? ⟨w2.heap.size, 1, none⟩ = false := by
    rw [hf3 _ _ (by first | omega | (simp only [World.size_alloc, World.size_setCell]; omega))]
    first | assumption | (simp [go_sem]; done)
  have c3_0_2 : w3.cell? ⟨w2.heap.size, 2, none⟩ = some (.int .i64 eX) := by
    rw [hc3 _ _ (by first | omega | (simp only [World.size_alloc, World.size_setCell]; omega))]
    first | assumption | (simp [go_sem]; done)
  have f3_0_2 : w3.frozen? ⟨w2.heap.size, 2, none⟩ = false := by
    rw [hf3 _ _ (by first | omega | (simp only [World.size_alloc, World.size_setCell]; omega))]
    first | assumption | (simp [go_sem]; done)
  clear hc3 hf3 
  have ne0 : w2.heap.size ≠ w3.heap.size := by omega
  go_wp2_with fail
  refine (Calls.mono (HS.out _ _ _ _ _ (AX.below (by repeat (first | exact Below.refl _ _ | assumption | exact Nat.le_refl _ | (simp only [World.size_alloc, World.size_setCell]; omega) | omega | refine Below.alloc ?_ ?_ _ | refine Below.setCell ?_ ?_ _ | refine Below.drew ?_))) (AY.below (by repeat (first | exact Below.refl _ _ | assumption | exact Nat.le_refl _ | (simp only [World.size_alloc, World.size_setCell]; omega) | omega | refine Below.alloc ?_ ?_ _ | refine Below.setCell ?_ ?_ _ | refine Below.drew ?_))))) ?_
  rintro r w4 ⟨rfl, hb4⟩
  clear HS
  have hy4 : w3.heap.size ≤ w4.heap.size := by
    have := hb4.size
    try simp only [World.size_alloc, World.size_setCell] at this
    omega
  have hz4_0 : w2.heap.size < w4.heap.size := by
    have := hb4.size
    try simp only [World.size_alloc, World.size_setCell] at this
    omega
  have hz4_1 : w3.heap.size < w4.heap.size := by
    have := hb4.size
    try simp only [World.size_alloc, World.size_setCell] at this
    omega
  have B4 := Aside.intro (Below.trans (B := w3.heap.size) (a := w3) (by repeat (first | exact Below.refl _ _ | assumption | exact Nat.le_refl _ | (simp only [World.size_alloc, World.size_setCell]; omega) | omega | refine Below.alloc ?_ ?_ _ | refine Below.setCell ?_ ?_ _ | refine Below.drew ?_)) (hb4.mono (by first | omega | (simp only [World.size_alloc, World.size_setCell]; omega))))
  have S4 := Aside.intro (S3.out.trans (B4.out.mono S3.out.size))
  clear S3
  replace AX := AX.below B4.out
  replace AY := AY.below B4.out
  obtain ⟨hc4, hf4⟩ := bcell hb4
  clear hb4 B4
  have c4_0_0 : w4.cell? ⟨w2.heap.size, 0, none⟩ = some (.bool nX) := by
    rw [hc4 _ _ (by first | omega | (simp only [World.size_alloc, World.size_setCell]; omega))]
    first | assumption | (simp [go_sem, c3_0_0, f3_0_0, c3_0_1, f3_0_1, c3_0_2, f3_0_2, hz3_0, ne0]; done)
  have f4_0_0 : w4.frozen? ⟨w2.heap.size, 0, none⟩ = false := by
    rw [hf4 _ _ (by first | omega | (simp only [World.size_alloc, World.size_setCell]; omega))]
    first | assumption | (simp [go_sem, c3_0_0, f3_0_0, c3_0_1, f3_0_1, c3_0_2, f3_0_2, hz3_0, ne0]; done)
  have c4_0_1 : w4.cell? ⟨w2.heap.size, 1, none⟩ = some (.slice aX (ws XX).length cX) := by
    rw [hc4 _ _ (by first | omega | (simp only [World.size_alloc, World.size_setCell]; omega))]
    first | assumption | (simp [go_sem, c3_0_0, f3_0_0, c3_0_1, f3_0_1, c3_0_2, f3_0_2, hz3_0, ne0]; done)
  have f4_0_1 : w4.frozen? ⟨w2.heap.size, 1, none⟩ = false := by
    rw [hf4 _ _ (by first | omega | (simp only [World.size_alloc, World.size_setCell]; omega))]
    first | assumption | (simp [go_sem, c3_0_0, f3_0_0, c3_0_1, f3_0_1, c3_0_2, f3_0_2, hz3_0, ne0]; done)
  have c4_0_2 : w4.cell? ⟨w2.heap.size, 2, none⟩ = some (.int .i64 eX) := by
    rw [hc4 _ _ (by first | omega | (simp only [World.size_alloc, World.size_setCell]; omega))]
    first | assumption | (simp [go_sem, c3_0_0, f3_0_0, c3_0_1, f3_0_1, c3_0_2, f3_0_2, hz3_0, ne0]; done)
  have f4_0_2 : w4.frozen? ⟨w2.heap.size, 2, none⟩ = false := by
    rw [hf4 _ _ (by first | omega | (simp only [World.size_alloc, World.size_setCell]; omega))]
    first | assumption | (simp [go_sem, c3_0_0, f3_0_0, c3_0_1, f3_0_1, c3_0_2, f3_0_2, hz3_0, ne0]; done)
  have c4_1_0 : w4.cell? ⟨w3.heap.size, 0, none⟩ = some (.bool nY) := by
    rw [hc4 _ _ (by first | omega | (simp only [World.size_alloc, World.size_setCell]; omega))]
    first | assumption | (simp [go_sem, c3_0_0, f3_0_0, c3_0_1, f3_0_1, c3_0_2, f3_0_2, hz3_0, ne0]; done)
  have f4_1_0 : w4.frozen? ⟨w3.heap.size, 0, none⟩ = false := by
    rw [hf4 _ _ (by first | omega | (simp only [World.size_alloc, World.size_setCell]; omega))]
    first | assumption | (simp [go_sem, c3_0_0, f3_0_0, c3_0_1, f3_0_1, c3_0_2, f3_0_2, hz3_0, ne0]; done)
  have c4_1_1 : w4.cell? ⟨w3.heap.size, 1, none⟩ = some (.slice aY (ws XY).length cY) := by
    rw [hc4 _ _ (by first | omega | (simp only [World.size_alloc, World.size_setCell]; omega))]
    first | assumption | (simp [go_sem, c3_0_0, f3_0_0, c3_0_1, f3_0_1, c3_0_2, f3_0_2, hz3_0, ne0]; done)
  have f4_1_1 : w4.frozen? ⟨w3.heap.size, 1, none⟩ = false := by
    rw [hf4 _ _ (by first | omega | (simp only [World.size_alloc, World.size_setCell]; omega))]
    first | assumption | (simp [go_sem, c3_0_0, f3_0_0, c3_0_1, f3_0_1, c3_0_2, f3_0_2, hz3_0, ne0]; done)
  have c4_1_2 : w4.cell? ⟨w3.heap.size, 2, none⟩ = some (.int .i64 eY) := by
    rw [hc4 _ _ (by first | omega | (simp only [World.size_alloc, World.size_setCell]; omega))]
    first | assumption | (simp [go_sem, c3_0_0, f3_0_0, c3_0_1, f3_0_1, c3_0_2, f3_0_2, hz3_0, ne0]; done)
  have f4_1_2 : w4.frozen? ⟨w3.heap.size, 2, none⟩ = false := by
    rw [hf4 _ _ (by first | omega | (simp only [World.size_alloc, World.size_setCell]; omega))]
    first | assumption | (simp [go_sem, c3_0_0, f3_0_0, c3_0_1, f3_0_1, c3_0_2, f3_0_2, hz3_0, ne0]; done)
  clear hc4 hf4 c3_0_0 f3_0_0 c3_0_1 f3_0_1 c3_0_2 f3_0_2
  go_wp2_with fail
  refine (Calls.mono (HH.out _ _ _ (AX.below (by repeat (first | exact Below.refl _ _ | assumption | exact Nat.le_refl _ | (simp only [World.size_alloc, World.size_setCell]; omega) | omega | refine Below.alloc ?_ ?_ _ | refine Below.setCell ?_ ?_ _ | refine Below.drew ?_))))) ?_
  rintro r w5 ⟨rfl, hb5⟩
  clear HH
  have hy5 : w4.heap.size ≤ w5.heap.size := by
    have := hb5.size
    try simp only [World.size_alloc, World.size_setCell] at this
    omega
  have hz5_0 : w2.heap.size < w5.heap.size := by
    have := hb5.size
    try simp only [World.size_alloc, World.size_setCell] at this
    omega
  have hz5_1 : w3.heap.size < w5.heap.size := by
    have := hb5.size
    try simp only [World.size_alloc, World.size_setCell] at this
    omega
  have B5 := Aside.intro (Below.trans (B := w4.heap.size) (a := w4) (by repeat (first | exact Below.refl _ _ | assumption | exact Nat.le_refl _ | (simp only [World.size_alloc, World.size_setCell]; omega) | omega | refine Below.alloc ?_ ?_ _ | refine Below.setCell ?_ ?_ _ | refine Below.drew ?_)) (hb5.mono (by first | omega | (simp only [World.size_alloc, World.size_setCell]; omega))))
  have S5 := Aside.intro (S4.out.trans (B5.out.mono S4.out.size))
  clear S4
  replace AX := AX.below B5.out
  replace AY := AY.below B5.out
  obtain ⟨hc5, hf5⟩ := bcell hb5
  clear hb5 B5
  have c5_0_0 : w5.cell? ⟨w2.heap.size, 0, none⟩ = some (.bool nX) := by
    rw [hc5 _ _ (by first | omega | (simp only [World.size_alloc, World.size_setCell]; omega))]
    first | assumption | (simp [go_sem, c4_0_0, f4_0_0, c4_0_1, f4_0_1, c4_0_2, f4_0_2, c4_1_0, f4_1_0, c4_1_1, f4_1_1, c4_1_2, f4_1_2, hz4_0, hz4_1, ne0]; done)
  have f5_0_0 : w5.frozen? ⟨w2.heap.size, 0, none⟩ = false := by
    rw [hf5 _ _ (by first | omega | (simp only [World.size_alloc, World.size_setCell]; omega))]
    first | assumption | (simp [go_sem, c4_0_0, f4_0_0, c4_0_1, f4_0_1, c4_0_2, f4_0_2, c4_1_0, f4_1_0, c4_1_1, f4_1_1, c4_1_2, f4_1_2, hz4_0, hz4_1, ne0]; done)
  have c5_0_1 : w5.cell? ⟨w2.heap.size, 1, none⟩ = some (.slice aX (ws XX).length cX) := by
    rw [hc5 _ _ (by first | omega | (simp only [World.size_alloc, World.size_setCell]; omega))]
    first | assumption | (simp [go_sem, c4_0_0, f4_0_0, c4_0_1, f4_0_1, c4_0_2, f4_0_2, c4_1_0, f4_1_0, c4_1_1, f4_1_1, c4_1_2, f4_1_2, hz4_0, hz4_1, ne0]; done)
  have f5_0_1 : w5.frozen? ⟨w2.heap.size, 1, none⟩ = false := by
    rw [hf5 _ _ (by first | omega | (simp only [World.size_alloc, World.size_setCell]; omega))]
    first | assumption | (simp [go_sem, c4_0_0, f4_0_0, c4_0_1, f4_0_1, c4_0_2, f4_0_2, c4_1_0, f4_1_0, c4_1_1, f4_1_1, c4_1_2, f4_1_2, hz4_0, hz4_1, ne0]; done)
  have c5_0_2 : w5.cell? ⟨w2.heap.size, 2, none⟩ = some (.int .i64 eX) := by
    rw [hc5 _ _ (by first | omega | (simp only [World.size_alloc, World.size_setCell]; omega))]
    first | assumption | (simp [go_sem, c4_0_0, f4_0_0, c4_0_1, f4_0_1, c4_0_2, f4_0_2, c4_1_0, f4_1_0, c4_1_1, f4_1_1, c4_1_2, f4_1_2, hz4_0, hz4_1, ne0]; done)
  have f5_0_2 : w5.frozen? ⟨w2.heap.size, 2, none⟩ = false := by
    rw [hf5 _ _ (by first | omega | (simp only [World.size_alloc, World.size_setCell]; omega))]
    first | assumption | (simp [go_sem, c4_0_0, f4_0_0, c4_0_1, f4_0_1, c4_0_2, f4_0_2, c4_1_0, f4_1_0, c4_1_1, f4_1_1, c4_1_2, f4_1_2, hz4_0, hz4_1, ne0]; done)
  have c5_1_0 : w5.cell? ⟨w3.heap.size, 0, none⟩ = some (.bool nY) := by
    rw [hc5 _ _ (by first | omega | (simp only [World.size_alloc, World.size_setCell]; omega))]
    first | assumption | (simp [go_sem, c4_0_0, f4_0_0, c4_0_1, f4_0_1, c4_0_2, f4_0_2, c4_1_0, f4_1_0, c4_1_1, f4_1_1, c4_1_2, f4_1_2, hz4_0, hz4_1, ne0]; done)
  have f5_1_0 : w5.frozen? ⟨w3.heap.size, 0, none⟩ = false := by
    rw [hf5 _ _ (by first | omega | (simp only [World.size_alloc, World.size_setCell]; omega))]
    first | assumption | (simp [go_sem, c4_0_0, f4_0_0, c4_0_1, f4_0_1, c4_0_2, f4_0_2, c4_1_0, f4_1_0, c4_1_1, f4_1_1, c4_1_2, f4_1_2, hz4_0, hz4_1, ne0]; done)
  have c5_1_1 : w5.cell? ⟨w3.heap.size, 1, none⟩ = some (.slice aY (ws XY).length cY) := by
    rw [hc5 _ _ (by first | omega | (simp only [World.size_alloc, World.size_setCell]; omega))]
    first | assumption | (simp [go_sem, c4_0_0, f4_0_0, c4_0_1, f4_0_1, c4_0_2, f4_0_2, c4_1_0, f4_1_0, c4_1_1, f4_1_1, c4_1_2, f4_1_2, hz4_0, hz4_1, ne0]; done)
  have f5_1_1 : w5.frozen? ⟨w3.heap.size, 1, none⟩ = false := by
    rw [hf5 _ _ (by first | omega | (simp only [World.size_alloc, World.size_setCell]; omega))]
    first | assumption | (simp [go_sem, c4_0_0, f4_0_0, c4_0_1, f4_0_1, c4_0_2, f4_0_2, c4_1_0, f4_1_0, c4_1_1, f4_1_1, c4_1_2, f4_1_2, hz4_0, hz4_1, ne0]; done)
  have c5_1_2 : w5.cell? ⟨w3.heap.size, 2, none⟩ = some (.int .i64 eY) := by
    rw [hc5 _ _ (by first | omega | (simp only [World.size_alloc, World.size_setCell]; omega))]
    first | assumption | (simp [go_sem, c4_0_0, f4_0_0, c4_0_1, f4_0_1, c4_0_2, f4_0_2, c4_1_0, f4_1_0, c4_1_1, f4_1_1, c4_1_2, f4_1_2, hz4_0, hz4_1, ne0]; done)
  have f5_1_2 : w5.frozen? ⟨w3.heap.size, 2, none⟩ = false := by
    rw [hf5 _ _ (by first | omega | (simp only [World.size_alloc, World.size_setCell]; omega))]
    first | assumption | (simp [go_sem, c4_0_0, f4_0_0, c4_0_1, f4_0_1, c4_0_2, f4_0_2, c4_1_0, f4_1_0, c4_1_1, f4_1_1, c4_1_2, f4_1_2, hz4_0, hz4_1, ne0]; done)
  clear hc5 hf5 c4_0_0 f4_0_0 c4_0_1 f4_0_1 c4_0_2 f4_0_2 c4_1_0 f4_1_0 c4_1_1 f4_1_1 c4_1_2 f4_1_2
  go_wp2_with fail
  refine (Calls.mono (HP.out _ _ _ _ _ (AX.below (by repeat (first | exact Below.refl _ _ | assumption | exact Nat.le_refl _ | (simp only [World.size_alloc, World.size_setCell]; omega) | omega | refine Below.alloc ?_ ?_ _ | refine Below.setCell ?_ ?_ _ | refine Below.drew ?_))) (AY.below (by repeat (first | exact Below.refl _ _ | assumption | exact Nat.le_refl _ | (simp only [World.size_alloc, World.size_setCell]; omega) | omega | refine Below.alloc ?_ ?_ _ | refine Below.setCell ?_ ?_ _ | refine Below.drew ?_))))) ?_
  rintro r w6 ⟨rfl, hb6⟩
  clear HP
  have hy6 : w5.heap.size ≤ w6.heap.size := by
    have := hb6.size
    try simp only [World.size_alloc, World.size_setCell] at this
    omega
  have hz6_0 : w2.heap.size < w6.heap.size := by
    have := hb6.size
    try simp only [World.size_alloc, World.size_setCell] at this
    omega
  have hz6_1 : w3.heap.size < w6.heap.size := by
    have := hb6.size
    try simp only [World.size_alloc, World.size_setCell] at this
    omega
  have B6 := Aside.intro (Below.trans (B := w5.heap.size) (a := w5) (by repeat (first | exact Below.refl _ _ | assumption | exact Nat.le_refl _ | (simp only [World.size_alloc, World.size_setCell]; omega) | omega | refine Below.alloc ?_ ?_ _ | refine Below.setCell ?_ ?_ _ | refine Below.drew ?_)) (hb6.mono (by first | omega | (simp only [World.size_alloc, World.size_setCell]; omega))))
  have S6 := Aside.intro (S5.out.trans (B6.out.mono S5.out.size))
  clear S5
  replace AX := AX.below B6.out
  replace AY := AY.below B6.out
  obtain ⟨hc6, hf6⟩ := bcell hb6
  clear hb6 B6
  have c6_0_0 : w6.cell? ⟨w2.heap.size, 0, none⟩ = some (.bool nX) := by
    rw [hc6 _ _ (by first | omega | (simp only [World.size_alloc, World.size_setCell]; omega))]
    first | assumption | (simp [go_sem, c5_0_0, f5_0_0, c5_0_1, f5_0_1, c5_0_2, f5_0_2, c5_1_0, f5_1_0, c5_1_1, f5_1_1, c5_1_2, f5_1_2, hz5_0, hz5_1, ne0]; done)
  have f6_0_0 : w6.frozen? ⟨w2.heap.size, 0, none⟩ = false := by
    rw [hf6 _ _ (by first | omega | (simp only [World.size_alloc, World.size_setCell]; omega))]
    first | assumption | (simp [go_sem, c5_0_0, f5_0_0, c5_0_1, f5_0_1, c5_0_2, f5_0_2, c5_1_0, f5_1_0, c5_1_1, f5_1_1, c5_1_2, f5_1_2, hz5_0, hz5_1, ne0]; done)
  have c6_0_1 : w6.cell? ⟨w2.heap.size, 1, none⟩ = some (.slice aX (ws XX).length cX) := by
    rw [hc6 _ _ (by first | omega | (simp only [World.size_alloc, World.size_setCell]; omega))]
    first | assumption | (simp [go_sem, c5_0_0, f5_0_0, c5_0_1, f5_0_1, c5_0_2, f5_0_2, c5_1_0, f5_1_0, c5_1_1, f5_1_1, c5_1_2, f5_1_2, hz5_0, hz5_1, ne0]; done)
  have f6_0_1 : w6.frozen? ⟨w2.heap.size, 1, none⟩ = false := by
    rw [hf6 _ _ (by first | omega | (simp only [World.size_alloc, World.size_setCell]; omega))]
    first | assumption | (simp [go_sem, c5_0_0, f5_0_0, c5_0_1, f5_0_1, c5_0_2, f5_0_2, c5_1_0, f5_1_0, c5_1_1, f5_1_1, c5_1_2, f5_1_2, hz5_0, hz5_1, ne0]; done)
  have c6_0_2 : w6.cell? ⟨w2.heap.size, 2, none⟩ = some (.int .i64 eX) := by
    rw [hc6 _ _ (by first | omega | (simp only [World.size_alloc, World.size_setCell]; omega))]
    first | assumption | (simp [go_sem, c5_0_0, f5_0_0, c5_0_1, f5_0_1, c5_0_2, f5_0_2, c5_1_0, f5_1_0, c5_1_1, f5_1_1, c5_1_2, f5_1_2, hz5_0, hz5_1, ne0]; done)
  have f6_0_2 : w6.frozen? ⟨w2.heap.size, 2, none⟩ = false := by
    rw [hf6 _ _ (by first | omega | (simp only [World.size_alloc, World.size_setCell]; omega))]
    first | assumption | (simp [go_sem, c5_0_0, f5_0_0, c5_0_1, f5_0_1, c5_0_2, f5_0_2, c5_1_0, f5_1_0, c5_1_1, f5_1_1, c5_1_2, f5_1_2, hz5_0, hz5_1, ne0]; done)
  have c6_1_0 : w6.cell? ⟨w3.heap.size, 0, none⟩ = some (.bool nY) := by
    rw [hc6 _ _ (by first | omega | (simp only [World.size_alloc, World.size_setCell]; omega))]
    first | assumption | (simp [go_sem, c5_0_0, f5_0_0, c5_0_1, f5_0_1, c5_0_2, f5_0_2, c5_1_0, f5_1_0, c5_1_1, f5_1_1, c5_1_2, f5_1_2, hz5_0, hz5_1, ne0]; done)
  have f6_1_0 : w6.frozen? ⟨w3.heap.size, 0, none⟩ = false := by
    rw [hf6 _ _ (by first | omega | (simp only [World.size_alloc, World.size_setCell]; omega))]
    first | assumption | (simp [go_sem, c5_0_0, f5_0_0, c5_0_1, f5_0_1, c5_0_2, f5_0_2, c5_1_0, f5_1_0, c5_1_1, f5_1_1, c5_1_2, f5_1_2, hz5_0, hz5_1, ne0]; done)
  have c6_1_1 : w6.cell? ⟨w3.heap.size, 1, none⟩ = some (.slice aY (ws XY).length cY) := by
    rw [hc6 _ _ (by first | omega | (simp only [World.size_alloc, World.size_setCell]; omega))]
    first | assumption | (simp [go_sem, c5_0_0, f5_0_0, c5_0_1, f5_0_1, c5_0_2, f5_0_2, c5_1_0, f5_1_0, c5_1_1, f5_1_1, c5_1_2, f5_1_2, hz5_0, hz5_1, ne0]; done)
  have f6_1_1 : w6.frozen? ⟨w3.heap.size, 1, none⟩ = false := by
    rw [hf6 _ _ (by first | omega | (simp only [World.size_alloc, World.size_setCell]; omega))]
    first | assumption | (simp [go_sem, c5_0_0, f5_0_0, c5_0_1, f5_0_1, c5_0_2, f5_0_2, c5_1_0, f5_1_0, c5_1_1, f5_1_1, c5_1_2, f5_1_2, hz5_0, hz5_1, ne0]; done)
  have c6_1_2 : w6.cell? ⟨w3.heap.size, 2, none⟩ = some (.int .i64 eY) := by
    rw [hc6 _ _ (by first | omega | (simp only [World.size_alloc, World.size_setCell]; omega))]
    first | assumption | (simp [go_sem, c5_0_0, f5_0_0, c5_0_1, f5_0_1, c5_0_2, f5_0_2, c5_1_0, f5_1_0, c5_1_1, f5_1_1, c5_1_2, f5_1_2, hz5_0, hz5_1, ne0]; done)
  have f6_1_2 : w6.frozen? ⟨w3.heap.size, 2, none⟩ = false := by
    rw [hf6 _ _ (by first | omega | (simp only [World.size_alloc, World.size_setCell]; omega))]
    first | assumption | (simp [go_sem, c5_0_0, f5_0_0, c5_0_1, f5_0_1, c5_0_2, f5_0_2, c5_1_0, f5_1_0, c5_1_1, f5_1_1, c5_1_2, f5_1_2, hz5_0, hz5_1, ne0]; done)
  clear hc6 hf6 c5_0_0 f5_0_0 c5_0_1 f5_0_1 c5_0_2 f5_0_2 c5_1_0 f5_1_0 c5_1_1 f5_1_1 c5_1_2 f5_1_2
  go_wp2
  have SS := S6.out
  exact bodyPost_ret (v := .bool true) (by simp [results, Try.results5, go_sem, c6_0_0, f6_0_0, c6_0_1, f6_0_1, c6_0_2, f6_0_2, c6_1_0, f6_1_0, c6_1_1, f6_1_1, c6_1_2, f6_1_2, hz6_0, hz6_1, ne0]) rfl ⟨rfl, (by repeat (first | exact Below.refl _ _ | assumption | exact Nat.le_refl _ | (simp only [World.size_alloc, World.size_setCell]; omega) | omega | refine Below.alloc ?_ ?_ _ | refine Below.setCell ?_ ?_ _ | refine Below.drew ?_))⟩

/-- finite, at a number that is not. -/
theorem finite_not {x : Nat} (hx : Wd x) (h : ¬ finW x) (u : World) : Calls Try.prog 29 #[.float .f64 x] u fun r w' => (∃ v, r = .returned (.tuple #[.agg #[.bool false, v, .int .i64 0], .bool false]) ∧ Nt u.heap.size w' v 0) ∧ Below u.heap.size u w' := by
  obtain ⟨s, e, f, he, hf, h1⟩ := B.bw_of x hx
  have he7 : e = 2047 := by
    apply Classical.byContradiction; intro hne
    apply h
    unfold finW magW
    rw [h1]
    unfold B.bw
    cases s <;> simp <;> omega
  refine finite_core x false 0 0 30 u (by rw [ws_zero]; simp) (hid fun u => ?_)
  rw [h1]
  refine (rOf3_any s e f he hf u).mono ?_
  rintro r w' ⟨⟨v, hr, hN⟩, hb⟩
  have e1 : ofR s e f = none := by unfold ofR; rw [if_pos he7]
  have e2 : ofE e = 30 := by unfold ofE; rw [if_pos he7]
  rw [e1] at hN
  rw [e1, e2] at hr
  exact ⟨⟨v, hr, hN⟩, hb⟩
theorem walk_PairExact (a b : Nat) (w0 : (Lit.float .f64 a).wf = true) (w1 : (Lit.float .f64 b).wf = true) (w : World) :
    Calls Try.prog 5 #[.float .f64 a, .float .f64 b] w fun r w' => r = .returned (.bool true) ∧ Below w.heap.size w w' := by
  have ha : Wd a := by have h := w0; simp [Lit.wf] at h; exact h
  have hb : Wd b := by have h := w1; simp [Lit.wf] at h; exact h
  have z0 : (ws 0).length ≤ 8192 := by rw [ws_zero]; simp
  by_cases fa : finW a
  · obtain ⟨n1, X1, e1, o1, F1, _⟩ := of_fo (negW a) (magW a) fa
    have l1 := frmLen F1.frm.1
    by_cases fb : finW b
    · obtain ⟨n2, X2, e2, o2, F2, _⟩ := of_fo (negW b) (magW b) fb
      have l2 := frmLen F2.frm.1
      exact exact_tt a b n1 n2 X1 X2 e1 e2 w l1 l2 (hid fun u => finite_fin ha fa o1 l1 u) (hid fun u => finite_fin hb fb o2 l2 u) (hid fun u p q c d A C => sums_all ha hb fa fb F1 F2 u p q c d A C) (hid fun u p c A => halved_all ha fa F1 u p c A) (hid fun u p q c d A C => products_all ha hb fa fb F1 F2 u p q c d A C)
    · exact exact_tf a b n1 false X1 0 e1 0 w l1 z0 (hid fun u => finite_fin ha fa o1 l1 u) (hid fun u => finite_not hb fb u)
  · by_cases fb : finW b
    · obtain ⟨n2, X2, e2, o2, F2, _⟩ := of_fo (negW b) (magW b) fb
      have l2 := frmLen F2.frm.1
      exact exact_ft a b false n2 0 X2 0 e2 w z0 l2 (hid fun u => finite_not ha fa u) (hid fun u => finite_fin hb fb o2 l2 u)
    · exact exact_ff a b false false 0 0 0 0 w z0 z0 (hid fun u => finite_not ha fa u) (hid fun u => finite_not hb fb u)
end Go.Proofs.Ythilnddhehbjiab

