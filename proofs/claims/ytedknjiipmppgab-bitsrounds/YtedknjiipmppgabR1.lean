/- What Ldexp answers at 1 and the two powers that are asked. -/
import Derived.Test.YtedknjiipmppgabW7
namespace Go.Proofs.Ytedknjiipmppgab
open Go.RowKit
attribute [local go_sem] f64bits f64frombits
set_option linter.unusedVariables false

theorem isInf_0 (w : World) : Calls Try.prog 47 #[.float .f64 4607182418800017408, .int .i64 0] w fun r w' => r = .returned (.bool false) ∧ w' = w := by
  have h1 := abs_1
  have HA : Hid (∀ w, Calls Try.prog 30 #[.float .f64 4607182418800017408] w fun r w' => r = .returned (.float .f64 4607182418800017408) ∧ w' = w) := h1
  clear h1
  have h2 : (FloatKind.f64.format.order 4607182418800017408 9218868437227405311 == some .gt) = false := by kernel_rfl
  go_enter Try.func47, Try.ntmps47
  go_wp2_with (go_at_call 30; refine (HA.out _).mono ?_; rintro r w1 ⟨rfl, rfl⟩)
  go_ret
  exact ⟨rfl, rfl⟩

theorem isNaN_1 (w : World) : Calls Try.prog 26 #[.float .f64 4607182418800017408] w fun r w' => r = .returned (.bool false) ∧ w' = w :=
  isNaN_any false 1023 0 (by omega) (by omega) w

theorem norm_1 (w : World) : Calls Try.prog 53 #[.float .f64 4607182418800017408] w fun r w' => r = .returned (.tuple #[.float .f64 4607182418800017408, .int .i64 0]) ∧ w' = w := by
  have HA : Hid (∀ w, Calls Try.prog 30 #[.float .f64 4607182418800017408] w fun r w' => r = .returned (.float .f64 4607182418800017408) ∧ w' = w) := abs_1
  have h2 : (FloatKind.f64.format.order 4607182418800017408 4503599627370496 == some .lt) = false := by kernel_rfl
  go_enter Try.func53, Try.ntmps53
  go_wp2_with (go_at_call 30; refine (HA.out _).mono ?_; rintro r w1 ⟨rfl, rfl⟩)
  go_ret2
  exact ⟨rfl, rfl⟩

set_option maxHeartbeats 1000000 in
theorem ldx_lo (w : World) : Calls Try.prog 46 #[.float .f64 4607182418800017408, .int .i64 (-149)] w fun r w' => r = .returned (.float .f64 3936146074321813504) ∧ w' = w := by
  have z : (FloatKind.f64.format.order 4607182418800017408 0 == some .eq) = false := by kernel_rfl
  have hm : ∀ w, (binOp .mul 22 (.float .f64 4607182418800017408) (.float .f64 3936146074321813504)).run Try.prog w = .ok (.float .f64 3936146074321813504) w := fun w => run_float_arith w .mul _ .f64 _ _ _ (by kernel_rfl)
  have hb1 : bits .and .i64 1023 2047 = 1023 := by kernel_rfl
  have hb2 : bits .andNot .u64 4607182418800017408 9218868437227405312 = 0 := by kernel_rfl
  have hb3 : bits .or .u64 0 3936146074321813504 = 3936146074321813504 := by kernel_rfl
  go_enter Try.func46, Try.ntmps46
  go_wp2_with (first
    | (go_at_call 47; refine (isInf_0 _).mono ?_; rintro r w1 ⟨rfl, rfl⟩)
    | (go_at_call 26; refine (isNaN_1 _).mono ?_; rintro r w1 ⟨rfl, rfl⟩)
    | (go_at_call 53; refine (norm_1 _).mono ?_; rintro r w1 ⟨rfl, rfl⟩))
  go_ret
  exact ⟨rfl, rfl⟩

set_option maxHeartbeats 1000000 in
theorem ldexp_lo (w : World) : Calls Try.prog 20 #[.float .f64 4607182418800017408, .int .i64 (-149)] w fun r w' => r = .returned (.float .f64 3936146074321813504) ∧ w' = w := by
  go_enter Try.func20, Try.ntmps20
  go_wp2_with (go_at_call 46; refine (ldx_lo _).mono ?_; rintro r w1 ⟨rfl, rfl⟩)
  go_ret
  exact ⟨rfl, rfl⟩

set_option maxHeartbeats 1000000 in
theorem ldx_hi (w : World) : Calls Try.prog 46 #[.float .f64 4607182418800017408, .int .i64 128] w fun r w' => r = .returned (.float .f64 5183643171103440896) ∧ w' = w := by
  have z : (FloatKind.f64.format.order 4607182418800017408 0 == some .eq) = false := by kernel_rfl
  have hm : ∀ w, (binOp .mul 22 (.float .f64 4607182418800017408) (.float .f64 5183643171103440896)).run Try.prog w = .ok (.float .f64 5183643171103440896) w := fun w => run_float_arith w .mul _ .f64 _ _ _ (by kernel_rfl)
  have hb1 : bits .and .i64 1023 2047 = 1023 := by kernel_rfl
  have hb2 : bits .andNot .u64 4607182418800017408 9218868437227405312 = 0 := by kernel_rfl
  have hb3 : bits .or .u64 0 5183643171103440896 = 5183643171103440896 := by kernel_rfl
  go_enter Try.func46, Try.ntmps46
  go_wp2_with (first
    | (go_at_call 47; refine (isInf_0 _).mono ?_; rintro r w1 ⟨rfl, rfl⟩)
    | (go_at_call 26; refine (isNaN_1 _).mono ?_; rintro r w1 ⟨rfl, rfl⟩)
    | (go_at_call 53; refine (norm_1 _).mono ?_; rintro r w1 ⟨rfl, rfl⟩))
  go_ret
  exact ⟨rfl, rfl⟩

set_option maxHeartbeats 1000000 in
theorem ldexp_hi (w : World) : Calls Try.prog 20 #[.float .f64 4607182418800017408, .int .i64 128] w fun r w' => r = .returned (.float .f64 5183643171103440896) ∧ w' = w := by
  go_enter Try.func20, Try.ntmps20
  go_wp2_with (go_at_call 46; refine (ldx_hi _).mono ?_; rintro r w1 ⟨rfl, rfl⟩)
  go_ret
  exact ⟨rfl, rfl⟩

set_option maxHeartbeats 1000000 in
theorem near_up_nn (X Lo Hi I A B S M : Nat) (H1 : Hid (∀ w, Calls Try.prog 47 #[.float .f64 Lo, .int .i64 (-1)] w fun r w' => r = .returned (.bool false) ∧ w' = w)) (H2 : Hid (∀ w, Calls Try.prog 47 #[.float .f64 Hi, .int .i64 1] w fun r w' => r = .returned (.bool false) ∧ w' = w)) (d1 : ∀ w, (binOp .add 22 (.float .f64 Lo) (.float .f64 Hi)).run Try.prog w = .ok (.float .f64 S) w) (d2 : ∀ w, (binOp .quo 22 (.float .f64 S) (.float .f64 4611686018427387904)).run Try.prog w = .ok (.float .f64 M) w) (m1 : (FloatKind.f64.format.order M X == some .lt) = true) (m2 : (FloatKind.f64.format.order I Hi == some .eq) = true) (w : World) :
    Calls Try.prog 21 #[.float .f64 X, .float .f64 Lo, .float .f64 Hi, .float .f64 I] w fun r w' => r = .returned (.bool true) ∧ w' = w := by
  go_enter Try.func21, Try.ntmps21
  go_wp2_with fail
  refine (H1.out _).mono ?_
  rintro r w1 ⟨rfl, rfl⟩
  go_wp2_with fail
  refine (H2.out _).mono ?_
  rintro r w1 ⟨rfl, rfl⟩
  go_wp2_with fail
  go_ret
  exact ⟨rfl, rfl⟩

set_option maxHeartbeats 1000000 in
theorem near_dn_nn (X Lo Hi I A B S M : Nat) (H1 : Hid (∀ w, Calls Try.prog 47 #[.float .f64 Lo, .int .i64 (-1)] w fun r w' => r = .returned (.bool false) ∧ w' = w)) (H2 : Hid (∀ w, Calls Try.prog 47 #[.float .f64 Hi, .int .i64 1] w fun r w' => r = .returned (.bool false) ∧ w' = w)) (d1 : ∀ w, (binOp .add 22 (.float .f64 Lo) (.float .f64 Hi)).run Try.prog w = .ok (.float .f64 S) w) (d2 : ∀ w, (binOp .quo 22 (.float .f64 S) (.float .f64 4611686018427387904)).run Try.prog w = .ok (.float .f64 M) w) (m1 : (FloatKind.f64.format.order M X == some .lt) = false) (m2 : (FloatKind.f64.format.order X M == some .lt) = true) (m3 : (FloatKind.f64.format.order I Lo == some .eq) = true) (w : World) :
    Calls Try.prog 21 #[.float .f64 X, .float .f64 Lo, .float .f64 Hi, .float .f64 I] w fun r w' => r = .returned (.bool true) ∧ w' = w := by
  go_enter Try.func21, Try.ntmps21
  go_wp2_with fail
  refine (H1.out _).mono ?_
  rintro r w1 ⟨rfl, rfl⟩
  go_wp2_with fail
  refine (H2.out _).mono ?_
  rintro r w1 ⟨rfl, rfl⟩
  go_wp2_with fail
  go_ret
  exact ⟨rfl, rfl⟩

set_option maxHeartbeats 1000000 in
theorem near_mid_nn (X Lo Hi I A B S M : Nat) (H1 : Hid (∀ w, Calls Try.prog 47 #[.float .f64 Lo, .int .i64 (-1)] w fun r w' => r = .returned (.bool false) ∧ w' = w)) (H2 : Hid (∀ w, Calls Try.prog 47 #[.float .f64 Hi, .int .i64 1] w fun r w' => r = .returned (.bool false) ∧ w' = w)) (d1 : ∀ w, (binOp .add 22 (.float .f64 Lo) (.float .f64 Hi)).run Try.prog w = .ok (.float .f64 S) w) (d2 : ∀ w, (binOp .quo 22 (.float .f64 S) (.float .f64 4611686018427387904)).run Try.prog w = .ok (.float .f64 M) w) (m1 : (FloatKind.f64.format.order M X == some .lt) = false) (m2 : (FloatKind.f64.format.order X M == some .lt) = false) (m3 : (FloatKind.f64.format.order X M == some .eq) = true) (w : World) :
    Calls Try.prog 21 #[.float .f64 X, .float .f64 Lo, .float .f64 Hi, .float .f64 I] w fun r w' => r = .returned (.bool true) ∧ w' = w := by
  go_enter Try.func21, Try.ntmps21
  go_wp2_with fail
  refine (H1.out _).mono ?_
  rintro r w1 ⟨rfl, rfl⟩
  go_wp2_with fail
  refine (H2.out _).mono ?_
  rintro r w1 ⟨rfl, rfl⟩
  go_wp2_with fail
  go_ret
  exact ⟨rfl, rfl⟩

set_option maxHeartbeats 1000000 in
theorem near_up_ni (X Lo Hi I A B S M : Nat) (H1 : Hid (∀ w, Calls Try.prog 47 #[.float .f64 Lo, .int .i64 (-1)] w fun r w' => r = .returned (.bool false) ∧ w' = w)) (H2 : Hid (∀ w, Calls Try.prog 47 #[.float .f64 Hi, .int .i64 1] w fun r w' => r = .returned (.bool true) ∧ w' = w)) (d1 : ∀ w, (binOp .add 22 (.float .f64 Lo) (.float .f64 5183643171103440896)).run Try.prog w = .ok (.float .f64 S) w) (d2 : ∀ w, (binOp .quo 22 (.float .f64 S) (.float .f64 4611686018427387904)).run Try.prog w = .ok (.float .f64 M) w) (m1 : (FloatKind.f64.format.order M X == some .lt) = true) (m2 : (FloatKind.f64.format.order I Hi == some .eq) = true) (w : World) :
    Calls Try.prog 21 #[.float .f64 X, .float .f64 Lo, .float .f64 Hi, .float .f64 I] w fun r w' => r = .returned (.bool true) ∧ w' = w := by
  go_enter Try.func21, Try.ntmps21
  go_wp2_with fail
  refine (H1.out _).mono ?_
  rintro r w1 ⟨rfl, rfl⟩
  go_wp2_with fail
  refine (H2.out _).mono ?_
  rintro r w1 ⟨rfl, rfl⟩
  go_wp2_with fail
  refine (ldexp_hi _).mono ?_
  rintro r w1 ⟨rfl, rfl⟩
  go_wp2_with fail
  go_ret
  exact ⟨rfl, rfl⟩

set_option maxHeartbeats 1000000 in
theorem near_dn_ni (X Lo Hi I A B S M : Nat) (H1 : Hid (∀ w, Calls Try.prog 47 #[.float .f64 Lo, .int .i64 (-1)] w fun r w' => r = .returned (.bool false) ∧ w' = w)) (H2 : Hid (∀ w, Calls Try.prog 47 #[.float .f64 Hi, .int .i64 1] w fun r w' => r = .returned (.bool true) ∧ w' = w)) (d1 : ∀ w, (binOp .add 22 (.float .f64 Lo) (.float .f64 5183643171103440896)).run Try.prog w = .ok (.float .f64 S) w) (d2 : ∀ w, (binOp .quo 22 (.float .f64 S) (.float .f64 4611686018427387904)).run Try.prog w = .ok (.float .f64 M) w) (m1 : (FloatKind.f64.format.order M X == some .lt) = false) (m2 : (FloatKind.f64.format.order X M == some .lt) = true) (m3 : (FloatKind.f64.format.order I Lo == some .eq) = true) (w : World) :
    Calls Try.prog 21 #[.float .f64 X, .float .f64 Lo, .float .f64 Hi, .float .f64 I] w fun r w' => r = .returned (.bool true) ∧ w' = w := by
  go_enter Try.func21, Try.ntmps21
  go_wp2_with fail
  refine (H1.out _).mono ?_
  rintro r w1 ⟨rfl, rfl⟩
  go_wp2_with fail
  refine (H2.out _).mono ?_
  rintro r w1 ⟨rfl, rfl⟩
  go_wp2_with fail
  refine (ldexp_hi _).mono ?_
  rintro r w1 ⟨rfl, rfl⟩
  go_wp2_with fail
  go_ret
  exact ⟨rfl, rfl⟩

set_option maxHeartbeats 1000000 in
theorem near_mid_ni (X Lo Hi I A B S M : Nat) (H1 : Hid (∀ w, Calls Try.prog 47 #[.float .f64 Lo, .int .i64 (-1)] w fun r w' => r = .returned (.bool false) ∧ w' = w)) (H2 : Hid (∀ w, Calls Try.prog 47 #[.float .f64 Hi, .int .i64 1] w fun r w' => r = .returned (.bool true) ∧ w' = w)) (d1 : ∀ w, (binOp .add 22 (.float .f64 Lo) (.float .f64 5183643171103440896)).run Try.prog w = .ok (.float .f64 S) w) (d2 : ∀ w, (binOp .quo 22 (.float .f64 S) (.float .f64 4611686018427387904)).run Try.prog w = .ok (.float .f64 M) w) (m1 : (FloatKind.f64.format.order M X == some .lt) = false) (m2 : (FloatKind.f64.format.order X M == some .lt) = false) (m3 : (FloatKind.f64.format.order X M == some .eq) = true) (w : World) :
    Calls Try.prog 21 #[.float .f64 X, .float .f64 Lo, .float .f64 Hi, .float .f64 I] w fun r w' => r = .returned (.bool true) ∧ w' = w := by
  go_enter Try.func21, Try.ntmps21
  go_wp2_with fail
  refine (H1.out _).mono ?_
  rintro r w1 ⟨rfl, rfl⟩
  go_wp2_with fail
  refine (H2.out _).mono ?_
  rintro r w1 ⟨rfl, rfl⟩
  go_wp2_with fail
  refine (ldexp_hi _).mono ?_
  rintro r w1 ⟨rfl, rfl⟩
  go_wp2_with fail
  go_ret
  exact ⟨rfl, rfl⟩

set_option maxHeartbeats 1000000 in
theorem near_up_in (X Lo Hi I A B S M : Nat) (H1 : Hid (∀ w, Calls Try.prog 47 #[.float .f64 Lo, .int .i64 (-1)] w fun r w' => r = .returned (.bool true) ∧ w' = w)) (H2 : Hid (∀ w, Calls Try.prog 47 #[.float .f64 Hi, .int .i64 1] w fun r w' => r = .returned (.bool false) ∧ w' = w)) (d1 : ∀ w, (binOp .add 22 (.float .f64 14407015207958216704) (.float .f64 Hi)).run Try.prog w = .ok (.float .f64 S) w) (d2 : ∀ w, (binOp .quo 22 (.float .f64 S) (.float .f64 4611686018427387904)).run Try.prog w = .ok (.float .f64 M) w) (m1 : (FloatKind.f64.format.order M X == some .lt) = true) (m2 : (FloatKind.f64.format.order I Hi == some .eq) = true) (w : World) :
    Calls Try.prog 21 #[.float .f64 X, .float .f64 Lo, .float .f64 Hi, .float .f64 I] w fun r w' => r = .returned (.bool true) ∧ w' = w := by
  have hneg := negF false 1151 0 (by omega) (by omega)
  have e1 : bw false 1151 0 = 5183643171103440896 := by decide
  have e2 : bw (!false) 1151 0 = 14407015207958216704 := by decide
  rw [e1, e2] at hneg
  clear e1 e2
  go_enter Try.func21, Try.ntmps21
  go_wp2_with fail
  refine (H1.out _).mono ?_
  rintro r w1 ⟨rfl, rfl⟩
  go_wp2_with fail
  refine (ldexp_hi _).mono ?_
  rintro r w1 ⟨rfl, rfl⟩
  go_wp2_with fail
  refine (H2.out _).mono ?_
  rintro r w1 ⟨rfl, rfl⟩
  go_wp2_with fail
  go_ret
  exact ⟨rfl, rfl⟩

set_option maxHeartbeats 1000000 in
theorem near_dn_in (X Lo Hi I A B S M : Nat) (H1 : Hid (∀ w, Calls Try.prog 47 #[.float .f64 Lo, .int .i64 (-1)] w fun r w' => r = .returned (.bool true) ∧ w' = w)) (H2 : Hid (∀ w, Calls Try.prog 47 #[.float .f64 Hi, .int .i64 1] w fun r w' => r = .returned (.bool false) ∧ w' = w)) (d1 : ∀ w, (binOp .add 22 (.float .f64 14407015207958216704) (.float .f64 Hi)).run Try.prog w = .ok (.float .f64 S) w) (d2 : ∀ w, (binOp .quo 22 (.float .f64 S) (.float .f64 4611686018427387904)).run Try.prog w = .ok (.float .f64 M) w) (m1 : (FloatKind.f64.format.order M X == some .lt) = false) (m2 : (FloatKind.f64.format.order X M == some .lt) = true) (m3 : (FloatKind.f64.format.order I Lo == some .eq) = true) (w : World) :
    Calls Try.prog 21 #[.float .f64 X, .float .f64 Lo, .float .f64 Hi, .float .f64 I] w fun r w' => r = .returned (.bool true) ∧ w' = w := by
  have hneg := negF false 1151 0 (by omega) (by omega)
  have e1 : bw false 1151 0 = 5183643171103440896 := by decide
  have e2 : bw (!false) 1151 0 = 14407015207958216704 := by decide
  rw [e1, e2] at hneg
  clear e1 e2
  go_enter Try.func21, Try.ntmps21
  go_wp2_with fail
  refine (H1.out _).mono ?_
  rintro r w1 ⟨rfl, rfl⟩
  go_wp2_with fail
  refine (ldexp_hi _).mono ?_
  rintro r w1 ⟨rfl, rfl⟩
  go_wp2_with fail
  refine (H2.out _).mono ?_
  rintro r w1 ⟨rfl, rfl⟩
  go_wp2_with fail
  go_ret
  exact ⟨rfl, rfl⟩

set_option maxHeartbeats 1000000 in
theorem near_mid_in (X Lo Hi I A B S M : Nat) (H1 : Hid (∀ w, Calls Try.prog 47 #[.float .f64 Lo, .int .i64 (-1)] w fun r w' => r = .returned (.bool true) ∧ w' = w)) (H2 : Hid (∀ w, Calls Try.prog 47 #[.float .f64 Hi, .int .i64 1] w fun r w' => r = .returned (.bool false) ∧ w' = w)) (d1 : ∀ w, (binOp .add 22 (.float .f64 14407015207958216704) (.float .f64 Hi)).run Try.prog w = .ok (.float .f64 S) w) (d2 : ∀ w, (binOp .quo 22 (.float .f64 S) (.float .f64 4611686018427387904)).run Try.prog w = .ok (.float .f64 M) w) (m1 : (FloatKind.f64.format.order M X == some .lt) = false) (m2 : (FloatKind.f64.format.order X M == some .lt) = false) (m3 : (FloatKind.f64.format.order X M == some .eq) = true) (w : World) :
    Calls Try.prog 21 #[.float .f64 X, .float .f64 Lo, .float .f64 Hi, .float .f64 I] w fun r w' => r = .returned (.bool true) ∧ w' = w := by
  have hneg := negF false 1151 0 (by omega) (by omega)
  have e1 : bw false 1151 0 = 5183643171103440896 := by decide
  have e2 : bw (!false) 1151 0 = 14407015207958216704 := by decide
  rw [e1, e2] at hneg
  clear e1 e2
  go_enter Try.func21, Try.ntmps21
  go_wp2_with fail
  refine (H1.out _).mono ?_
  rintro r w1 ⟨rfl, rfl⟩
  go_wp2_with fail
  refine (ldexp_hi _).mono ?_
  rintro r w1 ⟨rfl, rfl⟩
  go_wp2_with fail
  refine (H2.out _).mono ?_
  rintro r w1 ⟨rfl, rfl⟩
  go_wp2_with fail
  go_ret
  exact ⟨rfl, rfl⟩
end Go.Proofs.Ytedknjiipmppgab
