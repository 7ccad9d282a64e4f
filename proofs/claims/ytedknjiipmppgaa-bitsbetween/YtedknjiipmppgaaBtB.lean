/- The walk of BitsBetween, case by case (BtB): over what its callees answer and how the numbers compare. -/
import Derived.Test.YtedknjiipmppgaaW12
import Derived.Test.YtedknjiipmppgaaW15
namespace Go.Proofs.Ytedknjiipmppgaa
open Go.RowKit
attribute [local go_sem] f64bits f64frombits
set_option linter.unusedVariables false

set_option maxHeartbeats 4000000 in
theorem bt_pz_lt (X Y N P U A M D Q E : Nat) (ox : (FloatKind.f64.format.order X X != some .eq) = false) (y1 : (FloatKind.f64.format.order X Y == some .lt) = true) (y2 : (FloatKind.f64.format.order N Y == some .lt || FloatKind.f64.format.order N Y == some .eq) = true) (y3 : (FloatKind.f64.format.order Y X == some .lt) = false) (xn : (FloatKind.f64.format.order X N == some .lt) = true) (px : (FloatKind.f64.format.order P X == some .lt) = true) (z1 : (FloatKind.f64.format.order X 0 == some .eq) = true) (z2 : (FloatKind.f64.format.order X 0 != some .eq) = false) (H1 : Hid (∀ w, Calls Try.prog 22 #[.float .f64 X] w fun r w' => r = .returned (.float .f64 N) ∧ w' = w)) (H2 : Hid (∀ w, Calls Try.prog 24 #[.float .f64 X] w fun r w' => r = .returned (.float .f64 P) ∧ w' = w)) (H3 : Hid (∀ w, Calls Try.prog 28 #[.float .f64 X, .int .i64 1] w fun r w' => r = .returned (.bool false) ∧ w' = w)) (H4 : Hid (∀ w, Calls Try.prog 28 #[.float .f64 X, .int .i64 (-1)] w fun r w' => r = .returned (.bool false) ∧ w' = w)) (H5 : Hid (∀ w, Calls Try.prog 21 #[.float .f64 X] w fun r w' => r = .returned (.bool false) ∧ w' = w)) (H6 : Hid (∀ w, Calls Try.prog 24 #[.float .f64 N] w fun r w' => r = .returned (.float .f64 X) ∧ w' = w)) (H8 : Hid (∀ w, Calls Try.prog 26 #[.float .f64 X] w fun r w' => r = .returned (.float .f64 U) ∧ Below w.heap.size w w')) (H10 : Hid (∀ w, Calls Try.prog 29 #[.float .f64 X] w fun r w' => r = .returned (.float .f64 A) ∧ w' = w)) (H11 : Hid (∀ w, Calls Try.prog 22 #[.float .f64 A] w fun r w' => r = .returned (.float .f64 M) ∧ w' = w)) (d1 : ∀ w, (binOp .sub 25 (.float .f64 M) (.float .f64 A)).run Try.prog w = .ok (.float .f64 D) w) (d2 : (FloatKind.f64.format.order D U == some .eq) = true) (w : World) :
    Calls Try.prog 8 #[.float .f64 X, .float .f64 Y] w fun r w' => r = .returned (.bool true) ∧ Below w.heap.size w w' := by
  go_enter Try.func8, Try.ntmps8
  go_wp2_with fail
  refine (live_any _).mono ?_
  rintro r w1 ⟨rfl, b1⟩
  go_wp2_with fail
  refine (H1.out _).mono ?_
  rintro r u1 ⟨rfl, rfl⟩
  go_wp2_with fail
  refine (H2.out _).mono ?_
  rintro r u2 ⟨rfl, rfl⟩
  go_wp2_with fail
  refine (H3.out _).mono ?_
  rintro r u3 ⟨rfl, rfl⟩
  go_wp2_with fail
  refine (H4.out _).mono ?_
  rintro r u4 ⟨rfl, rfl⟩
  go_wp2_with fail
  refine (H5.out _).mono ?_
  rintro r u5 ⟨rfl, rfl⟩
  go_wp2_with fail
  refine (H6.out _).mono ?_
  rintro r u6 ⟨rfl, rfl⟩
  go_wp2_with fail
  refine (exact_same _ _).mono ?_
  rintro r u6 ⟨rfl, rfl⟩
  go_wp2_with fail
  refine (H8.out _).mono ?_
  rintro r w2 ⟨rfl, b2⟩
  replace b2 := b1.trans (b2.mono b1.size); clear b1
  go_wp2_with fail
  refine (H10.out _).mono ?_
  rintro r u10 ⟨rfl, rfl⟩
  go_wp2_with fail
  refine (H11.out _).mono ?_
  rintro r u11 ⟨rfl, rfl⟩
  go_wp2_with fail
  go_ret
  exact ⟨rfl, b2⟩

set_option maxHeartbeats 4000000 in
theorem bt_pz_gt (X Y N P U A M D Q E : Nat) (ox : (FloatKind.f64.format.order X X != some .eq) = false) (y1 : (FloatKind.f64.format.order X Y == some .lt) = false) (y2 : (FloatKind.f64.format.order Y X == some .lt) = true) (y3 : (FloatKind.f64.format.order Y P == some .lt || FloatKind.f64.format.order Y P == some .eq) = true) (xn : (FloatKind.f64.format.order X N == some .lt) = true) (px : (FloatKind.f64.format.order P X == some .lt) = true) (z1 : (FloatKind.f64.format.order X 0 == some .eq) = true) (z2 : (FloatKind.f64.format.order X 0 != some .eq) = false) (H1 : Hid (∀ w, Calls Try.prog 22 #[.float .f64 X] w fun r w' => r = .returned (.float .f64 N) ∧ w' = w)) (H2 : Hid (∀ w, Calls Try.prog 24 #[.float .f64 X] w fun r w' => r = .returned (.float .f64 P) ∧ w' = w)) (H3 : Hid (∀ w, Calls Try.prog 28 #[.float .f64 X, .int .i64 1] w fun r w' => r = .returned (.bool false) ∧ w' = w)) (H4 : Hid (∀ w, Calls Try.prog 28 #[.float .f64 X, .int .i64 (-1)] w fun r w' => r = .returned (.bool false) ∧ w' = w)) (H5 : Hid (∀ w, Calls Try.prog 21 #[.float .f64 X] w fun r w' => r = .returned (.bool false) ∧ w' = w)) (H6 : Hid (∀ w, Calls Try.prog 24 #[.float .f64 N] w fun r w' => r = .returned (.float .f64 X) ∧ w' = w)) (H8 : Hid (∀ w, Calls Try.prog 26 #[.float .f64 X] w fun r w' => r = .returned (.float .f64 U) ∧ Below w.heap.size w w')) (H10 : Hid (∀ w, Calls Try.prog 29 #[.float .f64 X] w fun r w' => r = .returned (.float .f64 A) ∧ w' = w)) (H11 : Hid (∀ w, Calls Try.prog 22 #[.float .f64 A] w fun r w' => r = .returned (.float .f64 M) ∧ w' = w)) (d1 : ∀ w, (binOp .sub 25 (.float .f64 M) (.float .f64 A)).run Try.prog w = .ok (.float .f64 D) w) (d2 : (FloatKind.f64.format.order D U == some .eq) = true) (w : World) :
    Calls Try.prog 8 #[.float .f64 X, .float .f64 Y] w fun r w' => r = .returned (.bool true) ∧ Below w.heap.size w w' := by
  go_enter Try.func8, Try.ntmps8
  go_wp2_with fail
  refine (live_any _).mono ?_
  rintro r w1 ⟨rfl, b1⟩
  go_wp2_with fail
  refine (H1.out _).mono ?_
  rintro r u1 ⟨rfl, rfl⟩
  go_wp2_with fail
  refine (H2.out _).mono ?_
  rintro r u2 ⟨rfl, rfl⟩
  go_wp2_with fail
  refine (H3.out _).mono ?_
  rintro r u3 ⟨rfl, rfl⟩
  go_wp2_with fail
  refine (H4.out _).mono ?_
  rintro r u4 ⟨rfl, rfl⟩
  go_wp2_with fail
  refine (H5.out _).mono ?_
  rintro r u5 ⟨rfl, rfl⟩
  go_wp2_with fail
  refine (H6.out _).mono ?_
  rintro r u6 ⟨rfl, rfl⟩
  go_wp2_with fail
  refine (exact_same _ _).mono ?_
  rintro r u6 ⟨rfl, rfl⟩
  go_wp2_with fail
  refine (H8.out _).mono ?_
  rintro r w2 ⟨rfl, b2⟩
  replace b2 := b1.trans (b2.mono b1.size); clear b1
  go_wp2_with fail
  refine (H10.out _).mono ?_
  rintro r u10 ⟨rfl, rfl⟩
  go_wp2_with fail
  refine (H11.out _).mono ?_
  rintro r u11 ⟨rfl, rfl⟩
  go_wp2_with fail
  go_ret
  exact ⟨rfl, b2⟩

set_option maxHeartbeats 4000000 in
theorem bt_pz_no (X Y N P U A M D Q E : Nat) (ox : (FloatKind.f64.format.order X X != some .eq) = false) (y1 : (FloatKind.f64.format.order X Y == some .lt) = false) (y2 : (FloatKind.f64.format.order Y X == some .lt) = false) (xn : (FloatKind.f64.format.order X N == some .lt) = true) (px : (FloatKind.f64.format.order P X == some .lt) = true) (z1 : (FloatKind.f64.format.order X 0 == some .eq) = true) (z2 : (FloatKind.f64.format.order X 0 != some .eq) = false) (H1 : Hid (∀ w, Calls Try.prog 22 #[.float .f64 X] w fun r w' => r = .returned (.float .f64 N) ∧ w' = w)) (H2 : Hid (∀ w, Calls Try.prog 24 #[.float .f64 X] w fun r w' => r = .returned (.float .f64 P) ∧ w' = w)) (H3 : Hid (∀ w, Calls Try.prog 28 #[.float .f64 X, .int .i64 1] w fun r w' => r = .returned (.bool false) ∧ w' = w)) (H4 : Hid (∀ w, Calls Try.prog 28 #[.float .f64 X, .int .i64 (-1)] w fun r w' => r = .returned (.bool false) ∧ w' = w)) (H5 : Hid (∀ w, Calls Try.prog 21 #[.float .f64 X] w fun r w' => r = .returned (.bool false) ∧ w' = w)) (H6 : Hid (∀ w, Calls Try.prog 24 #[.float .f64 N] w fun r w' => r = .returned (.float .f64 X) ∧ w' = w)) (H8 : Hid (∀ w, Calls Try.prog 26 #[.float .f64 X] w fun r w' => r = .returned (.float .f64 U) ∧ Below w.heap.size w w')) (H10 : Hid (∀ w, Calls Try.prog 29 #[.float .f64 X] w fun r w' => r = .returned (.float .f64 A) ∧ w' = w)) (H11 : Hid (∀ w, Calls Try.prog 22 #[.float .f64 A] w fun r w' => r = .returned (.float .f64 M) ∧ w' = w)) (d1 : ∀ w, (binOp .sub 25 (.float .f64 M) (.float .f64 A)).run Try.prog w = .ok (.float .f64 D) w) (d2 : (FloatKind.f64.format.order D U == some .eq) = true) (w : World) :
    Calls Try.prog 8 #[.float .f64 X, .float .f64 Y] w fun r w' => r = .returned (.bool true) ∧ Below w.heap.size w w' := by
  go_enter Try.func8, Try.ntmps8
  go_wp2_with fail
  refine (live_any _).mono ?_
  rintro r w1 ⟨rfl, b1⟩
  go_wp2_with fail
  refine (H1.out _).mono ?_
  rintro r u1 ⟨rfl, rfl⟩
  go_wp2_with fail
  refine (H2.out _).mono ?_
  rintro r u2 ⟨rfl, rfl⟩
  go_wp2_with fail
  refine (H3.out _).mono ?_
  rintro r u3 ⟨rfl, rfl⟩
  go_wp2_with fail
  refine (H4.out _).mono ?_
  rintro r u4 ⟨rfl, rfl⟩
  go_wp2_with fail
  refine (H5.out _).mono ?_
  rintro r u5 ⟨rfl, rfl⟩
  go_wp2_with fail
  refine (H6.out _).mono ?_
  rintro r u6 ⟨rfl, rfl⟩
  go_wp2_with fail
  refine (exact_same _ _).mono ?_
  rintro r u6 ⟨rfl, rfl⟩
  go_wp2_with fail
  refine (H8.out _).mono ?_
  rintro r w2 ⟨rfl, b2⟩
  replace b2 := b1.trans (b2.mono b1.size); clear b1
  go_wp2_with fail
  refine (H10.out _).mono ?_
  rintro r u10 ⟨rfl, rfl⟩
  go_wp2_with fail
  refine (H11.out _).mono ?_
  rintro r u11 ⟨rfl, rfl⟩
  go_wp2_with fail
  go_ret
  exact ⟨rfl, b2⟩
end Go.Proofs.Ytedknjiipmppgaa
