/- The walk of BitsBetween, case by case (BtA): over what its callees answer and how the numbers compare. -/
import Derived.Test.YtedknjiipmppgaaW12
import Derived.Test.YtedknjiipmppgaaW15
namespace Go.Proofs.Ytedknjiipmppgaa
open Go.RowKit
attribute [local go_sem] f64bits f64frombits
set_option linter.unusedVariables false

set_option maxHeartbeats 4000000 in
theorem bt_odd (X Y : Nat) (ox : (FloatKind.f64.format.order X X != some .eq) = true)  (H1 : Hid (∀ w, Calls Try.prog 22 #[.float .f64 X] w fun r w' => r = .returned (.float .f64 9221120237041090560) ∧ w' = w)) (H2 : Hid (∀ w, Calls Try.prog 24 #[.float .f64 X] w fun r w' => r = .returned (.float .f64 9221120237041090560) ∧ w' = w)) (H3 : Hid (∀ w, Calls Try.prog 26 #[.float .f64 X] w fun r w' => r = .returned (.float .f64 9221120237041090560) ∧ Below w.heap.size w w')) (w : World) :
    Calls Try.prog 8 #[.float .f64 X, .float .f64 Y] w fun r w' => r = .returned (.bool true) ∧ Below w.heap.size w w' := by
  go_enter Try.func8, Try.ntmps8
  go_wp2_with fail
  refine (live_any _).mono ?_
  rintro r w1 ⟨rfl, b1⟩
  go_wp2_with fail
  refine (H1.out _).mono ?_
  rintro r u1 ⟨rfl, rfl⟩
  go_wp2_with fail
  refine (H2.out _).mono ?_
  rintro r u2 ⟨rfl, rfl⟩
  go_wp2_with fail
  refine (nan_any _).mono ?_
  rintro r u3 ⟨rfl, rfl⟩
  go_wp2_with fail
  refine (exact_same _ _).mono ?_
  rintro r u4 ⟨rfl, rfl⟩
  go_wp2_with fail
  refine (nan_any _).mono ?_
  rintro r u5 ⟨rfl, rfl⟩
  go_wp2_with fail
  refine (exact_same _ _).mono ?_
  rintro r u6 ⟨rfl, rfl⟩
  go_wp2_with fail
  refine (H3.out _).mono ?_
  rintro r w2 ⟨rfl, b2⟩
  replace b2 := b1.trans (b2.mono b1.size); clear b1
  go_wp2_with fail
  refine (nan_any _).mono ?_
  rintro r u9 ⟨rfl, rfl⟩
  go_wp2_with fail
  refine (exact_same _ _).mono ?_
  rintro r u10 ⟨rfl, rfl⟩
  go_wp2_with fail
  go_ret
  exact ⟨rfl, b2⟩

set_option maxHeartbeats 4000000 in
theorem bt_top_gt (X Y N P U A M D Q E : Nat) (ox : (FloatKind.f64.format.order X X != some .eq) = false) (y1 : (FloatKind.f64.format.order X Y == some .lt) = false) (y2 : (FloatKind.f64.format.order Y X == some .lt) = true) (y3 : (FloatKind.f64.format.order Y P == some .lt || FloatKind.f64.format.order Y P == some .eq) = true) (xn : (FloatKind.f64.format.order X N == some .lt) = false) (px : (FloatKind.f64.format.order P X == some .lt) = true) (z1 : (FloatKind.f64.format.order X 0 == some .eq) = false) (z2 : (FloatKind.f64.format.order X 0 != some .eq) = true) (H1 : Hid (∀ w, Calls Try.prog 22 #[.float .f64 X] w fun r w' => r = .returned (.float .f64 N) ∧ w' = w)) (H2 : Hid (∀ w, Calls Try.prog 24 #[.float .f64 X] w fun r w' => r = .returned (.float .f64 P) ∧ w' = w)) (H3 : Hid (∀ w, Calls Try.prog 28 #[.float .f64 X, .int .i64 1] w fun r w' => r = .returned (.bool true) ∧ w' = w)) (H4 : Hid (∀ w, Calls Try.prog 28 #[.float .f64 X, .int .i64 (-1)] w fun r w' => r = .returned (.bool false) ∧ w' = w)) (H7 : Hid (∀ w, Calls Try.prog 22 #[.float .f64 P] w fun r w' => r = .returned (.float .f64 X) ∧ w' = w)) (H8 : Hid (∀ w, Calls Try.prog 26 #[.float .f64 X] w fun r w' => r = .returned (.float .f64 U) ∧ Below w.heap.size w w')) (H9 : Hid (∀ w, Calls Try.prog 28 #[.float .f64 U, .int .i64 1] w fun r w' => r = .returned (.bool true) ∧ w' = w)) (w : World) :
    Calls Try.prog 8 #[.float .f64 X, .float .f64 Y] w fun r w' => r = .returned (.bool true) ∧ Below w.heap.size w w' := by
  go_enter Try.func8, Try.ntmps8
  go_wp2_with fail
  refine (live_any _).mono ?_
  rintro r w1 ⟨rfl, b1⟩
  go_wp2_with fail
  refine (H1.out _).mono ?_
  rintro r u1 ⟨rfl, rfl⟩
  go_wp2_with fail
  refine (H2.out _).mono ?_
  rintro r u2 ⟨rfl, rfl⟩
  go_wp2_with fail
  refine (H3.out _).mono ?_
  rintro r u3 ⟨rfl, rfl⟩
  go_wp2_with fail
  refine (H4.out _).mono ?_
  rintro r u4 ⟨rfl, rfl⟩
  go_wp2_with fail
  refine (H7.out _).mono ?_
  rintro r u7 ⟨rfl, rfl⟩
  go_wp2_with fail
  refine (exact_same _ _).mono ?_
  rintro r u7 ⟨rfl, rfl⟩
  go_wp2_with fail
  refine (H8.out _).mono ?_
  rintro r w2 ⟨rfl, b2⟩
  replace b2 := b1.trans (b2.mono b1.size); clear b1
  go_wp2_with fail
  refine (H9.out _).mono ?_
  rintro r u9 ⟨rfl, rfl⟩
  go_wp2_with fail
  go_ret
  exact ⟨rfl, b2⟩

set_option maxHeartbeats 4000000 in
theorem bt_top_no (X Y N P U A M D Q E : Nat) (ox : (FloatKind.f64.format.order X X != some .eq) = false) (y1 : (FloatKind.f64.format.order X Y == some .lt) = false) (y2 : (FloatKind.f64.format.order Y X == some .lt) = false) (xn : (FloatKind.f64.format.order X N == some .lt) = false) (px : (FloatKind.f64.format.order P X == some .lt) = true) (z1 : (FloatKind.f64.format.order X 0 == some .eq) = false) (z2 : (FloatKind.f64.format.order X 0 != some .eq) = true) (H1 : Hid (∀ w, Calls Try.prog 22 #[.float .f64 X] w fun r w' => r = .returned (.float .f64 N) ∧ w' = w)) (H2 : Hid (∀ w, Calls Try.prog 24 #[.float .f64 X] w fun r w' => r = .returned (.float .f64 P) ∧ w' = w)) (H3 : Hid (∀ w, Calls Try.prog 28 #[.float .f64 X, .int .i64 1] w fun r w' => r = .returned (.bool true) ∧ w' = w)) (H4 : Hid (∀ w, Calls Try.prog 28 #[.float .f64 X, .int .i64 (-1)] w fun r w' => r = .returned (.bool false) ∧ w' = w)) (H7 : Hid (∀ w, Calls Try.prog 22 #[.float .f64 P] w fun r w' => r = .returned (.float .f64 X) ∧ w' = w)) (H8 : Hid (∀ w, Calls Try.prog 26 #[.float .f64 X] w fun r w' => r = .returned (.float .f64 U) ∧ Below w.heap.size w w')) (H9 : Hid (∀ w, Calls Try.prog 28 #[.float .f64 U, .int .i64 1] w fun r w' => r = .returned (.bool true) ∧ w' = w)) (w : World) :
    Calls Try.prog 8 #[.float .f64 X, .float .f64 Y] w fun r w' => r = .returned (.bool true) ∧ Below w.heap.size w w' := by
  go_enter Try.func8, Try.ntmps8
  go_wp2_with fail
  refine (live_any _).mono ?_
  rintro r w1 ⟨rfl, b1⟩
  go_wp2_with fail
  refine (H1.out _).mono ?_
  rintro r u1 ⟨rfl, rfl⟩
  go_wp2_with fail
  refine (H2.out _).mono ?_
  rintro r u2 ⟨rfl, rfl⟩
  go_wp2_with fail
  refine (H3.out _).mono ?_
  rintro r u3 ⟨rfl, rfl⟩
  go_wp2_with fail
  refine (H4.out _).mono ?_
  rintro r u4 ⟨rfl, rfl⟩
  go_wp2_with fail
  refine (H7.out _).mono ?_
  rintro r u7 ⟨rfl, rfl⟩
  go_wp2_with fail
  refine (exact_same _ _).mono ?_
  rintro r u7 ⟨rfl, rfl⟩
  go_wp2_with fail
  refine (H8.out _).mono ?_
  rintro r w2 ⟨rfl, b2⟩
  replace b2 := b1.trans (b2.mono b1.size); clear b1
  go_wp2_with fail
  refine (H9.out _).mono ?_
  rintro r u9 ⟨rfl, rfl⟩
  go_wp2_with fail
  go_ret
  exact ⟨rfl, b2⟩

set_option maxHeartbeats 4000000 in
theorem bt_low_lt (X Y N P U A M D Q E : Nat) (ox : (FloatKind.f64.format.order X X != some .eq) = false) (y1 : (FloatKind.f64.format.order X Y == some .lt) = true) (y2 : (FloatKind.f64.format.order N Y == some .lt || FloatKind.f64.format.order N Y == some .eq) = true) (y3 : (FloatKind.f64.format.order Y X == some .lt) = false) (xn : (FloatKind.f64.format.order X N == some .lt) = true) (px : (FloatKind.f64.format.order P X == some .lt) = false) (z1 : (FloatKind.f64.format.order X 0 == some .eq) = false) (z2 : (FloatKind.f64.format.order X 0 != some .eq) = true) (H1 : Hid (∀ w, Calls Try.prog 22 #[.float .f64 X] w fun r w' => r = .returned (.float .f64 N) ∧ w' = w)) (H2 : Hid (∀ w, Calls Try.prog 24 #[.float .f64 X] w fun r w' => r = .returned (.float .f64 P) ∧ w' = w)) (H3 : Hid (∀ w, Calls Try.prog 28 #[.float .f64 X, .int .i64 1] w fun r w' => r = .returned (.bool false) ∧ w' = w)) (H4 : Hid (∀ w, Calls Try.prog 28 #[.float .f64 X, .int .i64 (-1)] w fun r w' => r = .returned (.bool true) ∧ w' = w)) (H6 : Hid (∀ w, Calls Try.prog 24 #[.float .f64 N] w fun r w' => r = .returned (.float .f64 X) ∧ w' = w)) (H8 : Hid (∀ w, Calls Try.prog 26 #[.float .f64 X] w fun r w' => r = .returned (.float .f64 U) ∧ Below w.heap.size w w')) (H9 : Hid (∀ w, Calls Try.prog 28 #[.float .f64 U, .int .i64 1] w fun r w' => r = .returned (.bool true) ∧ w' = w)) (w : World) :
    Calls Try.prog 8 #[.float .f64 X, .float .f64 Y] w fun r w' => r = .returned (.bool true) ∧ Below w.heap.size w w' := by
  go_enter Try.func8, Try.ntmps8
  go_wp2_with fail
  refine (live_any _).mono ?_
  rintro r w1 ⟨rfl, b1⟩
  go_wp2_with fail
  refine (H1.out _).mono ?_
  rintro r u1 ⟨rfl, rfl⟩
  go_wp2_with fail
  refine (H2.out _).mono ?_
  rintro r u2 ⟨rfl, rfl⟩
  go_wp2_with fail
  refine (H3.out _).mono ?_
  rintro r u3 ⟨rfl, rfl⟩
  go_wp2_with fail
  refine (H4.out _).mono ?_
  rintro r u4 ⟨rfl, rfl⟩
  go_wp2_with fail
  refine (H6.out _).mono ?_
  rintro r u6 ⟨rfl, rfl⟩
  go_wp2_with fail
  refine (exact_same _ _).mono ?_
  rintro r u6 ⟨rfl, rfl⟩
  go_wp2_with fail
  refine (H8.out _).mono ?_
  rintro r w2 ⟨rfl, b2⟩
  replace b2 := b1.trans (b2.mono b1.size); clear b1
  go_wp2_with fail
  refine (H9.out _).mono ?_
  rintro r u9 ⟨rfl, rfl⟩
  go_wp2_with fail
  go_ret
  exact ⟨rfl, b2⟩

set_option maxHeartbeats 4000000 in
theorem bt_low_no (X Y N P U A M D Q E : Nat) (ox : (FloatKind.f64.format.order X X != some .eq) = false) (y1 : (FloatKind.f64.format.order X Y == some .lt) = false) (y2 : (FloatKind.f64.format.order Y X == some .lt) = false) (xn : (FloatKind.f64.format.order X N == some .lt) = true) (px : (FloatKind.f64.format.order P X == some .lt) = false) (z1 : (FloatKind.f64.format.order X 0 == some .eq) = false) (z2 : (FloatKind.f64.format.order X 0 != some .eq) = true) (H1 : Hid (∀ w, Calls Try.prog 22 #[.float .f64 X] w fun r w' => r = .returned (.float .f64 N) ∧ w' = w)) (H2 : Hid (∀ w, Calls Try.prog 24 #[.float .f64 X] w fun r w' => r = .returned (.float .f64 P) ∧ w' = w)) (H3 : Hid (∀ w, Calls Try.prog 28 #[.float .f64 X, .int .i64 1] w fun r w' => r = .returned (.bool false) ∧ w' = w)) (H4 : Hid (∀ w, Calls Try.prog 28 #[.float .f64 X, .int .i64 (-1)] w fun r w' => r = .returned (.bool true) ∧ w' = w)) (H6 : Hid (∀ w, Calls Try.prog 24 #[.float .f64 N] w fun r w' => r = .returned (.float .f64 X) ∧ w' = w)) (H8 : Hid (∀ w, Calls Try.prog 26 #[.float .f64 X] w fun r w' => r = .returned (.float .f64 U) ∧ Below w.heap.size w w')) (H9 : Hid (∀ w, Calls Try.prog 28 #[.float .f64 U, .int .i64 1] w fun r w' => r = .returned (.bool true) ∧ w' = w)) (w : World) :
    Calls Try.prog 8 #[.float .f64 X, .float .f64 Y] w fun r w' => r = .returned (.bool true) ∧ Below w.heap.size w w' := by
  go_enter Try.func8, Try.ntmps8
  go_wp2_with fail
  refine (live_any _).mono ?_
  rintro r w1 ⟨rfl, b1⟩
  go_wp2_with fail
  refine (H1.out _).mono ?_
  rintro r u1 ⟨rfl, rfl⟩
  go_wp2_with fail
  refine (H2.out _).mono ?_
  rintro r u2 ⟨rfl, rfl⟩
  go_wp2_with fail
  refine (H3.out _).mono ?_
  rintro r u3 ⟨rfl, rfl⟩
  go_wp2_with fail
  refine (H4.out _).mono ?_
  rintro r u4 ⟨rfl, rfl⟩
  go_wp2_with fail
  refine (H6.out _).mono ?_
  rintro r u6 ⟨rfl, rfl⟩
  go_wp2_with fail
  refine (exact_same _ _).mono ?_
  rintro r u6 ⟨rfl, rfl⟩
  go_wp2_with fail
  refine (H8.out _).mono ?_
  rintro r w2 ⟨rfl, b2⟩
  replace b2 := b1.trans (b2.mono b1.size); clear b1
  go_wp2_with fail
  refine (H9.out _).mono ?_
  rintro r u9 ⟨rfl, rfl⟩
  go_wp2_with fail
  go_ret
  exact ⟨rfl, b2⟩
end Go.Proofs.Ytedknjiipmppgaa
