/- The walk of BitsTotal, case by case: over what Order and Same answer. -/
import Derived.Test.YtedknjiipmppgabW7
namespace Go.Proofs.Ytedknjiipmppgab
open Go.RowKit
attribute [local go_sem] f64bits f64frombits

set_option maxHeartbeats 2000000 in
theorem tot_lllt (X Y Z : Nat) (lt : (FloatKind.f64.format.order X Y == some .lt) = true) (H1 : Hid (∀ w, Calls Try.prog 9 #[.float .f64 X, .float .f64 Y] w fun r w' => r = .returned (.int .i64 (-1)) ∧ w' = w)) (H2 : Hid (∀ w, Calls Try.prog 9 #[.float .f64 Y, .float .f64 Z] w fun r w' => r = .returned (.int .i64 (-1)) ∧ w' = w)) (H3 : Hid (∀ w, Calls Try.prog 9 #[.float .f64 X, .float .f64 Z] w fun r w' => r = .returned (.int .i64 (-1)) ∧ w' = w)) (H4 : Hid (∀ w, Calls Try.prog 9 #[.float .f64 Y, .float .f64 X] w fun r w' => r = .returned (.int .i64 1) ∧ w' = w)) (HS : Hid (∀ w, Calls Try.prog 11 #[.float .f64 X, .float .f64 Y] w fun r w' => r = .returned (.bool false) ∧ w' = w)) (w : World) :
    Calls Try.prog 4 #[.float .f64 X, .float .f64 Y, .float .f64 Z] w fun r w' => r = .returned (.bool true) ∧ Below w.heap.size w w' := by
  go_enter Try.func4, Try.ntmps4
  go_wp2_with fail
  refine (live_any _).mono ?_
  rintro r w1 ⟨rfl, b1⟩
  go_wp2_with fail
  refine (H1.out _).mono ?_
  rintro r u1 ⟨rfl, rfl⟩
  go_wp2_with fail
  refine (H2.out _).mono ?_
  rintro r u2 ⟨rfl, rfl⟩
  go_wp2_with fail
  refine (H3.out _).mono ?_
  rintro r u3 ⟨rfl, rfl⟩
  go_wp2_with fail
  refine (H4.out _).mono ?_
  rintro r u4 ⟨rfl, rfl⟩
  go_wp2_with fail
  refine (HS.out _).mono ?_
  rintro r u5 ⟨rfl, rfl⟩
  go_wp2_with fail
  go_ret
  exact ⟨rfl, b1⟩

set_option maxHeartbeats 2000000 in
theorem tot_lllf (X Y Z : Nat) (lt : (FloatKind.f64.format.order X Y == some .lt) = false) (H1 : Hid (∀ w, Calls Try.prog 9 #[.float .f64 X, .float .f64 Y] w fun r w' => r = .returned (.int .i64 (-1)) ∧ w' = w)) (H2 : Hid (∀ w, Calls Try.prog 9 #[.float .f64 Y, .float .f64 Z] w fun r w' => r = .returned (.int .i64 (-1)) ∧ w' = w)) (H3 : Hid (∀ w, Calls Try.prog 9 #[.float .f64 X, .float .f64 Z] w fun r w' => r = .returned (.int .i64 (-1)) ∧ w' = w)) (H4 : Hid (∀ w, Calls Try.prog 9 #[.float .f64 Y, .float .f64 X] w fun r w' => r = .returned (.int .i64 1) ∧ w' = w)) (HS : Hid (∀ w, Calls Try.prog 11 #[.float .f64 X, .float .f64 Y] w fun r w' => r = .returned (.bool false) ∧ w' = w)) (w : World) :
    Calls Try.prog 4 #[.float .f64 X, .float .f64 Y, .float .f64 Z] w fun r w' => r = .returned (.bool true) ∧ Below w.heap.size w w' := by
  go_enter Try.func4, Try.ntmps4
  go_wp2_with fail
  refine (live_any _).mono ?_
  rintro r w1 ⟨rfl, b1⟩
  go_wp2_with fail
  refine (H1.out _).mono ?_
  rintro r u1 ⟨rfl, rfl⟩
  go_wp2_with fail
  refine (H2.out _).mono ?_
  rintro r u2 ⟨rfl, rfl⟩
  go_wp2_with fail
  refine (H3.out _).mono ?_
  rintro r u3 ⟨rfl, rfl⟩
  go_wp2_with fail
  refine (H4.out _).mono ?_
  rintro r u4 ⟨rfl, rfl⟩
  go_wp2_with fail
  refine (HS.out _).mono ?_
  rintro r u5 ⟨rfl, rfl⟩
  go_wp2_with fail
  go_ret
  exact ⟨rfl, b1⟩

set_option maxHeartbeats 2000000 in
theorem tot_lelt (X Y Z : Nat) (lt : (FloatKind.f64.format.order X Y == some .lt) = true) (H1 : Hid (∀ w, Calls Try.prog 9 #[.float .f64 X, .float .f64 Y] w fun r w' => r = .returned (.int .i64 (-1)) ∧ w' = w)) (H2 : Hid (∀ w, Calls Try.prog 9 #[.float .f64 Y, .float .f64 Z] w fun r w' => r = .returned (.int .i64 0) ∧ w' = w)) (H3 : Hid (∀ w, Calls Try.prog 9 #[.float .f64 X, .float .f64 Z] w fun r w' => r = .returned (.int .i64 (-1)) ∧ w' = w)) (H4 : Hid (∀ w, Calls Try.prog 9 #[.float .f64 Y, .float .f64 X] w fun r w' => r = .returned (.int .i64 1) ∧ w' = w)) (HS : Hid (∀ w, Calls Try.prog 11 #[.float .f64 X, .float .f64 Y] w fun r w' => r = .returned (.bool false) ∧ w' = w)) (w : World) :
    Calls Try.prog 4 #[.float .f64 X, .float .f64 Y, .float .f64 Z] w fun r w' => r = .returned (.bool true) ∧ Below w.heap.size w w' := by
  go_enter Try.func4, Try.ntmps4
  go_wp2_with fail
  refine (live_any _).mono ?_
  rintro r w1 ⟨rfl, b1⟩
  go_wp2_with fail
  refine (H1.out _).mono ?_
  rintro r u1 ⟨rfl, rfl⟩
  go_wp2_with fail
  refine (H2.out _).mono ?_
  rintro r u2 ⟨rfl, rfl⟩
  go_wp2_with fail
  refine (H3.out _).mono ?_
  rintro r u3 ⟨rfl, rfl⟩
  go_wp2_with fail
  refine (H4.out _).mono ?_
  rintro r u4 ⟨rfl, rfl⟩
  go_wp2_with fail
  refine (HS.out _).mono ?_
  rintro r u5 ⟨rfl, rfl⟩
  go_wp2_with fail
  go_ret
  exact ⟨rfl, b1⟩

set_option maxHeartbeats 2000000 in
theorem tot_lelf (X Y Z : Nat) (lt : (FloatKind.f64.format.order X Y == some .lt) = false) (H1 : Hid (∀ w, Calls Try.prog 9 #[.float .f64 X, .float .f64 Y] w fun r w' => r = .returned (.int .i64 (-1)) ∧ w' = w)) (H2 : Hid (∀ w, Calls Try.prog 9 #[.float .f64 Y, .float .f64 Z] w fun r w' => r = .returned (.int .i64 0) ∧ w' = w)) (H3 : Hid (∀ w, Calls Try.prog 9 #[.float .f64 X, .float .f64 Z] w fun r w' => r = .returned (.int .i64 (-1)) ∧ w' = w)) (H4 : Hid (∀ w, Calls Try.prog 9 #[.float .f64 Y, .float .f64 X] w fun r w' => r = .returned (.int .i64 1) ∧ w' = w)) (HS : Hid (∀ w, Calls Try.prog 11 #[.float .f64 X, .float .f64 Y] w fun r w' => r = .returned (.bool false) ∧ w' = w)) (w : World) :
    Calls Try.prog 4 #[.float .f64 X, .float .f64 Y, .float .f64 Z] w fun r w' => r = .returned (.bool true) ∧ Below w.heap.size w w' := by
  go_enter Try.func4, Try.ntmps4
  go_wp2_with fail
  refine (live_any _).mono ?_
  rintro r w1 ⟨rfl, b1⟩
  go_wp2_with fail
  refine (H1.out _).mono ?_
  rintro r u1 ⟨rfl, rfl⟩
  go_wp2_with fail
  refine (H2.out _).mono ?_
  rintro r u2 ⟨rfl, rfl⟩
  go_wp2_with fail
  refine (H3.out _).mono ?_
  rintro r u3 ⟨rfl, rfl⟩
  go_wp2_with fail
  refine (H4.out _).mono ?_
  rintro r u4 ⟨rfl, rfl⟩
  go_wp2_with fail
  refine (HS.out _).mono ?_
  rintro r u5 ⟨rfl, rfl⟩
  go_wp2_with fail
  go_ret
  exact ⟨rfl, b1⟩

set_option maxHeartbeats 2000000 in
theorem tot_lglt (X Y Z : Nat) (lt : (FloatKind.f64.format.order X Y == some .lt) = true) (H1 : Hid (∀ w, Calls Try.prog 9 #[.float .f64 X, .float .f64 Y] w fun r w' => r = .returned (.int .i64 (-1)) ∧ w' = w)) (H2 : Hid (∀ w, Calls Try.prog 9 #[.float .f64 Y, .float .f64 Z] w fun r w' => r = .returned (.int .i64 1) ∧ w' = w)) (H3 : Hid (∀ w, Calls Try.prog 9 #[.float .f64 X, .float .f64 Z] w fun r w' => r = .returned (.int .i64 (-1)) ∧ w' = w)) (H4 : Hid (∀ w, Calls Try.prog 9 #[.float .f64 Y, .float .f64 X] w fun r w' => r = .returned (.int .i64 1) ∧ w' = w)) (HS : Hid (∀ w, Calls Try.prog 11 #[.float .f64 X, .float .f64 Y] w fun r w' => r = .returned (.bool false) ∧ w' = w)) (w : World) :
    Calls Try.prog 4 #[.float .f64 X, .float .f64 Y, .float .f64 Z] w fun r w' => r = .returned (.bool true) ∧ Below w.heap.size w w' := by
  go_enter Try.func4, Try.ntmps4
  go_wp2_with fail
  refine (live_any _).mono ?_
  rintro r w1 ⟨rfl, b1⟩
  go_wp2_with fail
  refine (H1.out _).mono ?_
  rintro r u1 ⟨rfl, rfl⟩
  go_wp2_with fail
  refine (H2.out _).mono ?_
  rintro r u2 ⟨rfl, rfl⟩
  go_wp2_with fail
  refine (H3.out _).mono ?_
  rintro r u3 ⟨rfl, rfl⟩
  go_wp2_with fail
  refine (H4.out _).mono ?_
  rintro r u4 ⟨rfl, rfl⟩
  go_wp2_with fail
  refine (HS.out _).mono ?_
  rintro r u5 ⟨rfl, rfl⟩
  go_wp2_with fail
  go_ret
  exact ⟨rfl, b1⟩

set_option maxHeartbeats 2000000 in
theorem tot_lglf (X Y Z : Nat) (lt : (FloatKind.f64.format.order X Y == some .lt) = false) (H1 : Hid (∀ w, Calls Try.prog 9 #[.float .f64 X, .float .f64 Y] w fun r w' => r = .returned (.int .i64 (-1)) ∧ w' = w)) (H2 : Hid (∀ w, Calls Try.prog 9 #[.float .f64 Y, .float .f64 Z] w fun r w' => r = .returned (.int .i64 1) ∧ w' = w)) (H3 : Hid (∀ w, Calls Try.prog 9 #[.float .f64 X, .float .f64 Z] w fun r w' => r = .returned (.int .i64 (-1)) ∧ w' = w)) (H4 : Hid (∀ w, Calls Try.prog 9 #[.float .f64 Y, .float .f64 X] w fun r w' => r = .returned (.int .i64 1) ∧ w' = w)) (HS : Hid (∀ w, Calls Try.prog 11 #[.float .f64 X, .float .f64 Y] w fun r w' => r = .returned (.bool false) ∧ w' = w)) (w : World) :
    Calls Try.prog 4 #[.float .f64 X, .float .f64 Y, .float .f64 Z] w fun r w' => r = .returned (.bool true) ∧ Below w.heap.size w w' := by
  go_enter Try.func4, Try.ntmps4
  go_wp2_with fail
  refine (live_any _).mono ?_
  rintro r w1 ⟨rfl, b1⟩
  go_wp2_with fail
  refine (H1.out _).mono ?_
  rintro r u1 ⟨rfl, rfl⟩
  go_wp2_with fail
  refine (H2.out _).mono ?_
  rintro r u2 ⟨rfl, rfl⟩
  go_wp2_with fail
  refine (H3.out _).mono ?_
  rintro r u3 ⟨rfl, rfl⟩
  go_wp2_with fail
  refine (H4.out _).mono ?_
  rintro r u4 ⟨rfl, rfl⟩
  go_wp2_with fail
  refine (HS.out _).mono ?_
  rintro r u5 ⟨rfl, rfl⟩
  go_wp2_with fail
  go_ret
  exact ⟨rfl, b1⟩

set_option maxHeartbeats 2000000 in
theorem tot_lget (X Y Z : Nat) (lt : (FloatKind.f64.format.order X Y == some .lt) = true) (H1 : Hid (∀ w, Calls Try.prog 9 #[.float .f64 X, .float .f64 Y] w fun r w' => r = .returned (.int .i64 (-1)) ∧ w' = w)) (H2 : Hid (∀ w, Calls Try.prog 9 #[.float .f64 Y, .float .f64 Z] w fun r w' => r = .returned (.int .i64 1) ∧ w' = w)) (H3 : Hid (∀ w, Calls Try.prog 9 #[.float .f64 X, .float .f64 Z] w fun r w' => r = .returned (.int .i64 0) ∧ w' = w)) (H4 : Hid (∀ w, Calls Try.prog 9 #[.float .f64 Y, .float .f64 X] w fun r w' => r = .returned (.int .i64 1) ∧ w' = w)) (HS : Hid (∀ w, Calls Try.prog 11 #[.float .f64 X, .float .f64 Y] w fun r w' => r = .returned (.bool false) ∧ w' = w)) (w : World) :
    Calls Try.prog 4 #[.float .f64 X, .float .f64 Y, .float .f64 Z] w fun r w' => r = .returned (.bool true) ∧ Below w.heap.size w w' := by
  go_enter Try.func4, Try.ntmps4
  go_wp2_with fail
  refine (live_any _).mono ?_
  rintro r w1 ⟨rfl, b1⟩
  go_wp2_with fail
  refine (H1.out _).mono ?_
  rintro r u1 ⟨rfl, rfl⟩
  go_wp2_with fail
  refine (H2.out _).mono ?_
  rintro r u2 ⟨rfl, rfl⟩
  go_wp2_with fail
  refine (H3.out _).mono ?_
  rintro r u3 ⟨rfl, rfl⟩
  go_wp2_with fail
  refine (H4.out _).mono ?_
  rintro r u4 ⟨rfl, rfl⟩
  go_wp2_with fail
  refine (HS.out _).mono ?_
  rintro r u5 ⟨rfl, rfl⟩
  go_wp2_with fail
  go_ret
  exact ⟨rfl, b1⟩

set_option maxHeartbeats 2000000 in
theorem tot_lgef (X Y Z : Nat) (lt : (FloatKind.f64.format.order X Y == some .lt) = false) (H1 : Hid (∀ w, Calls Try.prog 9 #[.float .f64 X, .float .f64 Y] w fun r w' => r = .returned (.int .i64 (-1)) ∧ w' = w)) (H2 : Hid (∀ w, Calls Try.prog 9 #[.float .f64 Y, .float .f64 Z] w fun r w' => r = .returned (.int .i64 1) ∧ w' = w)) (H3 : Hid (∀ w, Calls Try.prog 9 #[.float .f64 X, .float .f64 Z] w fun r w' => r = .returned (.int .i64 0) ∧ w' = w)) (H4 : Hid (∀ w, Calls Try.prog 9 #[.float .f64 Y, .float .f64 X] w fun r w' => r = .returned (.int .i64 1) ∧ w' = w)) (HS : Hid (∀ w, Calls Try.prog 11 #[.float .f64 X, .float .f64 Y] w fun r w' => r = .returned (.bool false) ∧ w' = w)) (w : World) :
    Calls Try.prog 4 #[.float .f64 X, .float .f64 Y, .float .f64 Z] w fun r w' => r = .returned (.bool true) ∧ Below w.heap.size w w' := by
  go_enter Try.func4, Try.ntmps4
  go_wp2_with fail
  refine (live_any _).mono ?_
  rintro r w1 ⟨rfl, b1⟩
  go_wp2_with fail
  refine (H1.out _).mono ?_
  rintro r u1 ⟨rfl, rfl⟩
  go_wp2_with fail
  refine (H2.out _).mono ?_
  rintro r u2 ⟨rfl, rfl⟩
  go_wp2_with fail
  refine (H3.out _).mono ?_
  rintro r u3 ⟨rfl, rfl⟩
  go_wp2_with fail
  refine (H4.out _).mono ?_
  rintro r u4 ⟨rfl, rfl⟩
  go_wp2_with fail
  refine (HS.out _).mono ?_
  rintro r u5 ⟨rfl, rfl⟩
  go_wp2_with fail
  go_ret
  exact ⟨rfl, b1⟩

set_option maxHeartbeats 2000000 in
theorem tot_lggt (X Y Z : Nat) (lt : (FloatKind.f64.format.order X Y == some .lt) = true) (H1 : Hid (∀ w, Calls Try.prog 9 #[.float .f64 X, .float .f64 Y] w fun r w' => r = .returned (.int .i64 (-1)) ∧ w' = w)) (H2 : Hid (∀ w, Calls Try.prog 9 #[.float .f64 Y, .float .f64 Z] w fun r w' => r = .returned (.int .i64 1) ∧ w' = w)) (H3 : Hid (∀ w, Calls Try.prog 9 #[.float .f64 X, .float .f64 Z] w fun r w' => r = .returned (.int .i64 1) ∧ w' = w)) (H4 : Hid (∀ w, Calls Try.prog 9 #[.float .f64 Y, .float .f64 X] w fun r w' => r = .returned (.int .i64 1) ∧ w' = w)) (HS : Hid (∀ w, Calls Try.prog 11 #[.float .f64 X, .float .f64 Y] w fun r w' => r = .returned (.bool false) ∧ w' = w)) (w : World) :
    Calls Try.prog 4 #[.float .f64 X, .float .f64 Y, .float .f64 Z] w fun r w' => r = .returned (.bool true) ∧ Below w.heap.size w w' := by
  go_enter Try.func4, Try.ntmps4
  go_wp2_with fail
  refine (live_any _).mono ?_
  rintro r w1 ⟨rfl, b1⟩
  go_wp2_with fail
  refine (H1.out _).mono ?_
  rintro r u1 ⟨rfl, rfl⟩
  go_wp2_with fail
  refine (H2.out _).mono ?_
  rintro r u2 ⟨rfl, rfl⟩
  go_wp2_with fail
  refine (H3.out _).mono ?_
  rintro r u3 ⟨rfl, rfl⟩
  go_wp2_with fail
  refine (H4.out _).mono ?_
  rintro r u4 ⟨rfl, rfl⟩
  go_wp2_with fail
  refine (HS.out _).mono ?_
  rintro r u5 ⟨rfl, rfl⟩
  go_wp2_with fail
  go_ret
  exact ⟨rfl, b1⟩

set_option maxHeartbeats 2000000 in
theorem tot_lggf (X Y Z : Nat) (lt : (FloatKind.f64.format.order X Y == some .lt) = false) (H1 : Hid (∀ w, Calls Try.prog 9 #[.float .f64 X, .float .f64 Y] w fun r w' => r = .returned (.int .i64 (-1)) ∧ w' = w)) (H2 : Hid (∀ w, Calls Try.prog 9 #[.float .f64 Y, .float .f64 Z] w fun r w' => r = .returned (.int .i64 1) ∧ w' = w)) (H3 : Hid (∀ w, Calls Try.prog 9 #[.float .f64 X, .float .f64 Z] w fun r w' => r = .returned (.int .i64 1) ∧ w' = w)) (H4 : Hid (∀ w, Calls Try.prog 9 #[.float .f64 Y, .float .f64 X] w fun r w' => r = .returned (.int .i64 1) ∧ w' = w)) (HS : Hid (∀ w, Calls Try.prog 11 #[.float .f64 X, .float .f64 Y] w fun r w' => r = .returned (.bool false) ∧ w' = w)) (w : World) :
    Calls Try.prog 4 #[.float .f64 X, .float .f64 Y, .float .f64 Z] w fun r w' => r = .returned (.bool true) ∧ Below w.heap.size w w' := by
  go_enter Try.func4, Try.ntmps4
  go_wp2_with fail
  refine (live_any _).mono ?_
  rintro r w1 ⟨rfl, b1⟩
  go_wp2_with fail
  refine (H1.out _).mono ?_
  rintro r u1 ⟨rfl, rfl⟩
  go_wp2_with fail
  refine (H2.out _).mono ?_
  rintro r u2 ⟨rfl, rfl⟩
  go_wp2_with fail
  refine (H3.out _).mono ?_
  rintro r u3 ⟨rfl, rfl⟩
  go_wp2_with fail
  refine (H4.out _).mono ?_
  rintro r u4 ⟨rfl, rfl⟩
  go_wp2_with fail
  refine (HS.out _).mono ?_
  rintro r u5 ⟨rfl, rfl⟩
  go_wp2_with fail
  go_ret
  exact ⟨rfl, b1⟩

set_option maxHeartbeats 2000000 in
theorem tot_ellf (X Y Z : Nat) (lt : (FloatKind.f64.format.order X Y == some .lt) = false) (H1 : Hid (∀ w, Calls Try.prog 9 #[.float .f64 X, .float .f64 Y] w fun r w' => r = .returned (.int .i64 0) ∧ w' = w)) (H2 : Hid (∀ w, Calls Try.prog 9 #[.float .f64 Y, .float .f64 Z] w fun r w' => r = .returned (.int .i64 (-1)) ∧ w' = w)) (H3 : Hid (∀ w, Calls Try.prog 9 #[.float .f64 X, .float .f64 Z] w fun r w' => r = .returned (.int .i64 (-1)) ∧ w' = w)) (H4 : Hid (∀ w, Calls Try.prog 9 #[.float .f64 Y, .float .f64 X] w fun r w' => r = .returned (.int .i64 0) ∧ w' = w)) (HS : Hid (∀ w, Calls Try.prog 11 #[.float .f64 X, .float .f64 Y] w fun r w' => r = .returned (.bool true) ∧ w' = w)) (w : World) :
    Calls Try.prog 4 #[.float .f64 X, .float .f64 Y, .float .f64 Z] w fun r w' => r = .returned (.bool true) ∧ Below w.heap.size w w' := by
  go_enter Try.func4, Try.ntmps4
  go_wp2_with fail
  refine (live_any _).mono ?_
  rintro r w1 ⟨rfl, b1⟩
  go_wp2_with fail
  refine (H1.out _).mono ?_
  rintro r u1 ⟨rfl, rfl⟩
  go_wp2_with fail
  refine (H2.out _).mono ?_
  rintro r u2 ⟨rfl, rfl⟩
  go_wp2_with fail
  refine (H3.out _).mono ?_
  rintro r u3 ⟨rfl, rfl⟩
  go_wp2_with fail
  refine (H4.out _).mono ?_
  rintro r u4 ⟨rfl, rfl⟩
  go_wp2_with fail
  refine (HS.out _).mono ?_
  rintro r u5 ⟨rfl, rfl⟩
  go_wp2_with fail
  go_ret
  exact ⟨rfl, b1⟩

set_option maxHeartbeats 2000000 in
theorem tot_eeef (X Y Z : Nat) (lt : (FloatKind.f64.format.order X Y == some .lt) = false) (H1 : Hid (∀ w, Calls Try.prog 9 #[.float .f64 X, .float .f64 Y] w fun r w' => r = .returned (.int .i64 0) ∧ w' = w)) (H2 : Hid (∀ w, Calls Try.prog 9 #[.float .f64 Y, .float .f64 Z] w fun r w' => r = .returned (.int .i64 0) ∧ w' = w)) (H3 : Hid (∀ w, Calls Try.prog 9 #[.float .f64 X, .float .f64 Z] w fun r w' => r = .returned (.int .i64 0) ∧ w' = w)) (H4 : Hid (∀ w, Calls Try.prog 9 #[.float .f64 Y, .float .f64 X] w fun r w' => r = .returned (.int .i64 0) ∧ w' = w)) (HS : Hid (∀ w, Calls Try.prog 11 #[.float .f64 X, .float .f64 Y] w fun r w' => r = .returned (.bool true) ∧ w' = w)) (w : World) :
    Calls Try.prog 4 #[.float .f64 X, .float .f64 Y, .float .f64 Z] w fun r w' => r = .returned (.bool true) ∧ Below w.heap.size w w' := by
  go_enter Try.func4, Try.ntmps4
  go_wp2_with fail
  refine (live_any _).mono ?_
  rintro r w1 ⟨rfl, b1⟩
  go_wp2_with fail
  refine (H1.out _).mono ?_
  rintro r u1 ⟨rfl, rfl⟩
  go_wp2_with fail
  refine (H2.out _).mono ?_
  rintro r u2 ⟨rfl, rfl⟩
  go_wp2_with fail
  refine (H3.out _).mono ?_
  rintro r u3 ⟨rfl, rfl⟩
  go_wp2_with fail
  refine (H4.out _).mono ?_
  rintro r u4 ⟨rfl, rfl⟩
  go_wp2_with fail
  refine (HS.out _).mono ?_
  rintro r u5 ⟨rfl, rfl⟩
  go_wp2_with fail
  go_ret
  exact ⟨rfl, b1⟩

set_option maxHeartbeats 2000000 in
theorem tot_eggf (X Y Z : Nat) (lt : (FloatKind.f64.format.order X Y == some .lt) = false) (H1 : Hid (∀ w, Calls Try.prog 9 #[.float .f64 X, .float .f64 Y] w fun r w' => r = .returned (.int .i64 0) ∧ w' = w)) (H2 : Hid (∀ w, Calls Try.prog 9 #[.float .f64 Y, .float .f64 Z] w fun r w' => r = .returned (.int .i64 1) ∧ w' = w)) (H3 : Hid (∀ w, Calls Try.prog 9 #[.float .f64 X, .float .f64 Z] w fun r w' => r = .returned (.int .i64 1) ∧ w' = w)) (H4 : Hid (∀ w, Calls Try.prog 9 #[.float .f64 Y, .float .f64 X] w fun r w' => r = .returned (.int .i64 0) ∧ w' = w)) (HS : Hid (∀ w, Calls Try.prog 11 #[.float .f64 X, .float .f64 Y] w fun r w' => r = .returned (.bool true) ∧ w' = w)) (w : World) :
    Calls Try.prog 4 #[.float .f64 X, .float .f64 Y, .float .f64 Z] w fun r w' => r = .returned (.bool true) ∧ Below w.heap.size w w' := by
  go_enter Try.func4, Try.ntmps4
  go_wp2_with fail
  refine (live_any _).mono ?_
  rintro r w1 ⟨rfl, b1⟩
  go_wp2_with fail
  refine (H1.out _).mono ?_
  rintro r u1 ⟨rfl, rfl⟩
  go_wp2_with fail
  refine (H2.out _).mono ?_
  rintro r u2 ⟨rfl, rfl⟩
  go_wp2_with fail
  refine (H3.out _).mono ?_
  rintro r u3 ⟨rfl, rfl⟩
  go_wp2_with fail
  refine (H4.out _).mono ?_
  rintro r u4 ⟨rfl, rfl⟩
  go_wp2_with fail
  refine (HS.out _).mono ?_
  rintro r u5 ⟨rfl, rfl⟩
  go_wp2_with fail
  go_ret
  exact ⟨rfl, b1⟩

set_option maxHeartbeats 2000000 in
theorem tot_gllf (X Y Z : Nat) (lt : (FloatKind.f64.format.order X Y == some .lt) = false) (H1 : Hid (∀ w, Calls Try.prog 9 #[.float .f64 X, .float .f64 Y] w fun r w' => r = .returned (.int .i64 1) ∧ w' = w)) (H2 : Hid (∀ w, Calls Try.prog 9 #[.float .f64 Y, .float .f64 Z] w fun r w' => r = .returned (.int .i64 (-1)) ∧ w' = w)) (H3 : Hid (∀ w, Calls Try.prog 9 #[.float .f64 X, .float .f64 Z] w fun r w' => r = .returned (.int .i64 (-1)) ∧ w' = w)) (H4 : Hid (∀ w, Calls Try.prog 9 #[.float .f64 Y, .float .f64 X] w fun r w' => r = .returned (.int .i64 (-1)) ∧ w' = w)) (HS : Hid (∀ w, Calls Try.prog 11 #[.float .f64 X, .float .f64 Y] w fun r w' => r = .returned (.bool false) ∧ w' = w)) (w : World) :
    Calls Try.prog 4 #[.float .f64 X, .float .f64 Y, .float .f64 Z] w fun r w' => r = .returned (.bool true) ∧ Below w.heap.size w w' := by
  go_enter Try.func4, Try.ntmps4
  go_wp2_with fail
  refine (live_any _).mono ?_
  rintro r w1 ⟨rfl, b1⟩
  go_wp2_with fail
  refine (H1.out _).mono ?_
  rintro r u1 ⟨rfl, rfl⟩
  go_wp2_with fail
  refine (H2.out _).mono ?_
  rintro r u2 ⟨rfl, rfl⟩
  go_wp2_with fail
  refine (H3.out _).mono ?_
  rintro r u3 ⟨rfl, rfl⟩
  go_wp2_with fail
  refine (H4.out _).mono ?_
  rintro r u4 ⟨rfl, rfl⟩
  go_wp2_with fail
  refine (HS.out _).mono ?_
  rintro r u5 ⟨rfl, rfl⟩
  go_wp2_with fail
  go_ret
  exact ⟨rfl, b1⟩

set_option maxHeartbeats 2000000 in
theorem tot_glef (X Y Z : Nat) (lt : (FloatKind.f64.format.order X Y == some .lt) = false) (H1 : Hid (∀ w, Calls Try.prog 9 #[.float .f64 X, .float .f64 Y] w fun r w' => r = .returned (.int .i64 1) ∧ w' = w)) (H2 : Hid (∀ w, Calls Try.prog 9 #[.float .f64 Y, .float .f64 Z] w fun r w' => r = .returned (.int .i64 (-1)) ∧ w' = w)) (H3 : Hid (∀ w, Calls Try.prog 9 #[.float .f64 X, .float .f64 Z] w fun r w' => r = .returned (.int .i64 0) ∧ w' = w)) (H4 : Hid (∀ w, Calls Try.prog 9 #[.float .f64 Y, .float .f64 X] w fun r w' => r = .returned (.int .i64 (-1)) ∧ w' = w)) (HS : Hid (∀ w, Calls Try.prog 11 #[.float .f64 X, .float .f64 Y] w fun r w' => r = .returned (.bool false) ∧ w' = w)) (w : World) :
    Calls Try.prog 4 #[.float .f64 X, .float .f64 Y, .float .f64 Z] w fun r w' => r = .returned (.bool true) ∧ Below w.heap.size w w' := by
  go_enter Try.func4, Try.ntmps4
  go_wp2_with fail
  refine (live_any _).mono ?_
  rintro r w1 ⟨rfl, b1⟩
  go_wp2_with fail
  refine (H1.out _).mono ?_
  rintro r u1 ⟨rfl, rfl⟩
  go_wp2_with fail
  refine (H2.out _).mono ?_
  rintro r u2 ⟨rfl, rfl⟩
  go_wp2_with fail
  refine (H3.out _).mono ?_
  rintro r u3 ⟨rfl, rfl⟩
  go_wp2_with fail
  refine (H4.out _).mono ?_
  rintro r u4 ⟨rfl, rfl⟩
  go_wp2_with fail
  refine (HS.out _).mono ?_
  rintro r u5 ⟨rfl, rfl⟩
  go_wp2_with fail
  go_ret
  exact ⟨rfl, b1⟩

set_option maxHeartbeats 2000000 in
theorem tot_glgf (X Y Z : Nat) (lt : (FloatKind.f64.format.order X Y == some .lt) = false) (H1 : Hid (∀ w, Calls Try.prog 9 #[.float .f64 X, .float .f64 Y] w fun r w' => r = .returned (.int .i64 1) ∧ w' = w)) (H2 : Hid (∀ w, Calls Try.prog 9 #[.float .f64 Y, .float .f64 Z] w fun r w' => r = .returned (.int .i64 (-1)) ∧ w' = w)) (H3 : Hid (∀ w, Calls Try.prog 9 #[.float .f64 X, .float .f64 Z] w fun r w' => r = .returned (.int .i64 1) ∧ w' = w)) (H4 : Hid (∀ w, Calls Try.prog 9 #[.float .f64 Y, .float .f64 X] w fun r w' => r = .returned (.int .i64 (-1)) ∧ w' = w)) (HS : Hid (∀ w, Calls Try.prog 11 #[.float .f64 X, .float .f64 Y] w fun r w' => r = .returned (.bool false) ∧ w' = w)) (w : World) :
    Calls Try.prog 4 #[.float .f64 X, .float .f64 Y, .float .f64 Z] w fun r w' => r = .returned (.bool true) ∧ Below w.heap.size w w' := by
  go_enter Try.func4, Try.ntmps4
  go_wp2_with fail
  refine (live_any _).mono ?_
  rintro r w1 ⟨rfl, b1⟩
  go_wp2_with fail
  refine (H1.out _).mono ?_
  rintro r u1 ⟨rfl, rfl⟩
  go_wp2_with fail
  refine (H2.out _).mono ?_
  rintro r u2 ⟨rfl, rfl⟩
  go_wp2_with fail
  refine (H3.out _).mono ?_
  rintro r u3 ⟨rfl, rfl⟩
  go_wp2_with fail
  refine (H4.out _).mono ?_
  rintro r u4 ⟨rfl, rfl⟩
  go_wp2_with fail
  refine (HS.out _).mono ?_
  rintro r u5 ⟨rfl, rfl⟩
  go_wp2_with fail
  go_ret
  exact ⟨rfl, b1⟩

set_option maxHeartbeats 2000000 in
theorem tot_gegf (X Y Z : Nat) (lt : (FloatKind.f64.format.order X Y == some .lt) = false) (H1 : Hid (∀ w, Calls Try.prog 9 #[.float .f64 X, .float .f64 Y] w fun r w' => r = .returned (.int .i64 1) ∧ w' = w)) (H2 : Hid (∀ w, Calls Try.prog 9 #[.float .f64 Y, .float .f64 Z] w fun r w' => r = .returned (.int .i64 0) ∧ w' = w)) (H3 : Hid (∀ w, Calls Try.prog 9 #[.float .f64 X, .float .f64 Z] w fun r w' => r = .returned (.int .i64 1) ∧ w' = w)) (H4 : Hid (∀ w, Calls Try.prog 9 #[.float .f64 Y, .float .f64 X] w fun r w' => r = .returned (.int .i64 (-1)) ∧ w' = w)) (HS : Hid (∀ w, Calls Try.prog 11 #[.float .f64 X, .float .f64 Y] w fun r w' => r = .returned (.bool false) ∧ w' = w)) (w : World) :
    Calls Try.prog 4 #[.float .f64 X, .float .f64 Y, .float .f64 Z] w fun r w' => r = .returned (.bool true) ∧ Below w.heap.size w w' := by
  go_enter Try.func4, Try.ntmps4
  go_wp2_with fail
  refine (live_any _).mono ?_
  rintro r w1 ⟨rfl, b1⟩
  go_wp2_with fail
  refine (H1.out _).mono ?_
  rintro r u1 ⟨rfl, rfl⟩
  go_wp2_with fail
  refine (H2.out _).mono ?_
  rintro r u2 ⟨rfl, rfl⟩
  go_wp2_with fail
  refine (H3.out _).mono ?_
  rintro r u3 ⟨rfl, rfl⟩
  go_wp2_with fail
  refine (H4.out _).mono ?_
  rintro r u4 ⟨rfl, rfl⟩
  go_wp2_with fail
  refine (HS.out _).mono ?_
  rintro r u5 ⟨rfl, rfl⟩
  go_wp2_with fail
  go_ret
  exact ⟨rfl, b1⟩

set_option maxHeartbeats 2000000 in
theorem tot_gggf (X Y Z : Nat) (lt : (FloatKind.f64.format.order X Y == some .lt) = false) (H1 : Hid (∀ w, Calls Try.prog 9 #[.float .f64 X, .float .f64 Y] w fun r w' => r = .returned (.int .i64 1) ∧ w' = w)) (H2 : Hid (∀ w, Calls Try.prog 9 #[.float .f64 Y, .float .f64 Z] w fun r w' => r = .returned (.int .i64 1) ∧ w' = w)) (H3 : Hid (∀ w, Calls Try.prog 9 #[.float .f64 X, .float .f64 Z] w fun r w' => r = .returned (.int .i64 1) ∧ w' = w)) (H4 : Hid (∀ w, Calls Try.prog 9 #[.float .f64 Y, .float .f64 X] w fun r w' => r = .returned (.int .i64 (-1)) ∧ w' = w)) (HS : Hid (∀ w, Calls Try.prog 11 #[.float .f64 X, .float .f64 Y] w fun r w' => r = .returned (.bool false) ∧ w' = w)) (w : World) :
    Calls Try.prog 4 #[.float .f64 X, .float .f64 Y, .float .f64 Z] w fun r w' => r = .returned (.bool true) ∧ Below w.heap.size w w' := by
  go_enter Try.func4, Try.ntmps4
  go_wp2_with fail
  refine (live_any _).mono ?_
  rintro r w1 ⟨rfl, b1⟩
  go_wp2_with fail
  refine (H1.out _).mono ?_
  rintro r u1 ⟨rfl, rfl⟩
  go_wp2_with fail
  refine (H2.out _).mono ?_
  rintro r u2 ⟨rfl, rfl⟩
  go_wp2_with fail
  refine (H3.out _).mono ?_
  rintro r u3 ⟨rfl, rfl⟩
  go_wp2_with fail
  refine (H4.out _).mono ?_
  rintro r u4 ⟨rfl, rfl⟩
  go_wp2_with fail
  refine (HS.out _).mono ?_
  rintro r u5 ⟨rfl, rfl⟩
  go_wp2_with fail
  go_ret
  exact ⟨rfl, b1⟩
end Go.Proofs.Ytedknjiipmppgab
