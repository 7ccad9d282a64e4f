/- What Widen, value32, innerBits, takesOuter, taken and Narrow answer, over what their callees answer and how numbers compare. -/
import Derived.Test.YtedknjiipmppgabW6
import Derived.Test.YtedknjiipmppgabN1
namespace Go.Proofs.Ytedknjiipmppgab
open Go.RowKit
attribute [local go_sem] f64bits f64frombits f32bits f32frombits
set_option linter.unusedVariables false

set_option maxHeartbeats 2000000 in
theorem widen_num (X B : Nat) (o : (FloatKind.f32.format.order X X != some .eq) = false) (cv : ∀ w, (convert 27 22 (.float .f32 X)).run Try.prog w = .ok (.float .f64 B) w) (w : World) :
    Calls Try.prog 15 #[.float .f32 X] w fun r w' => r = .returned (.float .f64 B) ∧ w' = w := by
  go_enter Try.func15, Try.ntmps15
  go_wp2
  go_ret
  exact ⟨rfl, rfl⟩

set_option maxHeartbeats 2000000 in
theorem widen_nan (X : Nat) (o : (FloatKind.f32.format.order X X != some .eq) = true) (w : World) :
    Calls Try.prog 15 #[.float .f32 X] w fun r w' => r = .returned (.float .f64 9221120237041090560) ∧ w' = w := by
  go_enter Try.func15, Try.ntmps15
  go_wp2_with (first
    | (go_at_call 38; refine (nan_any _).mono ?_; rintro r w1 ⟨rfl, rfl⟩)
    | (go_at_call 38; refine (nan_any _).mono ?_; rintro r w1 ⟨rfl, rfl⟩))
  go_ret
  exact ⟨rfl, rfl⟩

set_option maxHeartbeats 2000000 in
theorem val32_num (r : Int) (B : Nat) (h : (r == 2139095040) = false) (H : Hid (∀ w, Calls Try.prog 15 #[.float .f32 r.toNat] w fun r w' => r = .returned (.float .f64 B) ∧ w' = w)) (w : World) :
    Calls Try.prog 51 #[.int .u32 r] w fun r w' => r = .returned (.float .f64 B) ∧ w' = w := by
  go_enter Try.func51, Try.ntmps51
  go_wp2_with (first
    | (go_at_call 15; refine (H.out _).mono ?_; rintro r w1 ⟨rfl, rfl⟩)
    | (go_at_call 15; refine (H.out _).mono ?_; rintro r w1 ⟨rfl, rfl⟩))
  go_ret
  exact ⟨rfl, rfl⟩

set_option maxHeartbeats 2000000 in
theorem val32_end  (w : World) :
    Calls Try.prog 51 #[.int .u32 2139095040] w fun r w' => r = .returned (.float .f64 5183643171103440896) ∧ w' = w := by
  go_enter Try.func51, Try.ntmps51
  go_wp2_with fail
  go_ret
  exact ⟨rfl, rfl⟩

set_option maxHeartbeats 2000000 in
theorem inner_big (X : Nat) (o : (FloatKind.f64.format.order X 5183643170566569984 == some .gt || FloatKind.f64.format.order X 5183643170566569984 == some .eq) = true) (w : World) :
    Calls Try.prog 31 #[.float .f64 X] w fun r w' => r = .returned (.int .u32 2139095039) ∧ w' = w := by
  go_enter Try.func31, Try.ntmps31
  go_wp2_with fail
  go_ret
  exact ⟨rfl, rfl⟩

set_option maxHeartbeats 2000000 in
theorem inner_at (X R L : Nat) (o : (FloatKind.f64.format.order X 5183643170566569984 == some .gt || FloatKind.f64.format.order X 5183643170566569984 == some .eq) = false) (hR : R ≤ 2139095039) (cv : ∀ w, (convert 22 27 (.float .f64 X)).run Try.prog w = .ok (.float .f32 R) w) (H : Hid (∀ w, Calls Try.prog 51 #[.int .u32 (R : Nat)] w fun r w' => r = .returned (.float .f64 L) ∧ w' = w)) (o2 : (FloatKind.f64.format.order L X == some .gt) = false) (w : World) :
    Calls Try.prog 31 #[.float .f64 X] w fun r w' => r = .returned (.int .u32 (R : Nat)) ∧ w' = w := by
  go_enter Try.func31, Try.ntmps31
  go_wp2_with (first
    | (go_at_call 51; refine (H.out _).mono ?_; rintro r w1 ⟨rfl, rfl⟩)
    | (go_at_call 51; refine (H.out _).mono ?_; rintro r w1 ⟨rfl, rfl⟩))
  go_ret
  exact ⟨rfl, rfl⟩

set_option maxHeartbeats 2000000 in
theorem inner_below (X R L : Nat) (o : (FloatKind.f64.format.order X 5183643170566569984 == some .gt || FloatKind.f64.format.order X 5183643170566569984 == some .eq) = false) (hR : R ≤ 2139095039) (cv : ∀ w, (convert 22 27 (.float .f64 X)).run Try.prog w = .ok (.float .f32 R) w) (H : Hid (∀ w, Calls Try.prog 51 #[.int .u32 (R : Nat)] w fun r w' => r = .returned (.float .f64 L) ∧ w' = w)) (h0 : 1 ≤ R) (Q : Nat) (hQ : Hid (Q + 1 = R)) (o2 : (FloatKind.f64.format.order L X == some .gt) = true) (w : World) :
    Calls Try.prog 31 #[.float .f64 X] w fun r w' => r = .returned (.int .u32 (Q : Nat)) ∧ w' = w := by
  go_enter Try.func31, Try.ntmps31
  go_wp2_with (first
    | (go_at_call 51; refine (H.out _).mono ?_; rintro r w1 ⟨rfl, rfl⟩)
    | (go_at_call 51; refine (H.out _).mono ?_; rintro r w1 ⟨rfl, rfl⟩))
  go_ret
  exact ⟨ret_u32 (by have := hQ.out; omega), rfl⟩

set_option maxHeartbeats 2000000 in
theorem takes_same (X L : Nat) (q k : Int) (H1 : Hid (∀ w, Calls Try.prog 51 #[.int .u32 q] w fun r w' => r = .returned (.float .f64 L) ∧ w' = w)) (o : (FloatKind.f64.format.order X L == some .eq) = true) (w : World) :
    Calls Try.prog 32 #[.float .f64 X, .int .u32 q, .int .i64 k] w fun r w' => r = .returned (.bool false) ∧ w' = w := by
  go_enter Try.func32, Try.ntmps32
  go_wp2_with (first
    | (go_at_call 51; refine (H1.out _).mono ?_; rintro r w1 ⟨rfl, rfl⟩)
    | (go_at_call 51; refine (H1.out _).mono ?_; rintro r w1 ⟨rfl, rfl⟩))
  go_ret
  exact ⟨rfl, rfl⟩

set_option maxHeartbeats 2000000 in
theorem takes_out (X L M D Hf Md : Nat) (q : Int) (hq0 : 0 ≤ q) (hq1 : q ≤ 2139095039) (H1 : Hid (∀ w, Calls Try.prog 51 #[.int .u32 q] w fun r w' => r = .returned (.float .f64 L) ∧ w' = w)) (H2 : Hid (∀ w, Calls Try.prog 51 #[.int .u32 (q + 1)] w fun r w' => r = .returned (.float .f64 M) ∧ w' = w)) (o : (FloatKind.f64.format.order X L == some .eq) = false) (d1 : ∀ w, (binOp .sub 22 (.float .f64 M) (.float .f64 L)).run Try.prog w = .ok (.float .f64 D) w) (d2 : ∀ w, (binOp .quo 22 (.float .f64 D) (.float .f64 4611686018427387904)).run Try.prog w = .ok (.float .f64 Hf) w) (d3 : ∀ w, (binOp .add 22 (.float .f64 L) (.float .f64 Hf)).run Try.prog w = .ok (.float .f64 Md) w) (w : World) :
    Calls Try.prog 32 #[.float .f64 X, .int .u32 q, .int .i64 1] w fun r w' => r = .returned (.bool true) ∧ w' = w := by
  go_enter Try.func32, Try.ntmps32
  go_wp2_with fail
  refine (H1.out _).mono ?_
  rintro r w1 ⟨rfl, rfl⟩
  go_wp2_with fail
  refine (H2.out _).mono ?_
  rintro r w1 ⟨rfl, rfl⟩
  go_wp2_with fail
  go_ret
  exact ⟨rfl, rfl⟩

set_option maxHeartbeats 2000000 in
theorem takes_in (X L M D Hf Md : Nat) (q : Int) (hq0 : 0 ≤ q) (hq1 : q ≤ 2139095039) (H1 : Hid (∀ w, Calls Try.prog 51 #[.int .u32 q] w fun r w' => r = .returned (.float .f64 L) ∧ w' = w)) (H2 : Hid (∀ w, Calls Try.prog 51 #[.int .u32 (q + 1)] w fun r w' => r = .returned (.float .f64 M) ∧ w' = w)) (o : (FloatKind.f64.format.order X L == some .eq) = false) (d1 : ∀ w, (binOp .sub 22 (.float .f64 M) (.float .f64 L)).run Try.prog w = .ok (.float .f64 D) w) (d2 : ∀ w, (binOp .quo 22 (.float .f64 D) (.float .f64 4611686018427387904)).run Try.prog w = .ok (.float .f64 Hf) w) (d3 : ∀ w, (binOp .add 22 (.float .f64 L) (.float .f64 Hf)).run Try.prog w = .ok (.float .f64 Md) w) (w : World) :
    Calls Try.prog 32 #[.float .f64 X, .int .u32 q, .int .i64 0] w fun r w' => r = .returned (.bool false) ∧ w' = w := by
  go_enter Try.func32, Try.ntmps32
  go_wp2_with fail
  refine (H1.out _).mono ?_
  rintro r w1 ⟨rfl, rfl⟩
  go_wp2_with fail
  refine (H2.out _).mono ?_
  rintro r w1 ⟨rfl, rfl⟩
  go_wp2_with fail
  go_ret
  exact ⟨rfl, rfl⟩

set_option maxHeartbeats 2000000 in
theorem takes_even_gt (X L M D Hf Md : Nat) (q : Int) (hq0 : 0 ≤ q) (hq1 : q ≤ 2139095039) (H1 : Hid (∀ w, Calls Try.prog 51 #[.int .u32 q] w fun r w' => r = .returned (.float .f64 L) ∧ w' = w)) (H2 : Hid (∀ w, Calls Try.prog 51 #[.int .u32 (q + 1)] w fun r w' => r = .returned (.float .f64 M) ∧ w' = w)) (o : (FloatKind.f64.format.order X L == some .eq) = false) (d1 : ∀ w, (binOp .sub 22 (.float .f64 M) (.float .f64 L)).run Try.prog w = .ok (.float .f64 D) w) (d2 : ∀ w, (binOp .quo 22 (.float .f64 D) (.float .f64 4611686018427387904)).run Try.prog w = .ok (.float .f64 Hf) w) (d3 : ∀ w, (binOp .add 22 (.float .f64 L) (.float .f64 Hf)).run Try.prog w = .ok (.float .f64 Md) w) (m : (FloatKind.f64.format.order X Md == some .gt) = true) (w : World) :
    Calls Try.prog 32 #[.float .f64 X, .int .u32 q, .int .i64 2] w fun r w' => r = .returned (.bool true) ∧ w' = w := by
  go_enter Try.func32, Try.ntmps32
  go_wp2_with fail
  refine (H1.out _).mono ?_
  rintro r w1 ⟨rfl, rfl⟩
  go_wp2_with fail
  refine (H2.out _).mono ?_
  rintro r w1 ⟨rfl, rfl⟩
  go_wp2_with fail
  go_ret
  exact ⟨rfl, rfl⟩

set_option maxHeartbeats 2000000 in
theorem takes_even_lt (X L M D Hf Md : Nat) (q : Int) (hq0 : 0 ≤ q) (hq1 : q ≤ 2139095039) (H1 : Hid (∀ w, Calls Try.prog 51 #[.int .u32 q] w fun r w' => r = .returned (.float .f64 L) ∧ w' = w)) (H2 : Hid (∀ w, Calls Try.prog 51 #[.int .u32 (q + 1)] w fun r w' => r = .returned (.float .f64 M) ∧ w' = w)) (o : (FloatKind.f64.format.order X L == some .eq) = false) (d1 : ∀ w, (binOp .sub 22 (.float .f64 M) (.float .f64 L)).run Try.prog w = .ok (.float .f64 D) w) (d2 : ∀ w, (binOp .quo 22 (.float .f64 D) (.float .f64 4611686018427387904)).run Try.prog w = .ok (.float .f64 Hf) w) (d3 : ∀ w, (binOp .add 22 (.float .f64 L) (.float .f64 Hf)).run Try.prog w = .ok (.float .f64 Md) w) (m : (FloatKind.f64.format.order X Md == some .gt) = false) (m2 : (FloatKind.f64.format.order X Md == some .eq) = false) (w : World) :
    Calls Try.prog 32 #[.float .f64 X, .int .u32 q, .int .i64 2] w fun r w' => r = .returned (.bool false) ∧ w' = w := by
  go_enter Try.func32, Try.ntmps32
  go_wp2_with fail
  refine (H1.out _).mono ?_
  rintro r w1 ⟨rfl, rfl⟩
  go_wp2_with fail
  refine (H2.out _).mono ?_
  rintro r w1 ⟨rfl, rfl⟩
  go_wp2_with fail
  go_ret
  exact ⟨rfl, rfl⟩

set_option maxHeartbeats 2000000 in
theorem takes_even_eq (X L M D Hf Md : Nat) (q : Int) (hq0 : 0 ≤ q) (hq1 : q ≤ 2139095039) (H1 : Hid (∀ w, Calls Try.prog 51 #[.int .u32 q] w fun r w' => r = .returned (.float .f64 L) ∧ w' = w)) (H2 : Hid (∀ w, Calls Try.prog 51 #[.int .u32 (q + 1)] w fun r w' => r = .returned (.float .f64 M) ∧ w' = w)) (o : (FloatKind.f64.format.order X L == some .eq) = false) (d1 : ∀ w, (binOp .sub 22 (.float .f64 M) (.float .f64 L)).run Try.prog w = .ok (.float .f64 D) w) (d2 : ∀ w, (binOp .quo 22 (.float .f64 D) (.float .f64 4611686018427387904)).run Try.prog w = .ok (.float .f64 Hf) w) (d3 : ∀ w, (binOp .add 22 (.float .f64 L) (.float .f64 Hf)).run Try.prog w = .ok (.float .f64 Md) w) (b : Bool) (m : (FloatKind.f64.format.order X Md == some .gt) = false) (m2 : (FloatKind.f64.format.order X Md == some .eq) = true) (m3 : (bits .and .u32 q 1 == 1) = b) (w : World) :
    Calls Try.prog 32 #[.float .f64 X, .int .u32 q, .int .i64 2] w fun r w' => r = .returned (.bool b) ∧ w' = w := by
  go_enter Try.func32, Try.ntmps32
  go_wp2_with fail
  refine (H1.out _).mono ?_
  rintro r w1 ⟨rfl, rfl⟩
  go_wp2_with fail
  refine (H2.out _).mono ?_
  rintro r w1 ⟨rfl, rfl⟩
  go_wp2_with fail
  go_ret
  exact ⟨rfl, rfl⟩

set_option maxHeartbeats 2000000 in
theorem takes_away (X L M D Hf Md : Nat) (q : Int) (hq0 : 0 ≤ q) (hq1 : q ≤ 2139095039) (H1 : Hid (∀ w, Calls Try.prog 51 #[.int .u32 q] w fun r w' => r = .returned (.float .f64 L) ∧ w' = w)) (H2 : Hid (∀ w, Calls Try.prog 51 #[.int .u32 (q + 1)] w fun r w' => r = .returned (.float .f64 M) ∧ w' = w)) (o : (FloatKind.f64.format.order X L == some .eq) = false) (d1 : ∀ w, (binOp .sub 22 (.float .f64 M) (.float .f64 L)).run Try.prog w = .ok (.float .f64 D) w) (d2 : ∀ w, (binOp .quo 22 (.float .f64 D) (.float .f64 4611686018427387904)).run Try.prog w = .ok (.float .f64 Hf) w) (d3 : ∀ w, (binOp .add 22 (.float .f64 L) (.float .f64 Hf)).run Try.prog w = .ok (.float .f64 Md) w) (b : Bool) (m : (FloatKind.f64.format.order X Md == some .gt || FloatKind.f64.format.order X Md == some .eq) = b) (w : World) :
    Calls Try.prog 32 #[.float .f64 X, .int .u32 q, .int .i64 3] w fun r w' => r = .returned (.bool b) ∧ w' = w := by
  go_enter Try.func32, Try.ntmps32
  go_wp2_with fail
  refine (H1.out _).mono ?_
  rintro r w1 ⟨rfl, rfl⟩
  go_wp2_with fail
  refine (H2.out _).mono ?_
  rintro r w1 ⟨rfl, rfl⟩
  go_wp2_with fail
  go_ret
  exact ⟨rfl, rfl⟩

set_option maxHeartbeats 2000000 in
theorem taken_0p  (w : World) :
    Calls Try.prog 33 #[.int .i64 0, .bool false] w fun r w' => r = .returned (.int .i64 2) ∧ Below w.heap.size w w' := by
  go_enter Try.func33, Try.ntmps33
  go_wp2
  go_ret
  exact ⟨rfl, (by repeat (first | exact Below.refl _ _ | assumption | exact Nat.le_refl _ | (simp; done) | (simp; omega) | refine Below.alloc ?_ ?_ _ | refine Below.setCell ?_ ?_ _ | refine Below.drew ?_))⟩

set_option maxHeartbeats 2000000 in
theorem taken_0n  (w : World) :
    Calls Try.prog 33 #[.int .i64 0, .bool true] w fun r w' => r = .returned (.int .i64 2) ∧ Below w.heap.size w w' := by
  go_enter Try.func33, Try.ntmps33
  go_wp2
  go_ret
  exact ⟨rfl, (by repeat (first | exact Below.refl _ _ | assumption | exact Nat.le_refl _ | (simp; done) | (simp; omega) | refine Below.alloc ?_ ?_ _ | refine Below.setCell ?_ ?_ _ | refine Below.drew ?_))⟩

set_option maxHeartbeats 2000000 in
theorem taken_1p  (w : World) :
    Calls Try.prog 33 #[.int .i64 1, .bool false] w fun r w' => r = .returned (.int .i64 0) ∧ Below w.heap.size w w' := by
  go_enter Try.func33, Try.ntmps33
  go_wp2
  go_ret
  exact ⟨rfl, (by repeat (first | exact Below.refl _ _ | assumption | exact Nat.le_refl _ | (simp; done) | (simp; omega) | refine Below.alloc ?_ ?_ _ | refine Below.setCell ?_ ?_ _ | refine Below.drew ?_))⟩

set_option maxHeartbeats 2000000 in
theorem taken_1n  (w : World) :
    Calls Try.prog 33 #[.int .i64 1, .bool true] w fun r w' => r = .returned (.int .i64 0) ∧ Below w.heap.size w w' := by
  go_enter Try.func33, Try.ntmps33
  go_wp2
  go_ret
  exact ⟨rfl, (by repeat (first | exact Below.refl _ _ | assumption | exact Nat.le_refl _ | (simp; done) | (simp; omega) | refine Below.alloc ?_ ?_ _ | refine Below.setCell ?_ ?_ _ | refine Below.drew ?_))⟩

set_option maxHeartbeats 2000000 in
theorem taken_2p  (w : World) :
    Calls Try.prog 33 #[.int .i64 2, .bool false] w fun r w' => r = .returned (.int .i64 1) ∧ Below w.heap.size w w' := by
  go_enter Try.func33, Try.ntmps33
  go_wp2
  go_ret
  exact ⟨rfl, (by repeat (first | exact Below.refl _ _ | assumption | exact Nat.le_refl _ | (simp; done) | (simp; omega) | refine Below.alloc ?_ ?_ _ | refine Below.setCell ?_ ?_ _ | refine Below.drew ?_))⟩

set_option maxHeartbeats 2000000 in
theorem taken_2n  (w : World) :
    Calls Try.prog 33 #[.int .i64 2, .bool true] w fun r w' => r = .returned (.int .i64 0) ∧ Below w.heap.size w w' := by
  go_enter Try.func33, Try.ntmps33
  go_wp2
  go_ret
  exact ⟨rfl, (by repeat (first | exact Below.refl _ _ | assumption | exact Nat.le_refl _ | (simp; done) | (simp; omega) | refine Below.alloc ?_ ?_ _ | refine Below.setCell ?_ ?_ _ | refine Below.drew ?_))⟩

set_option maxHeartbeats 2000000 in
theorem taken_3p  (w : World) :
    Calls Try.prog 33 #[.int .i64 3, .bool false] w fun r w' => r = .returned (.int .i64 0) ∧ Below w.heap.size w w' := by
  go_enter Try.func33, Try.ntmps33
  go_wp2
  go_ret
  exact ⟨rfl, (by repeat (first | exact Below.refl _ _ | assumption | exact Nat.le_refl _ | (simp; done) | (simp; omega) | refine Below.alloc ?_ ?_ _ | refine Below.setCell ?_ ?_ _ | refine Below.drew ?_))⟩

set_option maxHeartbeats 2000000 in
theorem taken_3n  (w : World) :
    Calls Try.prog 33 #[.int .i64 3, .bool true] w fun r w' => r = .returned (.int .i64 1) ∧ Below w.heap.size w w' := by
  go_enter Try.func33, Try.ntmps33
  go_wp2
  go_ret
  exact ⟨rfl, (by repeat (first | exact Below.refl _ _ | assumption | exact Nat.le_refl _ | (simp; done) | (simp; omega) | refine Below.alloc ?_ ?_ _ | refine Below.setCell ?_ ?_ _ | refine Below.drew ?_))⟩

set_option maxHeartbeats 2000000 in
theorem taken_4p  (w : World) :
    Calls Try.prog 33 #[.int .i64 4, .bool false] w fun r w' => r = .returned (.int .i64 3) ∧ Below w.heap.size w w' := by
  go_enter Try.func33, Try.ntmps33
  go_wp2
  go_ret
  exact ⟨rfl, (by repeat (first | exact Below.refl _ _ | assumption | exact Nat.le_refl _ | (simp; done) | (simp; omega) | refine Below.alloc ?_ ?_ _ | refine Below.setCell ?_ ?_ _ | refine Below.drew ?_))⟩

set_option maxHeartbeats 2000000 in
theorem taken_4n  (w : World) :
    Calls Try.prog 33 #[.int .i64 4, .bool true] w fun r w' => r = .returned (.int .i64 3) ∧ Below w.heap.size w w' := by
  go_enter Try.func33, Try.ntmps33
  go_wp2
  go_ret
  exact ⟨rfl, (by repeat (first | exact Below.refl _ _ | assumption | exact Nat.le_refl _ | (simp; done) | (simp; omega) | refine Below.alloc ?_ ?_ _ | refine Below.setCell ?_ ?_ _ | refine Below.drew ?_))⟩

set_option maxHeartbeats 2000000 in
theorem nar_low (X : Nat) (k : Int) (h : k < 0) (w : World) :
    Calls Try.prog 12 #[.float .f64 X, .int .i64 k] w fun r w' => r = .returned (.tuple #[.float .f32 0, .int .i64 1]) ∧ w' = w := by
  go_enter Try.func12, Try.ntmps12
  go_wp2_with fail
  go_ret2
  exact ⟨rfl, rfl⟩

set_option maxHeartbeats 2000000 in
theorem nar_high (X : Nat) (k : Int) (h : 4 < k) (w : World) :
    Calls Try.prog 12 #[.float .f64 X, .int .i64 k] w fun r w' => r = .returned (.tuple #[.float .f32 0, .int .i64 1]) ∧ w' = w := by
  have h0 : ¬ k < 0 := by omega
  go_enter Try.func12, Try.ntmps12
  go_wp2_with fail
  go_ret2
  exact ⟨rfl, rfl⟩

set_option maxHeartbeats 2000000 in
theorem nar_odd (X : Nat) (k : Int) (k0 : 0 ≤ k) (k4 : k ≤ 4) (s : Bool) (x g : Int) (H0 : Hid (∀ w, Calls Try.prog 22 #[.float .f64 X] w fun r w' => r = .returned (.agg #[.bool s, .int .i64 4, .int .i64 x, .int .u64 g]) ∧ Below w.heap.size w w')) (w : World) :
    Calls Try.prog 12 #[.float .f64 X, .int .i64 k] w fun r w' => r = .returned (.tuple #[.float .f32 2143289344, .int .i64 0]) ∧ Below w.heap.size w w' := by
  go_enter Try.func12, Try.ntmps12
  go_wp2_with fail
  refine (H0.out _).mono ?_
  rintro r w1 ⟨rfl, hb⟩
  go_wp2_with fail
  go_ret2
  exact ⟨rfl, hb.alloc hb.size _⟩

set_option maxHeartbeats 2000000 in
theorem nar_zero (X B : Nat) (k : Int) (k0 : 0 ≤ k) (k4 : k ≤ 4) (s : Bool) (x g : Int) (H0 : Hid (∀ w, Calls Try.prog 22 #[.float .f64 X] w fun r w' => r = .returned (.agg #[.bool s, .int .i64 0, .int .i64 x, .int .u64 g]) ∧ Below w.heap.size w w')) (cv : ∀ w, (convert 22 27 (.float .f64 X)).run Try.prog w = .ok (.float .f32 B) w) (w : World) :
    Calls Try.prog 12 #[.float .f64 X, .int .i64 k] w fun r w' => r = .returned (.tuple #[.float .f32 B, .int .i64 0]) ∧ Below w.heap.size w w' := by
  go_enter Try.func12, Try.ntmps12
  go_wp2_with fail
  refine (H0.out _).mono ?_
  rintro r w1 ⟨rfl, hb⟩
  go_wp2_with fail
  go_ret2
  exact ⟨rfl, hb.alloc hb.size _⟩

set_option maxHeartbeats 2000000 in
theorem nar_end (X B : Nat) (k : Int) (k0 : 0 ≤ k) (k4 : k ≤ 4) (s : Bool) (x g : Int) (H0 : Hid (∀ w, Calls Try.prog 22 #[.float .f64 X] w fun r w' => r = .returned (.agg #[.bool s, .int .i64 3, .int .i64 x, .int .u64 g]) ∧ Below w.heap.size w w')) (cv : ∀ w, (convert 22 27 (.float .f64 X)).run Try.prog w = .ok (.float .f32 B) w) (w : World) :
    Calls Try.prog 12 #[.float .f64 X, .int .i64 k] w fun r w' => r = .returned (.tuple #[.float .f32 B, .int .i64 0]) ∧ Below w.heap.size w w' := by
  go_enter Try.func12, Try.ntmps12
  go_wp2_with fail
  refine (H0.out _).mono ?_
  rintro r w1 ⟨rfl, hb⟩
  go_wp2_with fail
  go_ret2
  exact ⟨rfl, hb.alloc hb.size _⟩

set_option maxHeartbeats 2000000 in
theorem nar_fin_ff (X A : Nat) (k : Int) (k0 : 0 ≤ k) (k4 : k ≤ 4) (c x g q y : Int) (c4 : (c == 4) = false) (c0 : (c == 0) = false) (c3 : (c == 3) = false) (q0 : 0 ≤ q) (q1 : q ≤ 2139095039) (H0 : Hid (∀ w, Calls Try.prog 22 #[.float .f64 X] w fun r w' => r = .returned (.agg #[.bool false, .int .i64 c, .int .i64 x, .int .u64 g]) ∧ Below w.heap.size w w')) (H1 : Hid (∀ w, Calls Try.prog 30 #[.float .f64 X] w fun r w' => r = .returned (.float .f64 A) ∧ w' = w)) (H2 : Hid (∀ w, Calls Try.prog 31 #[.float .f64 A] w fun r w' => r = .returned (.int .u32 q) ∧ w' = w)) (H3 : Hid (∀ w, Calls Try.prog 33 #[.int .i64 k, .bool false] w fun r w' => r = .returned (.int .i64 y) ∧ Below w.heap.size w w')) (H4 : Hid (∀ w, Calls Try.prog 32 #[.float .f64 A, .int .u32 q, .int .i64 y] w fun r w' => r = .returned (.bool false) ∧ w' = w)) (w : World) :
    Calls Try.prog 12 #[.float .f64 X, .int .i64 k] w fun r w' => r = .returned (.tuple #[.float .f32 ((q : Int).toNat), .int .i64 0]) ∧ Below w.heap.size w w' := by
  go_enter Try.func12, Try.ntmps12
  go_wp2_with fail
  refine (H0.out _).mono ?_
  rintro r w1 ⟨rfl, hb⟩
  go_wp2_with fail
  refine (H1.out _).mono ?_
  rintro r w2 ⟨rfl, rfl⟩
  go_wp2_with fail
  refine (H2.out _).mono ?_
  rintro r w2 ⟨rfl, rfl⟩
  go_wp2_with fail
  refine (H3.out _).mono ?_
  rintro r w3 ⟨rfl, hb3⟩
  obtain ⟨hc, hfz⟩ := bcell hb3
  have B3 := (hb.alloc hb.size (.cells #[.bool false, .int .i64 c, .int .i64 x, .int .u64 g] 37)).trans (hb3.mono (by simp; exact Nat.le_succ_of_le hb.size))
  go_wp2_with fail
  refine (H4.out _).mono ?_
  rintro r w2 ⟨rfl, rfl⟩
  go_wp2_with fail
  go_ret2
  exact ⟨rfl, B3⟩

set_option maxHeartbeats 2000000 in
theorem nar_fin_ft (X A : Nat) (k : Int) (k0 : 0 ≤ k) (k4 : k ≤ 4) (c x g q y : Int) (c4 : (c == 4) = false) (c0 : (c == 0) = false) (c3 : (c == 3) = false) (q0 : 0 ≤ q) (q1 : q ≤ 2139095039) (H0 : Hid (∀ w, Calls Try.prog 22 #[.float .f64 X] w fun r w' => r = .returned (.agg #[.bool false, .int .i64 c, .int .i64 x, .int .u64 g]) ∧ Below w.heap.size w w')) (H1 : Hid (∀ w, Calls Try.prog 30 #[.float .f64 X] w fun r w' => r = .returned (.float .f64 A) ∧ w' = w)) (H2 : Hid (∀ w, Calls Try.prog 31 #[.float .f64 A] w fun r w' => r = .returned (.int .u32 q) ∧ w' = w)) (H3 : Hid (∀ w, Calls Try.prog 33 #[.int .i64 k, .bool false] w fun r w' => r = .returned (.int .i64 y) ∧ Below w.heap.size w w')) (H4 : Hid (∀ w, Calls Try.prog 32 #[.float .f64 A, .int .u32 q, .int .i64 y] w fun r w' => r = .returned (.bool true) ∧ w' = w)) (w : World) :
    Calls Try.prog 12 #[.float .f64 X, .int .i64 k] w fun r w' => r = .returned (.tuple #[.float .f32 ((q + 1 : Int).toNat), .int .i64 0]) ∧ Below w.heap.size w w' := by
  go_enter Try.func12, Try.ntmps12
  go_wp2_with fail
  refine (H0.out _).mono ?_
  rintro r w1 ⟨rfl, hb⟩
  go_wp2_with fail
  refine (H1.out _).mono ?_
  rintro r w2 ⟨rfl, rfl⟩
  go_wp2_with fail
  refine (H2.out _).mono ?_
  rintro r w2 ⟨rfl, rfl⟩
  go_wp2_with fail
  refine (H3.out _).mono ?_
  rintro r w3 ⟨rfl, hb3⟩
  obtain ⟨hc, hfz⟩ := bcell hb3
  have B3 := (hb.alloc hb.size (.cells #[.bool false, .int .i64 c, .int .i64 x, .int .u64 g] 37)).trans (hb3.mono (by simp; exact Nat.le_succ_of_le hb.size))
  go_wp2_with fail
  refine (H4.out _).mono ?_
  rintro r w2 ⟨rfl, rfl⟩
  go_wp2_with fail
  go_ret2
  exact ⟨rfl, B3⟩

set_option maxHeartbeats 2000000 in
theorem nar_fin_tf (X A : Nat) (k : Int) (k0 : 0 ≤ k) (k4 : k ≤ 4) (c x g q y : Int) (c4 : (c == 4) = false) (c0 : (c == 0) = false) (c3 : (c == 3) = false) (q0 : 0 ≤ q) (q1 : q ≤ 2139095039) (H0 : Hid (∀ w, Calls Try.prog 22 #[.float .f64 X] w fun r w' => r = .returned (.agg #[.bool true, .int .i64 c, .int .i64 x, .int .u64 g]) ∧ Below w.heap.size w w')) (H1 : Hid (∀ w, Calls Try.prog 30 #[.float .f64 X] w fun r w' => r = .returned (.float .f64 A) ∧ w' = w)) (H2 : Hid (∀ w, Calls Try.prog 31 #[.float .f64 A] w fun r w' => r = .returned (.int .u32 q) ∧ w' = w)) (H3 : Hid (∀ w, Calls Try.prog 33 #[.int .i64 k, .bool true] w fun r w' => r = .returned (.int .i64 y) ∧ Below w.heap.size w w')) (H4 : Hid (∀ w, Calls Try.prog 32 #[.float .f64 A, .int .u32 q, .int .i64 y] w fun r w' => r = .returned (.bool false) ∧ w' = w)) (w : World) :
    Calls Try.prog 12 #[.float .f64 X, .int .i64 k] w fun r w' => r = .returned (.tuple #[.float .f32 ((q + 2147483648 : Int).toNat), .int .i64 0]) ∧ Below w.heap.size w w' := by
  have hor := or_sign32 (q) (by omega) (by omega)
  go_enter Try.func12, Try.ntmps12
  go_wp2_with fail
  refine (H0.out _).mono ?_
  rintro r w1 ⟨rfl, hb⟩
  go_wp2_with fail
  refine (H1.out _).mono ?_
  rintro r w2 ⟨rfl, rfl⟩
  go_wp2_with fail
  refine (H2.out _).mono ?_
  rintro r w2 ⟨rfl, rfl⟩
  go_wp2_with fail
  refine (H3.out _).mono ?_
  rintro r w3 ⟨rfl, hb3⟩
  obtain ⟨hc, hfz⟩ := bcell hb3
  have B3 := (hb.alloc hb.size (.cells #[.bool true, .int .i64 c, .int .i64 x, .int .u64 g] 37)).trans (hb3.mono (by simp; exact Nat.le_succ_of_le hb.size))
  go_wp2_with fail
  refine (H4.out _).mono ?_
  rintro r w2 ⟨rfl, rfl⟩
  go_wp2_with fail
  go_ret2
  exact ⟨rfl, B3⟩

set_option maxHeartbeats 2000000 in
theorem nar_fin_tt (X A : Nat) (k : Int) (k0 : 0 ≤ k) (k4 : k ≤ 4) (c x g q y : Int) (c4 : (c == 4) = false) (c0 : (c == 0) = false) (c3 : (c == 3) = false) (q0 : 0 ≤ q) (q1 : q ≤ 2139095039) (H0 : Hid (∀ w, Calls Try.prog 22 #[.float .f64 X] w fun r w' => r = .returned (.agg #[.bool true, .int .i64 c, .int .i64 x, .int .u64 g]) ∧ Below w.heap.size w w')) (H1 : Hid (∀ w, Calls Try.prog 30 #[.float .f64 X] w fun r w' => r = .returned (.float .f64 A) ∧ w' = w)) (H2 : Hid (∀ w, Calls Try.prog 31 #[.float .f64 A] w fun r w' => r = .returned (.int .u32 q) ∧ w' = w)) (H3 : Hid (∀ w, Calls Try.prog 33 #[.int .i64 k, .bool true] w fun r w' => r = .returned (.int .i64 y) ∧ Below w.heap.size w w')) (H4 : Hid (∀ w, Calls Try.prog 32 #[.float .f64 A, .int .u32 q, .int .i64 y] w fun r w' => r = .returned (.bool true) ∧ w' = w)) (w : World) :
    Calls Try.prog 12 #[.float .f64 X, .int .i64 k] w fun r w' => r = .returned (.tuple #[.float .f32 ((q + 1 + 2147483648 : Int).toNat), .int .i64 0]) ∧ Below w.heap.size w w' := by
  have hor := or_sign32 (q + 1) (by omega) (by omega)
  go_enter Try.func12, Try.ntmps12
  go_wp2_with fail
  refine (H0.out _).mono ?_
  rintro r w1 ⟨rfl, hb⟩
  go_wp2_with fail
  refine (H1.out _).mono ?_
  rintro r w2 ⟨rfl, rfl⟩
  go_wp2_with fail
  refine (H2.out _).mono ?_
  rintro r w2 ⟨rfl, rfl⟩
  go_wp2_with fail
  refine (H3.out _).mono ?_
  rintro r w3 ⟨rfl, hb3⟩
  obtain ⟨hc, hfz⟩ := bcell hb3
  have B3 := (hb.alloc hb.size (.cells #[.bool true, .int .i64 c, .int .i64 x, .int .u64 g] 37)).trans (hb3.mono (by simp; exact Nat.le_succ_of_le hb.size))
  go_wp2_with fail
  refine (H4.out _).mono ?_
  rintro r w2 ⟨rfl, rfl⟩
  go_wp2_with fail
  go_ret2
  exact ⟨rfl, B3⟩
end Go.Proofs.Ytedknjiipmppgab
