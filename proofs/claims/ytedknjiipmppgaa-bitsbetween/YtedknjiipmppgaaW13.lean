/- What the document's Next answers, case by case, over what Split and Make answer. -/
import Derived.Test.YtedknjiipmppgaaW9
namespace Go.Proofs.Ytedknjiipmppgaa
open Go.RowKit
attribute [local go_sem] f64bits f64frombits
set_option linter.unusedVariables false

set_option maxHeartbeats 2000000 in
theorem rn_odd (X : Nat) (B : Nat) (s : Bool) (x g : Int) (H1 : Hid (∀ w, Calls Try.prog 13 #[.float .f64 X] w fun r w' => r = .returned (.agg #[.bool s, .int .i64 4, .int .i64 x, .int .u64 g]) ∧ Below w.heap.size w w')) (H2 : Hid (∀ w, Calls Try.prog 35 #[.float .f64 X] w fun r w' => r = .returned (.int .u64 (B : Nat)) ∧ w' = w)) (w : World) :
    Calls Try.prog 23 #[.float .f64 X] w fun r w' => r = .returned (.float .f64 B) ∧ Below w.heap.size w w' := by
  go_enter Try.func23, Try.ntmps23
  go_wp2_with fail
  refine (H1.out _).mono ?_
  rintro r w1 ⟨rfl, hb⟩
  go_wp2_with (first
    | (go_at_call 35; refine (H2.out _).mono ?_; rintro r w2 ⟨rfl, rfl⟩)
    | (go_at_call 39; refine (of_any _ _).mono ?_; rintro r w2 ⟨rfl, rfl⟩))
  go_ret
  exact ⟨rfl, hb.alloc hb.size _⟩

set_option maxHeartbeats 2000000 in
theorem rn_top (X : Nat) (B : Nat) (x g : Int) (H1 : Hid (∀ w, Calls Try.prog 13 #[.float .f64 X] w fun r w' => r = .returned (.agg #[.bool false, .int .i64 3, .int .i64 x, .int .u64 g]) ∧ Below w.heap.size w w')) (H2 : Hid (∀ w, Calls Try.prog 35 #[.float .f64 X] w fun r w' => r = .returned (.int .u64 (B : Nat)) ∧ w' = w)) (w : World) :
    Calls Try.prog 23 #[.float .f64 X] w fun r w' => r = .returned (.float .f64 B) ∧ Below w.heap.size w w' := by
  go_enter Try.func23, Try.ntmps23
  go_wp2_with fail
  refine (H1.out _).mono ?_
  rintro r w1 ⟨rfl, hb⟩
  go_wp2_with (first
    | (go_at_call 35; refine (H2.out _).mono ?_; rintro r w2 ⟨rfl, rfl⟩)
    | (go_at_call 39; refine (of_any _ _).mono ?_; rintro r w2 ⟨rfl, rfl⟩))
  go_ret
  exact ⟨rfl, hb.alloc hb.size _⟩

set_option maxHeartbeats 2000000 in
theorem rn_low (X : Nat) (B : Nat) (x g : Int) (H1 : Hid (∀ w, Calls Try.prog 13 #[.float .f64 X] w fun r w' => r = .returned (.agg #[.bool true, .int .i64 3, .int .i64 x, .int .u64 g]) ∧ Below w.heap.size w w')) (H2 : Hid (∀ w, Calls Try.prog 40 #[.bool true, .int .u64 9007199254740991, .int .i64 971] w fun r w' => r = .returned (.tuple #[.float .f64 B, .bool true]) ∧ w' = w)) (w : World) :
    Calls Try.prog 23 #[.float .f64 X] w fun r w' => r = .returned (.float .f64 B) ∧ Below w.heap.size w w' := by
  go_enter Try.func23, Try.ntmps23
  go_wp2_with fail
  refine (H1.out _).mono ?_
  rintro r w1 ⟨rfl, hb⟩
  go_wp2_with (first
    | (go_at_call 40; refine (H2.out _).mono ?_; rintro r w2 ⟨rfl, rfl⟩)
    | (go_at_call 39; refine (of_any _ _).mono ?_; rintro r w2 ⟨rfl, rfl⟩))
  go_ret
  exact ⟨rfl, hb.alloc hb.size _⟩

set_option maxHeartbeats 2000000 in
theorem rn_zero (X : Nat) (B : Nat) (s : Bool) (x g : Int) (H1 : Hid (∀ w, Calls Try.prog 13 #[.float .f64 X] w fun r w' => r = .returned (.agg #[.bool s, .int .i64 0, .int .i64 x, .int .u64 g]) ∧ Below w.heap.size w w')) (H2 : Hid (∀ w, Calls Try.prog 40 #[.bool false, .int .u64 1, .int .i64 (-1074)] w fun r w' => r = .returned (.tuple #[.float .f64 B, .bool true]) ∧ w' = w)) (w : World) :
    Calls Try.prog 23 #[.float .f64 X] w fun r w' => r = .returned (.float .f64 B) ∧ Below w.heap.size w w' := by
  go_enter Try.func23, Try.ntmps23
  go_wp2_with fail
  refine (H1.out _).mono ?_
  rintro r w1 ⟨rfl, hb⟩
  go_wp2_with (first
    | (go_at_call 40; refine (H2.out _).mono ?_; rintro r w2 ⟨rfl, rfl⟩)
    | (go_at_call 39; refine (of_any _ _).mono ?_; rintro r w2 ⟨rfl, rfl⟩))
  go_ret
  exact ⟨rfl, hb.alloc hb.size _⟩

set_option maxHeartbeats 2000000 in
theorem rn_neg_edge (X : Nat) (B : Nat) (c x g : Int) (k4 : (c == 4) = false) (k3 : (c == 3) = false) (k0 : (c == 0) = false) (hx0 : -1074 ≤ x) (hx1 : x ≤ 971) (hg0 : 0 ≤ g) (hg1 : g < 9007199254740992) (e1 : (g == 4503599627370496) = true) (e2 : -1074 < x) (H1 : Hid (∀ w, Calls Try.prog 13 #[.float .f64 X] w fun r w' => r = .returned (.agg #[.bool true, .int .i64 c, .int .i64 x, .int .u64 g]) ∧ Below w.heap.size w w')) (H2 : Hid (∀ w, Calls Try.prog 40 #[.bool true, .int .u64 9007199254740991, .int .i64 (x - 1)] w fun r w' => r = .returned (.tuple #[.float .f64 B, .bool true]) ∧ w' = w)) (w : World) :
    Calls Try.prog 23 #[.float .f64 X] w fun r w' => r = .returned (.float .f64 B) ∧ Below w.heap.size w w' := by
  go_enter Try.func23, Try.ntmps23
  go_wp2_with fail
  refine (H1.out _).mono ?_
  rintro r w1 ⟨rfl, hb⟩
  go_wp2_with (first
    | (go_at_call 40; refine (H2.out _).mono ?_; rintro r w2 ⟨rfl, rfl⟩)
    | (go_at_call 39; refine (of_any _ _).mono ?_; rintro r w2 ⟨rfl, rfl⟩))
  go_ret
  exact ⟨rfl, hb.alloc hb.size _⟩

set_option maxHeartbeats 2000000 in
theorem rn_neg_in (X : Nat) (B : Nat) (c x g : Int) (k4 : (c == 4) = false) (k3 : (c == 3) = false) (k0 : (c == 0) = false) (hx0 : -1074 ≤ x) (hx1 : x ≤ 971) (hg0 : 0 ≤ g) (hg1 : g < 9007199254740992) (hp : 1 ≤ g) (e1 : (g == 4503599627370496) = false) (H1 : Hid (∀ w, Calls Try.prog 13 #[.float .f64 X] w fun r w' => r = .returned (.agg #[.bool true, .int .i64 c, .int .i64 x, .int .u64 g]) ∧ Below w.heap.size w w')) (H2 : Hid (∀ w, Calls Try.prog 40 #[.bool true, .int .u64 (g - 1), .int .i64 x] w fun r w' => r = .returned (.tuple #[.float .f64 B, .bool true]) ∧ w' = w)) (w : World) :
    Calls Try.prog 23 #[.float .f64 X] w fun r w' => r = .returned (.float .f64 B) ∧ Below w.heap.size w w' := by
  go_enter Try.func23, Try.ntmps23
  go_wp2_with fail
  refine (H1.out _).mono ?_
  rintro r w1 ⟨rfl, hb⟩
  go_wp2_with (first
    | (go_at_call 40; refine (H2.out _).mono ?_; rintro r w2 ⟨rfl, rfl⟩)
    | (go_at_call 39; refine (of_any _ _).mono ?_; rintro r w2 ⟨rfl, rfl⟩))
  go_ret
  exact ⟨rfl, hb.alloc hb.size _⟩

set_option maxHeartbeats 2000000 in
theorem rn_neg_least (X : Nat) (B : Nat) (c g : Int) (k4 : (c == 4) = false) (k3 : (c == 3) = false) (k0 : (c == 0) = false) (hg0 : 0 ≤ g) (hg1 : g < 9007199254740992) (hp : 1 ≤ g) (e1 : (g == 4503599627370496) = true) (H1 : Hid (∀ w, Calls Try.prog 13 #[.float .f64 X] w fun r w' => r = .returned (.agg #[.bool true, .int .i64 c, .int .i64 (-1074), .int .u64 g]) ∧ Below w.heap.size w w')) (H2 : Hid (∀ w, Calls Try.prog 40 #[.bool true, .int .u64 (g - 1), .int .i64 (-1074)] w fun r w' => r = .returned (.tuple #[.float .f64 B, .bool true]) ∧ w' = w)) (w : World) :
    Calls Try.prog 23 #[.float .f64 X] w fun r w' => r = .returned (.float .f64 B) ∧ Below w.heap.size w w' := by
  go_enter Try.func23, Try.ntmps23
  go_wp2_with fail
  refine (H1.out _).mono ?_
  rintro r w1 ⟨rfl, hb⟩
  go_wp2_with (first
    | (go_at_call 40; refine (H2.out _).mono ?_; rintro r w2 ⟨rfl, rfl⟩)
    | (go_at_call 39; refine (of_any _ _).mono ?_; rintro r w2 ⟨rfl, rfl⟩))
  go_ret
  exact ⟨rfl, hb.alloc hb.size _⟩

set_option maxHeartbeats 2000000 in
theorem rn_pos_top (X : Nat) (c g : Int) (k4 : (c == 4) = false) (k3 : (c == 3) = false) (k0 : (c == 0) = false) (hg0 : 0 ≤ g) (hg1 : g < 9007199254740992) (e1 : (g + 1 == 9007199254740992) = true) (H1 : Hid (∀ w, Calls Try.prog 13 #[.float .f64 X] w fun r w' => r = .returned (.agg #[.bool false, .int .i64 c, .int .i64 971, .int .u64 g]) ∧ Below w.heap.size w w')) (w : World) :
    Calls Try.prog 23 #[.float .f64 X] w fun r w' => r = .returned (.float .f64 (bw false 2047 0)) ∧ Below w.heap.size w w' := by
  go_enter Try.func23, Try.ntmps23
  go_wp2_with fail
  refine (H1.out _).mono ?_
  rintro r w1 ⟨rfl, hb⟩
  go_wp2_with (first
    | (go_at_call 41; refine (endless_any _ _).mono ?_; rintro r w2 ⟨rfl, rfl⟩)
    | (go_at_call 39; refine (of_any _ _).mono ?_; rintro r w2 ⟨rfl, rfl⟩))
  go_ret
  exact ⟨rfl, hb.alloc hb.size _⟩

set_option maxHeartbeats 2000000 in
theorem rn_pos_edge (X : Nat) (B : Nat) (c x g : Int) (k4 : (c == 4) = false) (k3 : (c == 3) = false) (k0 : (c == 0) = false) (hx0 : -1074 ≤ x) (hx1 : x ≤ 971) (hg0 : 0 ≤ g) (hg1 : g < 9007199254740992) (e1 : (g + 1 == 9007199254740992) = true) (e2 : (x == 971) = false) (H1 : Hid (∀ w, Calls Try.prog 13 #[.float .f64 X] w fun r w' => r = .returned (.agg #[.bool false, .int .i64 c, .int .i64 x, .int .u64 g]) ∧ Below w.heap.size w w')) (H2 : Hid (∀ w, Calls Try.prog 40 #[.bool false, .int .u64 4503599627370496, .int .i64 (x + 1)] w fun r w' => r = .returned (.tuple #[.float .f64 B, .bool true]) ∧ w' = w)) (w : World) :
    Calls Try.prog 23 #[.float .f64 X] w fun r w' => r = .returned (.float .f64 B) ∧ Below w.heap.size w w' := by
  go_enter Try.func23, Try.ntmps23
  go_wp2_with fail
  refine (H1.out _).mono ?_
  rintro r w1 ⟨rfl, hb⟩
  go_wp2_with (first
    | (go_at_call 40; refine (H2.out _).mono ?_; rintro r w2 ⟨rfl, rfl⟩)
    | (go_at_call 39; refine (of_any _ _).mono ?_; rintro r w2 ⟨rfl, rfl⟩))
  go_ret
  exact ⟨rfl, hb.alloc hb.size _⟩

set_option maxHeartbeats 2000000 in
theorem rn_pos_in (X : Nat) (B : Nat) (c x g : Int) (k4 : (c == 4) = false) (k3 : (c == 3) = false) (k0 : (c == 0) = false) (hx0 : -1074 ≤ x) (hx1 : x ≤ 971) (hg0 : 0 ≤ g) (hg1 : g < 9007199254740992) (e1 : (g + 1 == 9007199254740992) = false) (H1 : Hid (∀ w, Calls Try.prog 13 #[.float .f64 X] w fun r w' => r = .returned (.agg #[.bool false, .int .i64 c, .int .i64 x, .int .u64 g]) ∧ Below w.heap.size w w')) (H2 : Hid (∀ w, Calls Try.prog 40 #[.bool false, .int .u64 (g + 1), .int .i64 x] w fun r w' => r = .returned (.tuple #[.float .f64 B, .bool true]) ∧ w' = w)) (w : World) :
    Calls Try.prog 23 #[.float .f64 X] w fun r w' => r = .returned (.float .f64 B) ∧ Below w.heap.size w w' := by
  go_enter Try.func23, Try.ntmps23
  go_wp2_with fail
  refine (H1.out _).mono ?_
  rintro r w1 ⟨rfl, hb⟩
  go_wp2_with (first
    | (go_at_call 40; refine (H2.out _).mono ?_; rintro r w2 ⟨rfl, rfl⟩)
    | (go_at_call 39; refine (of_any _ _).mono ?_; rintro r w2 ⟨rfl, rfl⟩))
  go_ret
  exact ⟨rfl, hb.alloc hb.size _⟩
end Go.Proofs.Ytedknjiipmppgaa
