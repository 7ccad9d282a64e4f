/- The walk of BitsOrders: at any two numbers it returns true and changes nothing that was there. -/
import Derived.Test.YtedknjiipmppgabW7
import Derived.Test.YtedknjiipmppgabW17
namespace Go.Proofs.Ytedknjiipmppgab
open Go.RowKit
attribute [local go_sem] f64bits f64frombits

set_option maxHeartbeats 2000000 in
theorem orders_core (X Y : Nat) (a b : Int)
    (H1 : Hid (∀ w, Calls Try.prog 9 #[.float .f64 X, .float .f64 Y] w fun r w' => r = .returned (.int .i64 a) ∧ w' = w))
    (H2 : Hid (∀ w, Calls Try.prog 10 #[.float .f64 X, .float .f64 Y] w fun r w' => r = .returned (.int .i64 a) ∧ w' = w))
    (H3 : Hid (∀ w, Calls Try.prog 9 #[.float .f64 Y, .float .f64 X] w fun r w' => r = .returned (.int .i64 b) ∧ w' = w))
    (H4 : Hid (∀ w, Calls Try.prog 10 #[.float .f64 Y, .float .f64 X] w fun r w' => r = .returned (.int .i64 b) ∧ w' = w)) (w : World) :
    Calls Try.prog 3 #[.float .f64 X, .float .f64 Y] w fun r w' => r = .returned (.bool true) ∧ Below w.heap.size w w' := by
  go_enter Try.func3, Try.ntmps3
  go_wp2_with fail
  refine (live_any _).mono ?_
  rintro r w1 ⟨rfl, b1⟩
  go_wp2_with fail
  refine (H1.out _).mono ?_
  rintro r w2 ⟨rfl, rfl⟩
  go_wp2_with fail
  refine (H2.out _).mono ?_
  rintro r w3 ⟨rfl, rfl⟩
  go_wp2_with fail
  refine (H3.out _).mono ?_
  rintro r w4 ⟨rfl, rfl⟩
  go_wp2_with fail
  refine (H4.out _).mono ?_
  rintro r w5 ⟨rfl, rfl⟩
  go_wp2_with fail
  go_ret
  exact ⟨rfl, b1⟩

theorem orders_wf64 {b : Nat} (h : (Lit.float .f64 b).wf = true) : b < 18446744073709551616 := by
  simpa [Lit.wf] using h

theorem walk_BitsOrders (a b : Nat) (ha : (Lit.float .f64 a).wf = true) (hb : (Lit.float .f64 b).wf = true) (w : World) :
    Calls Try.prog 3 #[.float .f64 a, .float .f64 b] w fun r w' => r = .returned (.bool true) ∧ Below w.heap.size w w' := by
  obtain ⟨s, e, f, he, hf, rfl⟩ := bw_of a (orders_wf64 ha)
  obtain ⟨t, u, v, hu, hv, rfl⟩ := bw_of b (orders_wf64 hb)
  exact orders_core _ _ _ _ (order_any s t e f u v he hf hu hv) (rorder_any s t e f u v he hf hu hv) (order_any t s u v e f hu hv he hf) (rorder_any t s u v e f hu hv he hf) w
end Go.Proofs.Ytedknjiipmppgab
