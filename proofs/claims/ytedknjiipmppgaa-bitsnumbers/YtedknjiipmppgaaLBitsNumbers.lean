/- The walk of BitsNumbers: it returns true and changes nothing that was there. -/
import Derived.Test.YtedknjiipmppgaaW7
namespace Go.Proofs.Ytedknjiipmppgaa
open Go.RowKit
attribute [local go_sem] f64bits f64frombits
set_option maxHeartbeats 1000000 in
theorem walk_BitsNumbers (w : World) : Calls Try.prog 3 #[] w fun r w' => r = .returned (.bool true) ∧ Below w.heap.size w w' := by
  go_enter Try.func3, Try.ntmps3
  go_wp2_with (first
    | (go_at_call 9; refine (live_any _).mono ?_; rintro r w1 ⟨rfl, hb⟩)
    | (go_at_call 11; refine (nan_any _).mono ?_; rintro r w2 ⟨rfl, rfl⟩))
  go_ret
  exact ⟨rfl, hb⟩
end Go.Proofs.Ytedknjiipmppgaa
