/- What 'exact' answers: whether the bits are the same. -/
import Derived.Test.YtedknjiipmppgaaW11
namespace Go.Proofs.Ytedknjiipmppgaa
open Go.RowKit
attribute [local go_sem] f64bits f64frombits

set_option maxHeartbeats 1000000 in
theorem exact_same (a : Nat) (w : World) : Calls Try.prog 20 #[.float .f64 a, .float .f64 a] w fun r w' => r = .returned (.bool true) ∧ w' = w := by
  go_enter Try.func20, Try.ntmps20
  go_wp2
  go_ret
  exact ⟨rfl, rfl⟩
end Go.Proofs.Ytedknjiipmppgaa
