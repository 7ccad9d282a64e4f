/- WideNumbers: the walk. -/
import Derived.Test.YtikfabbfbfdpcaaDoorW32
namespace Go.Proofs.YtikfabbfbfdpcaaDoor
open Go.RowKit
set_option linter.unusedVariables false

set_option maxHeartbeats 1000000 in
theorem walk_WideNumbers (w : World) (hT : Tab w) : Calls Tryd.prog 3 #[] w fun r w' => r = .returned (.bool true) ∧ Below w.heap.size w w' := by
  have A := hid (awake_any w hT)
  clear hT
  go_enter Tryd.func3, Tryd.ntmps3
  go_wp2_with fail
  refine (Calls.mono A.out) ?_
  rintro r w1 ⟨rfl, hb⟩
  have HB := (Aside.intro hb)
  clear hb A
  go_wp2
  go_ret
  exact ⟨rfl, HB.out⟩
end Go.Proofs.YtikfabbfbfdpcaaDoor
