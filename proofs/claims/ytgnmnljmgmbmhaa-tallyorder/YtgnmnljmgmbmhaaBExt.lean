/- What the four body-less functions of package math answer over this program. -/
import Derived.Test.YtgnmnljmgmbmhaaProg
import Derived.Laws.Externs
import Derived.WalkKit
import Derived.WalkLawsBesides
namespace Go.Proofs.Ytgnmnljmgmbmhaa.B
set_option linter.unusedVariables false
set_option maxRecDepth 20000
theorem f64bits (b : Nat) (w : World) : (callFunc 42 #[.float .f64 b]).run Try.prog w = .ok (.value (.int .u64 b)) w := by
  rw [run_callFunc_extern (e := Extern.MathFloatBits.float64bits) Try.func42 (by kernel_rfl) (by kernel_rfl) (by kernel_rfl) (by kernel_rfl)]; rfl
theorem f64frombits (n : Int) (w : World) : (callFunc 34 #[.int .u64 n]).run Try.prog w = .ok (.value (.float .f64 n.toNat)) w := by
  rw [run_callFunc_extern (e := Extern.MathFloatBits.float64frombits) Try.func34 (by kernel_rfl) (by kernel_rfl) (by kernel_rfl) (by kernel_rfl)]; rfl
end Go.Proofs.Ytgnmnljmgmbmhaa.B
