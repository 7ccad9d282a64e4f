/- TallyOrder: long lists; the law, whatever comes in. -/
import Derived.Test.YtgnmnljmgmbmhaaLTallyOrder
namespace Go.Proofs.Ytgnmnljmgmbmhaa
open Go.RowKit
set_option linter.unusedVariables false
set_option maxRecDepth 20000
set_option linter.unusedSimpArgs false

theorem int_rng {z : Int} (h : (Lit.int .i64 z).wf = true) : -9223372036854775808 ≤ z ∧ z ≤ 9223372036854775807 := by
  simp [Lit.wf, IntKind.min, IntKind.max, IntKind.signed, IntKind.bits] at h
  omega

set_option maxHeartbeats 2000000 in
theorem walk_TallyOrder (j : Bool) (a1 : Option Addr) (n1 c1 : Nat) (xs : List Nat) (a2 : Option Addr) (n2 c2 : Nat) (ys : List Nat) (z : Int) (w : World) (h1 : CameF w a1 n1 c1 xs) (b1 : n1 ≤ 17592186043904) (h2 : CameF w a2 n2 c2 ys) (b2 : n2 ≤ 17592186043904) (hz : -9223372036854775808 ≤ z ∧ z ≤ 9223372036854775807) :
    Calls Try.prog 4 #[.bool j, .slice a1 n1 c1, .slice a2 n2 c2, .int .i64 z] w fun r w' => r = .returned (.bool true) ∧ Below w.heap.size w w' := by
  by_cases q1 : n1 ≤ 4000
  · by_cases q2 : n2 ≤ 4000
    · exact main_TallyOrder j a1 n1 c1 xs a2 n2 c2 ys z w h1 h2 q1 q2 hz
    · have HA := hid (awake18 w)
      have dl1 : decide ((4000 : Int) < (n1 : Int)) = false := by simp; omega
      have dl2 : decide ((4000 : Int) < (n2 : Int)) = true := by simp; omega
      clear h1 h2
      go_enter Try.func4, Try.ntmps4
      go_wp2_with fail
      refine HA.out.mono ?_
      rintro r w1 ⟨rfl, hb1⟩
      go_wp2
      go_ret
      exact ⟨rfl, hb1⟩
  · have HA := hid (awake18 w)
    have dl1 : decide ((4000 : Int) < (n1 : Int)) = true := by simp; omega
    clear h1 h2
    go_enter Try.func4, Try.ntmps4
    go_wp2_with fail
    refine HA.out.mono ?_
    rintro r w1 ⟨rfl, hb1⟩
    go_wp2
    go_ret
    exact ⟨rfl, hb1⟩
end Go.Proofs.Ytgnmnljmgmbmhaa
