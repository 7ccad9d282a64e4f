/- BitsJoins, for every input: the call returns true, and what it was handed reads as before. No condition. -/
import Derived.Test.YtedknjiipmppgaaRows
import Derived.Test.YtedknjiipmppgaaLBitsJoins
import Derived.WalkKit
import Derived.ProofKit
import Derived.OpenShut
import Derived.ShutString
import Derived.ChangeOld
import Derived.Below
import Derived.Lib.SmallJoins
import Derived.WalkLawsBesides
namespace Go.Proofs.Ytedknjiipmppgaa
open Go.ChangeShapes Go.WideShapes Go.ChangeAt Go.RowKit Go.Joins
open Go.ChangeMaps (open_string shut_string)
set_option linter.unusedVariables false

theorem bitsJoins_own : ownKnob Try.prog.godebug = none := by kernel_rfl

set_option maxRecDepth 100000 in
theorem bitsJoins_lifted (os : Os) (started : os.Started) (H : Type) (enc : TypeId × Value → H) :
    ReturnsInHanded {} Try.checked os 5 .any (Rows.bitsJoinsSpec.pre6 enc Try.prog Try.f5 Rows.bitsJoinsRow.domain false) (Rows.bitsJoinsSpec.post enc Try.prog Try.f5 false true false false) := by
  refine returnsInHanded_of_change (C := Try.checked) bitsJoins_own started (by kernel_rfl) Try.func5
    (ChangeSpec.witness6 (enc := enc) (C := Try.checked) false ⟨#[], #[.agg #[.bool false, .int .i64 0, .int .i64 0, .int .u64 0]], []⟩ 8 (by kernel_rfl) (by kernel_rfl) (by kernel_rfl) (by kernel_rfl)) ?_
  intro W base args ds gs before hval0 hW hcnd _
  have hval : ∀ (j : Nat) t v, Try.f5.params[j]? = some t → args[j]? = some v → Value.okWide Try.prog W .any base t v := hval0
  have hW' := hW
  obtain ⟨p, q, hA0, hV, rfl, hfz, hnd⟩ := hW
  have hA : DataW.TrodAll enc Try.prog W 0 (fun _ => true) true Try.f5.params.toList args.toList ds p := hA0
  rw [Try.params5] at hA hval
  obtain ⟨v0, d0, rfl, rfl, h0⟩ := trodAll_one hA
  obtain ⟨rfl, rfl⟩ := trodVars_none hV
  obtain ⟨c00, c01, c02, c03, y00, y01, y02, y03, m0, rfl, rfl, rfl, k00, k01, k02, k03⟩ := open_agg4 Try.underlying28 (by kernel_rfl) (by kernel_rfl : Try.prog.cellsOf 28 = 4) (hval 0 28 v0 rfl rfl) h0
  obtain ⟨an, e00, rfl⟩ := DataW.trod_bool Try.underlying4 k00
  obtain ⟨ac, e01, rfl, w01⟩ := DataW.trod_int Try.underlying3 k01
  obtain ⟨ax, e02, rfl, w02⟩ := DataW.trod_int Try.underlying3 k02
  obtain ⟨af, e03, rfl, w03⟩ := DataW.trod_int Try.underlying23 k03
  simp at e00 e01 e02 e03
  subst e00 e01 e02 e03
  clear hA0 hval0
  refine (walk_BitsJoins an ac ax af w01 w02 w03 W).mono fun e W' ⟨he, bel⟩ => ?_
  subst he
  exact ⟨_, rfl, _, _, _, [], _, [], hW', trodAll_mk1 (shut_bool Try.underlying4 _), (trodAll_cons_mk (shut_agg4 (y0 := (.lit (.bool an), [])) (y1 := (.lit (.int .i64 ac), [])) (y2 := (.lit (.int .i64 ax), [])) (y3 := (.lit (.int .u64 af), [])) Try.underlying28 (by kernel_rfl) (by kernel_rfl : Try.prog.cellsOf 28 = 4) (shut_bool Try.underlying4 an) (shut_int Try.underlying3 w01) (shut_int Try.underlying3 w02) (shut_int Try.underlying23 w03)) trodAll_mk0), rfl, bel.frame _, fun h => by cases h⟩

theorem bitsJoins_holds : Rows.BitsJoinsSaid :=
  OpenClaim.holds_of_wide 5 Try.f5 rfl rfl rfl rfl rfl rfl rfl ⟨rfl, rfl, rfl, rfl, rfl⟩ rfl rfl rfl rfl rfl (by kernel_rfl) Try.func5 (by kernel_rfl)
    (of_decide_eq_true (by kernel_rfl)) (by unfold Func.isWrapper; first | (rw [if_pos (by decide +kernel)]; kernel_rfl) | (rw [if_neg (by decide +kernel)]; exact ⟨rfl, rfl⟩))
    (fun os started H enc _ => bitsJoins_lifted os started H enc)
#print axioms bitsJoins_holds
end Go.Proofs.Ytedknjiipmppgaa
