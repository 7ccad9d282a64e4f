/- BitsBack, for every input: the call returns true, and what it was handed reads as before. No condition. -/
import Derived.Test.YtedknjiipmppgaaRows
import Derived.Test.YtedknjiipmppgaaLBitsBack
import Derived.WalkKit
import Derived.ProofKit
import Derived.OpenShut
import Derived.ShutString
import Derived.ChangeOld
import Derived.Below
import Derived.Lib.SmallJoins
import Derived.WalkLawsBesides
namespace Go.Proofs.Ytedknjiipmppgaa
open Go.ChangeShapes Go.WideShapes Go.ChangeAt Go.RowKit Go.Joins
open Go.ChangeMaps (open_string shut_string)
set_option linter.unusedVariables false

theorem bitsBack_own : ownKnob Try.prog.godebug = none := by kernel_rfl

set_option maxRecDepth 100000 in
theorem bitsBack_lifted (os : Os) (started : os.Started) (H : Type) (enc : TypeId × Value → H) :
    ReturnsInHanded {} Try.checked os 6 .any (Rows.bitsBackSpec.pre6 enc Try.prog Try.f6 Rows.bitsBackRow.domain false) (Rows.bitsBackSpec.post enc Try.prog Try.f6 false true false false) := by
  refine returnsInHanded_of_change (C := Try.checked) bitsBack_own started (by kernel_rfl) Try.func6
    (ChangeSpec.witness6 (enc := enc) (C := Try.checked) false ⟨#[], #[.float .f64 0, .agg #[.bool false, .int .i64 0, .int .i64 0, .int .u64 0]], []⟩ 8 (by kernel_rfl) (by kernel_rfl) (by kernel_rfl) (by kernel_rfl)) ?_
  intro W base args ds gs before hval0 hW hcnd _
  have hval : ∀ (j : Nat) t v, Try.f6.params[j]? = some t → args[j]? = some v → Value.okWide Try.prog W .any base t v := hval0
  have hW' := hW
  obtain ⟨p, q, hA0, hV, rfl, hfz, hnd⟩ := hW
  have hA : DataW.TrodAll enc Try.prog W 0 (fun _ => true) true Try.f6.params.toList args.toList ds p := hA0
  rw [Try.params6] at hA hval
  obtain ⟨v0, v1, d0, d1, p0, p1, rfl, rfl, rfl, h0, h1⟩ := trodAll_two hA
  obtain ⟨rfl, rfl⟩ := trodVars_none hV
  obtain ⟨a, rfl, rfl, rfl, w0⟩ := open_float Try.underlying25 (hval 0 25 v0 rfl rfl) h0
  obtain ⟨c10, c11, c12, c13, y10, y11, y12, y13, m1, rfl, rfl, rfl, k10, k11, k12, k13⟩ := open_agg4 Try.underlying28 (by kernel_rfl) (by kernel_rfl : Try.prog.cellsOf 28 = 4) (hval 1 28 v1 rfl rfl) h1
  obtain ⟨bn, e10, rfl⟩ := DataW.trod_bool Try.underlying4 k10
  obtain ⟨bc, e11, rfl, w11⟩ := DataW.trod_int Try.underlying3 k11
  obtain ⟨bx, e12, rfl, w12⟩ := DataW.trod_int Try.underlying3 k12
  obtain ⟨bf, e13, rfl, w13⟩ := DataW.trod_int Try.underlying23 k13
  simp at e10 e11 e12 e13
  subst e10 e11 e12 e13
  clear hA0 hval0
  refine (walk_BitsBack a bn bc bx bf w0 w11 w12 w13 W).mono fun e W' ⟨he, bel⟩ => ?_
  subst he
  exact ⟨_, rfl, _, _, _, [], _, [], hW', trodAll_mk1 (shut_bool Try.underlying4 _), (trodAll_cons_mk (shut_float Try.underlying25 w0) (trodAll_cons_mk (shut_agg4 (y0 := (.lit (.bool bn), [])) (y1 := (.lit (.int .i64 bc), [])) (y2 := (.lit (.int .i64 bx), [])) (y3 := (.lit (.int .u64 bf), [])) Try.underlying28 (by kernel_rfl) (by kernel_rfl : Try.prog.cellsOf 28 = 4) (shut_bool Try.underlying4 bn) (shut_int Try.underlying3 w11) (shut_int Try.underlying3 w12) (shut_int Try.underlying23 w13)) trodAll_mk0)), rfl, bel.frame _, fun h => by cases h⟩

theorem bitsBack_holds : Rows.BitsBackSaid :=
  OpenClaim.holds_of_wide 6 Try.f6 rfl rfl rfl rfl rfl rfl rfl ⟨rfl, rfl, rfl, rfl, rfl⟩ rfl rfl rfl rfl rfl (by kernel_rfl) Try.func6 (by kernel_rfl)
    (of_decide_eq_true (by kernel_rfl)) (by unfold Func.isWrapper; first | (rw [if_pos (by decide +kernel)]; kernel_rfl) | (rw [if_neg (by decide +kernel)]; exact ⟨rfl, rfl⟩))
    (fun os started H enc _ => bitsBack_lifted os started H enc)
#print axioms bitsBack_holds
end Go.Proofs.Ytedknjiipmppgaa
