/- PairNear, for every input: the call returns true, and what it was handed reads as before. No condition. -/
import Derived.Test.YthilnddhehbjiabRows
import Derived.Test.YthilnddhehbjiabLPairNear
import Derived.WalkKit
import Derived.ProofKit
import Derived.OpenShut
import Derived.ShutString
import Derived.ChangeOld
import Derived.Below
import Derived.Lib.SmallJoins
import Derived.WalkLawsBesides
import Derived.Deep.DeepHandedRow
namespace Go.Proofs.Ythilnddhehbjiab
open Go.ChangeShapes Go.WideShapes Go.ChangeAt Go.RowKit Go.Joins
open Go.ChangeMaps (open_string shut_string)
set_option linter.unusedVariables false
set_option maxRecDepth 20000

theorem trodF {H : Type} {enc : TypeId × Value → H} {P : Program} {w : World} {base : Nat} {spare : Nat → Bool} {held : Bool} {fuel : Nat} {t : TypeId} {cs : List Value} {x : DataW H × List MemPlace} {k : FloatKind} (ht : P.underlying t = some (.float k)) (h : DataW.trod enc P w base spare held fuel t cs = some x) : ∃ n, cs = [.float k n] ∧ x = (.lit (.float k n), []) ∧ (Lit.float k n).wf = true := by
  cases fuel with
  | zero => simp [DataW.trod] at h
  | succ m =>
    simp only [DataW.trod, ht] at h
    split at h <;> simp_all

theorem pairNear_own : ownKnob Try.prog.godebug = none := by kernel_rfl

set_option maxRecDepth 100000 in
theorem pairNear_lifted (os : Os) (started : os.Started) (H : Type) (enc : TypeId × Value → H) :
    ReturnsInHanded {} Try.checked os 6 .any (Rows.pairNearSpec.pre6 enc Try.prog Try.f6 Rows.pairNearRow.domain false) (Rows.pairNearSpec.post enc Try.prog Try.f6 false true false false) := by
  refine returnsInHanded_of_change (C := Try.checked) pairNear_own started (by kernel_rfl) Try.func6
    (ChangeSpec.witness6 (enc := enc) (C := Try.checked) false ⟨#[], #[.agg #[.float .f64 0, .float .f64 0], .agg #[.float .f64 0, .float .f64 0]], []⟩ 8 (by kernel_rfl) (by kernel_rfl) (by kernel_rfl) (by kernel_rfl)) ?_
  intro W base args ds gs before hval0 hW hcnd _
  have hval : ∀ (j : Nat) t v, Try.f6.params[j]? = some t → args[j]? = some v → Value.okWide Try.prog W .any base t v := hval0
  have hW' := hW
  obtain ⟨p, q, hA0, hV, rfl, hfz, hnd⟩ := hW
  have hA : DataW.TrodAll enc Try.prog W 0 (fun _ => true) true Try.f6.params.toList args.toList ds p := hA0
  rw [Try.params6] at hA hval
  obtain ⟨v0, vs0, d0, ds0, p0, q0, hargs, rfl, rfl, h0, r0⟩ := trodAll_cons hA
  obtain ⟨v1, vs1, d1, ds1, p1, q1, rfl, rfl, rfl, h1, r1⟩ := trodAll_cons r0
  obtain ⟨rfl, rfl, rfl⟩ := trodAll_nil r1
  obtain rfl : args = #[v0, v1] := by cases args; simp_all
  obtain ⟨rfl, rfl⟩ := trodVars_none hV
  obtain ⟨c00, c01, y00, y01, m0, rfl, rfl, rfl, k00, k01⟩ := open_agg2 Try.underlying30 (by kernel_rfl) (by kernel_rfl : Try.prog.cellsOf 30 = 2) (hval 0 30 v0 rfl rfl) h0
  obtain ⟨ah, e00, rfl, w00⟩ := trodF Try.underlying23 k00
  obtain ⟨al, e01, rfl, w01⟩ := trodF Try.underlying23 k01
  simp at e00 e01
  subst e00 e01
  obtain ⟨c10, c11, y10, y11, m1, rfl, rfl, rfl, k10, k11⟩ := open_agg2 Try.underlying30 (by kernel_rfl) (by kernel_rfl : Try.prog.cellsOf 30 = 2) (hval 1 30 v1 rfl rfl) h1
  obtain ⟨bh, e10, rfl, w10⟩ := trodF Try.underlying23 k10
  obtain ⟨bl, e11, rfl, w11⟩ := trodF Try.underlying23 k11
  simp at e10 e11
  subst e10 e11
  clear hA0 hval0
  refine (walk_PairNear ah al bh bl w00 w01 w10 w11 W).mono fun e W' ⟨he, bel⟩ => ?_
  subst he
  exact ⟨_, rfl, _, _, _, [], _, [], hW', trodAll_mk1 (shut_bool Try.underlying4 _), (trodAll_cons_mk (shut_agg2 (y0 := (.lit (.float .f64 ah), [])) (y1 := (.lit (.float .f64 al), [])) Try.underlying30 (by kernel_rfl) (by kernel_rfl : Try.prog.cellsOf 30 = 2) (shut_float Try.underlying23 w00) (shut_float Try.underlying23 w01)) (trodAll_cons_mk (shut_agg2 (y0 := (.lit (.float .f64 bh), [])) (y1 := (.lit (.float .f64 bl), [])) Try.underlying30 (by kernel_rfl) (by kernel_rfl : Try.prog.cellsOf 30 = 2) (shut_float Try.underlying23 w10) (shut_float Try.underlying23 w11)) trodAll_mk0)), rfl, bel.frame _, fun h => by cases h⟩

theorem pairNear_holds : Rows.PairNearSaid :=
  OpenClaim.holds_of_wide 6 Try.f6 rfl rfl rfl rfl rfl rfl rfl ⟨rfl, rfl, rfl, rfl, rfl⟩ rfl rfl rfl rfl rfl (by kernel_rfl) Try.func6 (by kernel_rfl)
    (of_decide_eq_true (by kernel_rfl)) (by unfold Func.isWrapper; first | (rw [if_pos (by decide +kernel)]; kernel_rfl) | (rw [if_neg (by decide +kernel)]; exact ⟨rfl, rfl⟩))
    (fun os started H enc _ => pairNear_lifted os started H enc)
#print axioms pairNear_holds
end Go.Proofs.Ythilnddhehbjiab
