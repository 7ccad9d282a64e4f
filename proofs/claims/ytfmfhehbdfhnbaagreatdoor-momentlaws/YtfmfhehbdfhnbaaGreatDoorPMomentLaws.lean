/- MomentLaws, for every input: the call returns true, and what it was handed reads as before. The table of the library that Low reads by (math/bits.deBruijn32tab) is tied to the program's text by the given tie. No other condition. -/
import Derived.Test.YtfmfhehbdfhnbaaGreatDoorCards
import Derived.Test.YtfmfhehbdfhnbaaGreatDoorTie
import Derived.Test.YtfmfhehbdfhnbaaGreatDoorML32x
import Derived.WalkKit
import Derived.ProofKit
import Derived.OpenShut
import Derived.ShutString
import Derived.ChangeOld
import Derived.Below
import Derived.Deep.DeepHandedRow
import Derived.Lib.LaidTab
import Derived.SizedLaws
namespace Go.Proofs.YtfmfhehbdfhnbaaGreatDoor.momentLaws
open Go.ChangeShapes Go.WideShapes Go.ChangeAt Go.RowKit
open Go.ChangeMaps (open_string shut_string)
set_option linter.unusedVariables false
set_option maxRecDepth 20000

theorem own : ownKnob Tryz.prog.godebug = none := by kernel_rfl
theorem laidOut : laidOutB Tryz.prog = true := by kernel_rfl
theorem gTab : Tryz.prog.globalNamed "math/bits.deBruijn32tab" = some 1 := by kernel_rfl
theorem Uo : (Tryz.prog.globals[1]?).map (·.type) = some 189 := by kernel_rfl
theorem Uq : Tryz.prog.cellsOf 189 = 32 := by kernel_rfl
theorem cells5 : Tryz.prog.cellsOf 5 = 1 := by kernel_rfl

def tabI : List Int := [0, 1, 28, 2, 29, 14, 24, 3, 30, 22, 20, 15, 25, 17, 4, 8, 31, 27, 13, 23, 21, 19, 16, 7, 26, 12, 18, 6, 11, 5, 10, 9]
theorem XO : ∀j : _root_.Fin 32, tabI.getD j.val 0 = ((Lib.deBruijn32tab.getD j.val 0 : Nat) : Int) := by decide
theorem table{W : World}(h : laidMetH Tryz.prog Rows.momentLawsRow.laid W) : dU W := by
  have T : Lib.TabIs Tryz.prog W "math/bits.deBruijn32tab" .u8 tabI := Lib.tabIs_of_head (rest := []) gTab Uo Tryz.underlying189 Tryz.underlying5 cells5 Uq h
  intro j hj
  have h1 := T.cell gTab j (show j < 32 from hj)
  rw[h1, ← XO ⟨j, hj⟩]

theorem contract (H : Type) (enc : TypeId × Value → H) (W : World) (base : Nat) (args : Array Value) (ds gs : List (DataW H)) (before : List MemPlace)
    (hval : ∀(j : Nat) t v, Tryz.f4.params[j]? = some t → args[j]? = some v → Value.okWide Tryz.prog W .any base t v)
    (hW : DataW.Whole enc Tryz.prog Tryz.f4.params.toList Rows.momentLawsSpec.vars false W args.toList ds gs before) (hL : laidMetH Tryz.prog Rows.momentLawsRow.laid W) (hsz : (DataW.weightsEach Tryz.prog (Tryz.f4.params.toList ++ (OpenSpec.ofChange Rows.momentLawsSpec).bare.plain.varTypes Tryz.prog) (ds ++ gs)).all (· ≤ reachBytes) = true) :
    Calls Tryz.prog 4 args W λe W' => ∃v, e = .returned v ∧ Rows.momentLawsSpec.post enc Tryz.prog Tryz.f4 false true false false W args v W' := by
  have hW' := hW
  obtain⟨p, q, uG, hV, rfl, hfz, hnd⟩ := hW
  have hA : DataW.TrodAll enc Tryz.prog W 0 (λ_ => true) true Tryz.f4.params.toList args.toList ds p := uG
  rw[Tryz.params4] at hA hval hsz
  obtain⟨v0, vs0, d0, ds0, p0, q0, hargs, rfl, rfl, h0, r0⟩ := trodAll_cons hA
  obtain⟨v1, vs1, d1, ds1, p1, q1, rfl, rfl, rfl, h1, r1⟩ := trodAll_cons r0
  obtain⟨v2, vs2, d2, ds2, p2, q2, rfl, rfl, rfl, h2, r2⟩ := trodAll_cons r1
  obtain⟨v3, vs3, d3, ds3, p3, q3, rfl, rfl, rfl, h3, r3⟩ := trodAll_cons r2
  obtain⟨v4, vs4, d4, ds4, p4, q4, rfl, rfl, rfl, h4, r4⟩ := trodAll_cons r3
  obtain⟨rfl, rfl, rfl⟩ := trodAll_nil r4
  obtain rfl : args = #[v0, v1, v2, v3, v4] := by cases args; simp_all
  obtain⟨rfl, rfl⟩ := trodVars_none hV
  obtain⟨a0, len0, cap0, rfl⟩ := okWide_slice Tryz.underlying35 (hval 0 35 v0 rfl rfl)
  have k0 := h0
  have lt0 : ∀x ∈ p0, x.block < W.heap.size := by obtain⟨m, hm⟩ := k0; exact DataW.trod_lt m _ _ _ hm
  obtain⟨z0, w0, e0⟩ := GU h0
  obtain⟨a1, len1, cap1, rfl⟩ := okWide_slice Tryz.underlying35 (hval 1 35 v1 rfl rfl)
  have k1 := h1
  have lt1 : ∀x ∈ p1, x.block < W.heap.size := by obtain⟨m, hm⟩ := k1; exact DataW.trod_lt m _ _ _ hm
  obtain⟨z1, w1, e1⟩ := GU h1
  obtain⟨a2, len2, cap2, rfl⟩ := okWide_slice Tryz.underlying36 (hval 2 36 v2 rfl rfl)
  have k2 := h2
  have lt2 : ∀x ∈ p2, x.block < W.heap.size := by obtain⟨m, hm⟩ := k2; exact DataW.trod_lt m _ _ _ hm
  obtain⟨z2, w2, e2⟩ := Um h2
  obtain⟨a3, rfl, rfl, rfl, w3⟩ := open_int Tryz.underlying3 (hval 3 3 v3 rfl rfl) h3
  obtain⟨a4, rfl, rfl, rfl, w4⟩ := open_int Tryz.underlying3 (hval 4 3 v4 rfl rfl) h4
  have bd0 := wV hsz (j := 0) rfl rfl w0.cap e0
  have bd1 := wV hsz (j := 1) rfl rfl w1.cap e1
  have bd2 := G6 hsz (j := 2) rfl rfl w2.cap e2
  clear uG
  have rg : ∀{k : Int}, Lit.wf (.int .i64 k) = true → -9223372036854775808 ≤ k ∧ k ≤ 9223372036854775807 := λ{k} h => by
    simp[Lit.wf, IntKind.min, IntKind.max, IntKind.signed, IntKind.bits] at h
    omega
  refine(vU a0 len0 cap0 z0 a1 len1 cap1 z1 a2 len2 cap2 z2 a3 a4 W (table hL) w0 w1 w2 bd0 bd1 bd2 (rg w3) (rg w4)).mono λe W' ⟨he, aB⟩ => ?_
  subst he
  exact⟨_, rfl, _, _, _, [], _, [], hW', trodAll_mk1 (shut_bool Tryz.underlying4 _), (trodAll_cons_mk (Below.trod laidOut (by kernel_rfl) (of_decide_eq_true (by kernel_rfl)) k0 aB lt0) (trodAll_cons_mk (Below.trod laidOut (by kernel_rfl) (of_decide_eq_true (by kernel_rfl)) k1 aB lt1) (trodAll_cons_mk (Below.trod laidOut (by kernel_rfl) (of_decide_eq_true (by kernel_rfl)) k2 aB lt2) (trodAll_cons_mk (shut_int Tryz.underlying3 w3) (trodAll_cons_mk (shut_int Tryz.underlying3 w4) trodAll_mk0))))), rfl, aB.frame _, λh => by cases h⟩

noncomputable def vV (os : Os) : World :=
  { World.holding Tryz.prog os ⟨#[], #[], []⟩ with heap := (World.holding Tryz.prog os ⟨#[], #[], []⟩).heap.modify 1 fun
      | .cells _ t frozen => .cells #[.int .u8 0, .int .u8 1, .int .u8 28, .int .u8 2, .int .u8 29, .int .u8 14, .int .u8 24, .int .u8 3, .int .u8 30, .int .u8 22, .int .u8 20, .int .u8 15, .int .u8 25, .int .u8 17, .int .u8 4, .int .u8 8, .int .u8 31, .int .u8 27, .int .u8 13, .int .u8 23, .int .u8 21, .int .u8 19, .int .u8 16, .int .u8 7, .int .u8 26, .int .u8 12, .int .u8 18, .int .u8 6, .int .u8 11, .int .u8 5, .int .u8 10, .int .u8 9] t frozen
      | o => o }
theorem Ur(os : Os) : laidMet Tryz.prog Rows.momentLawsRow.laid ((vV os).forCall (λ_ _ => 0) ⟨#[], #[.slice none 0 0, .slice none 0 0, .slice none 0 0, .int .i64 0, .int .i64 0], []⟩).memory :=
  laidMet_of_run' 40 (by kernel_rfl) (by kernel_rfl)
theorem reads(os : Os){H : Type}(enc : TypeId × Value → H) : ∃places, DataW.whole enc Tryz.prog ((vV os).forCall (λ_ _ => 0) ⟨#[], #[.slice none 0 0, .slice none 0 0, .slice none 0 0, .int .i64 0, .int .i64 0], []⟩).memory Tryz.f4.params.toList Rows.momentLawsSpec.vars false (#[.slice none 0 0, .slice none 0 0, .slice none 0 0, .int .i64 0, .int .i64 0] : Array Value).toList 8 = some ([.nil, .nil, .nil, .lit (.int .i64 0), .lit (.int .i64 0)], [], places) :=
  ⟨[], by kernel_rfl⟩

set_option maxRecDepth 100000 in
theorem lifted(os : Os)(started : os.Started)(H : Type)(enc : TypeId × Value → H)(F : Stop.Interp) :
    ReturnsInHanded {} Tryz.checked os 4 .any ((OpenSpec.ofChange Rows.momentLawsSpec).preRow enc Tryz.prog Tryz.f4 Rows.momentLawsRow.domain false Rows.momentLawsRow.laid) (((OpenSpec.ofChange Rows.momentLawsSpec).at F).post enc Tryz.prog Tryz.f4 false true false false) := by
  obtain⟨places, hx⟩ := reads os enc
  refine returnsInHanded_of_row (C := Tryz.checked) (s := (OpenSpec.ofChange Rows.momentLawsSpec)) own started (by kernel_rfl) Tryz.func4
    (witness_row_at (enc := enc) (C := Tryz.checked) false (vV os) #[.slice none 0 0, .slice none 0 0, .slice none 0 0, .int .i64 0, .int .i64 0] rfl (by kernel_rfl) (by kernel_rfl) (by kernel_rfl)
      (OpenSpec.preRow_of_cond 8 hx (by kernel_rfl) (λk hk => by cases hk) (by kernel_rfl) (Ur os))) ?_
  intro W base args ds gs before hval hW hcnd hcond hsz hL hshape hholds
  exact contract H enc W base args ds gs before hval hW hL hsz

theorem said : Rows.MomentLawsSaid :=
  OpenClaim.holds_of_cond 4 Tryz.f4 rfl rfl rfl rfl rfl rfl rfl ⟨rfl, rfl, rfl, rfl, rfl⟩ rfl rfl rfl rfl rfl (by kernel_rfl) Tryz.func4 (by kernel_rfl)
    (of_decide_eq_true (by kernel_rfl)) (by unfold Func.isWrapper; first | (rw[if_pos (by decide +kernel)]; kernel_rfl) | (rw[if_neg (by decide +kernel)]; exact⟨rfl, rfl⟩))
    (λos started H enc _ F => by rw[OpenClaim.pre_eq_preRow]; exact lifted os started H enc F)

theorem plain(f : FuncId)(fn : Func)(hf : Tryz.pinned.checked.prog.funcNamed "steelyard/steelyardlaw14.MomentLaws" = some f)(hfn : Tryz.pinned.checked.prog.funcs[f]? = some fn) :
    false = Tryz.pinned.checked.prog.looks [] ∧ ∀(j : Nat) t, fn.params[j]? = some t → Tryz.pinned.checked.prog.wantsStandIn t = false := by
  obtain rfl : f = 4 := Option.some.inj ((show Tryz.prog.funcNamed "steelyard/steelyardlaw14.MomentLaws" = some 4 by kernel_rfl).symm.trans hf) |>.symm
  obtain rfl : fn = Tryz.f4 := (Option.some.inj (Tryz.func4.symm.trans hfn)).symm
  refine⟨by kernel_rfl, λj t ht => ?_⟩
  rw[Tryz.params4] at ht
  have ht2 : t = 35 ∨ t = 36 ∨ t = 3 := by have := Array.mem_of_getElem? ht; first | (simpa using this) | (simp at this; grind)
  rcases ht2 with rfl | rfl | rfl
  . exact(show Tryz.prog.wantsStandIn 35 = false by kernel_rfl)
  . exact(show Tryz.prog.wantsStandIn 36 = false by kernel_rfl)
  . exact(show Tryz.prog.wantsStandIn 3 = false by kernel_rfl)
end Go.Proofs.YtfmfhehbdfhnbaaGreatDoor.momentLaws

namespace Go.Proofs.YtfmfhehbdfhnbaaGreatDoor
theorem momentLaws_card : Rows.MomentLawsCardSaid :=
  Claim7.holds_tied_plain_at .later [] _ _ _ _ momentLaws.said (λ_ h => by cases h) (by kernel_rfl) (λ_ h => by cases h) momentLaws_row_tie rfl ⟨rfl, rfl⟩ (by kernel_rfl) rfl momentLaws.plain (by kernel_rfl)
#print axioms momentLaws_card
end Go.Proofs.YtfmfhehbdfhnbaaGreatDoor
