/- MomentOfUpto, for every input of at most 1048576 values and letters: the call returns true, and what it was handed reads as before. The table of the library that Low reads by (math/bits.deBruijn32tab) is tied to the program's text by the given tie. No other condition. -/
import Derived.Test.YtfmfhehbdfhnbaaGreatDoorCards
import Derived.Test.YtfmfhehbdfhnbaaGreatDoorTie
import Derived.Test.YtfmfhehbdfhnbaaGreatDoorLMomentOfx
import Derived.WalkKit
import Derived.ProofKit
import Derived.OpenShut
import Derived.ShutString
import Derived.ChangeOld
import Derived.Below
import Derived.Deep.DeepHandedRow
import Derived.Lib.LaidTab
import Derived.SizedLaws
namespace Go.Proofs.YtfmfhehbdfhnbaaGreatDoor.momentOf
open Go.ChangeShapes Go.WideShapes Go.ChangeAt Go.RowKit
open Go.ChangeMaps (open_string shut_string)
set_option linter.unusedVariables false
set_option maxRecDepth 20000

theorem own : ownKnob Tryz.prog.godebug = none := by kernel_rfl
theorem laidOut : laidOutB Tryz.prog = true := by kernel_rfl
theorem YM : Tryz.prog.globalNamed "math/bits.deBruijn32tab" = some 1 := by kernel_rfl
theorem PO : (Tryz.prog.globals[1]?).map (·.type) = some 189 := by kernel_rfl
theorem PQ : Tryz.prog.cellsOf 189 = 32 := by kernel_rfl
theorem cells5 : Tryz.prog.cellsOf 5 = 1 := by kernel_rfl

def YN : List Int := [0, 1, 28, 2, 29, 14, 24, 3, 30, 22, 20, 15, 25, 17, 4, 8, 31, 27, 13, 23, 21, 19, 16, 7, 26, 12, 18, 6, 11, 5, 10, 9]
theorem TQ : ∀ j : _root_.Fin 32, YN.getD j.val 0 = ((Lib.deBruijn32tab.getD j.val 0 : Nat) : Int) := by decide
theorem table {W : World} (h : laidMetH Tryz.prog Rows.momentOfUptoRow.laid W) : dJ W := by
  have T : Lib.TabIs Tryz.prog W "math/bits.deBruijn32tab" .u8 YN := Lib.tabIs_of_head (rest := []) YM PO Tryz.underlying189 Tryz.underlying5 cells5 PQ h
  intro j hj
  have h1 := T.cell YM j (show j < 32 from hj)
  rw [h1, ← TQ ⟨j, hj⟩]

theorem PR {H : Type} (d : DataW H) : 0 < Rows.uptoBulk d := by
  rcases d with l | _ | _ | _ | _ | _ | _ <;> first | (rcases l with _ | _ | _ | _ | _ <;> simp [Rows.uptoBulk]) | simp [Rows.uptoBulk]
theorem xD {H : Type} : ∀ l : List (DataW H), l.length ≤ Rows.uptoBulkAll l
  | [] => by simp
  | d :: r => by
    have h := PR d
    have k := xD r
    rw [Rows.uptoBulkAll, List.length_cons]; omega
theorem rR {H : Type} {d : DataW H} : ∀ {l : List (DataW H)}, d ∈ l → Rows.uptoBulk d ≤ Rows.uptoBulkAll l
  | x :: r, h => by
    rw [Rows.uptoBulkAll]
    rcases List.mem_cons.1 h with rfl | h
    · omega
    · have := rR h; omega
theorem TR {H : Type} {l : List (DataW H)} {d : DataW H} {n c : Nat} (h : Rows.uptoBulkAll l ≤ 1048576) (hm : d ∈ l) (hn : n ≤ c)
    (hc : (d = .nil ∧ c = 0) ∨ ∃ elems spare : List (DataW H), d = .slice elems spare ∧ elems.length + spare.length = c ∧ (∀ e ∈ elems, ∃ l, e = .lit (.int .u32 l)) ∧ ∀ e ∈ spare, ∃ l, e = .lit (.int .u32 l)) : n ≤ 1048576 := by
  have hb := rR hm
  rcases hc with ⟨_, rfl⟩ | ⟨elems, spare, rfl, hl, _⟩
  · omega
  · have h1 := xD elems
    have h2 := xD spare
    rw [Rows.uptoBulk] at hb
    omega
theorem YO {H : Type} {l : List (DataW H)} {bytes : List UInt8} (h : Rows.uptoBulkAll l ≤ 1048576) (hm : (DataW.lit (.string bytes) : DataW H) ∈ l) : bytes.length ≤ 1048576 := by
  have hb := rR hm
  rw [Rows.uptoBulk] at hb
  omega
theorem Dz {H : Type} {l : List (DataW H)} {x y d : DataW H} {n c : Nat} (h : Rows.uptoBulkAll l ≤ 1048576) (hm : DataW.agg [x, d, y] ∈ l) (hn : n ≤ c)
    (hc : (d = .nil ∧ c = 0) ∨ ∃ elems spare : List (DataW H), d = .slice elems spare ∧ elems.length + spare.length = c ∧ (∀ e ∈ elems, ∃ l, e = .lit (.int .u32 l)) ∧ ∀ e ∈ spare, ∃ l, e = .lit (.int .u32 l)) : n ≤ 1048576 := by
  have hb := rR hm
  rw [Rows.uptoBulk] at hb
  exact TR (l := [x, d, y]) (by omega) (by simp) hn hc

theorem contract (H : Type) (enc : TypeId × Value → H) (W : World) (base : Nat) (args : Array Value) (ds gs : List (DataW H)) (before : List MemPlace)
    (hval : ∀ (j : Nat) t v, Tryz.f3.params[j]? = some t → args[j]? = some v → Value.okWide Tryz.prog W .any base t v)
    (hW : DataW.Whole enc Tryz.prog Tryz.f3.params.toList Rows.momentOfSpec.vars false W args.toList ds gs before) (hL : laidMetH Tryz.prog Rows.momentOfUptoRow.laid W) (hk : Rows.uptoSmall H (ds ++ gs) = true) :
    Calls Tryz.prog 3 args W fun e W' => ∃ v, e = .returned v ∧ Rows.momentOfSpec.post enc Tryz.prog Tryz.f3 false true false false W args v W' := by
  have hW' := hW
  obtain ⟨p, q, rU, hV, rfl, hfz, hnd⟩ := hW
  have hA : DataW.TrodAll enc Tryz.prog W 0 (fun _ => true) true Tryz.f3.params.toList args.toList ds p := rU
  rw [Tryz.params3] at hA hval
  obtain ⟨v0, vs0, d0, ds0, p0, q0, hargs, rfl, rfl, h0, r0⟩ := trodAll_cons hA
  obtain ⟨v1, vs1, d1, ds1, p1, q1, rfl, rfl, rfl, h1, r1⟩ := trodAll_cons r0
  obtain ⟨v2, vs2, d2, ds2, p2, q2, rfl, rfl, rfl, h2, r2⟩ := trodAll_cons r1
  obtain ⟨v3, vs3, d3, ds3, p3, q3, rfl, rfl, rfl, h3, r3⟩ := trodAll_cons r2
  obtain ⟨v4, vs4, d4, ds4, p4, q4, rfl, rfl, rfl, h4, r4⟩ := trodAll_cons r3
  obtain ⟨rfl, rfl, rfl⟩ := trodAll_nil r4
  obtain rfl : args = #[v0, v1, v2, v3, v4] := by cases args; simp_all
  obtain ⟨rfl, rfl⟩ := trodVars_none hV
  obtain ⟨a0, rfl, rfl, rfl, w0⟩ := open_int Tryz.underlying3 (hval 0 3 v0 rfl rfl) h0
  have k1 := h1
  have lt1 : ∀ x ∈ p1, x.block < W.heap.size := by obtain ⟨m, hm⟩ := k1; exact DataW.trod_lt m _ _ _ hm
  obtain ⟨ng1, a1, len1, cap1, ex1, z1, dd1, rfl, w1, rfl, e1⟩ := Il (hval 1 25 v1 rfl rfl) h1
  have k2 := h2
  have lt2 : ∀ x ∈ p2, x.block < W.heap.size := by obtain ⟨m, hm⟩ := k2; exact DataW.trod_lt m _ _ _ hm
  obtain ⟨ng2, a2, len2, cap2, ex2, z2, dd2, rfl, w2, rfl, e2⟩ := Il (hval 2 25 v2 rfl rfl) h2
  obtain ⟨a3, rfl, rfl, rfl, w3⟩ := open_int Tryz.underlying3 (hval 3 3 v3 rfl rfl) h3
  obtain ⟨a4, rfl, rfl, rfl, w4⟩ := open_int Tryz.underlying3 (hval 4 3 v4 rfl rfl) h4
  have hu := of_decide_eq_true hk
  have bd1 := Dz hu (x := .lit (.bool ng1)) (y := .lit (.int .i64 ex1)) (d := dd1) (List.mem_append_left _ (by repeat (first | exact List.mem_cons_self | apply List.mem_cons_of_mem))) w1.came.2.1 e1
  have bd2 := Dz hu (x := .lit (.bool ng2)) (y := .lit (.int .i64 ex2)) (d := dd2) (List.mem_append_left _ (by repeat (first | exact List.mem_cons_self | apply List.mem_cons_of_mem))) w2.came.2.1 e2
  clear rU
  have hn0 : -9223372036854775808 ≤ a0 ∧ a0 ≤ 9223372036854775807 := by
    have w0' := w0
    simp [Lit.wf, IntKind.min, IntKind.max, IntKind.signed, IntKind.bits] at w0'
    omega
  refine (xC a0 ng1 a1 len1 cap1 ex1 z1 ng2 a2 len2 cap2 ex2 z2 a3 a4 W (table hL) hn0 w1 w2 bd1 bd2).mono fun e W' ⟨he, aB⟩ => ?_
  subst he
  exact ⟨_, rfl, _, _, _, [], _, [], hW', trodAll_mk1 (shut_bool Tryz.underlying4 _), (trodAll_cons_mk (shut_int Tryz.underlying3 w0) (trodAll_cons_mk (Below.trod laidOut (by kernel_rfl) (of_decide_eq_true (by kernel_rfl)) k1 aB lt1) (trodAll_cons_mk (Below.trod laidOut (by kernel_rfl) (of_decide_eq_true (by kernel_rfl)) k2 aB lt2) (trodAll_cons_mk (shut_int Tryz.underlying3 w3) (trodAll_cons_mk (shut_int Tryz.underlying3 w4) trodAll_mk0))))), rfl, aB.frame _, fun h => by cases h⟩

noncomputable def tQ (os : Os) : World :=
  { World.holding Tryz.prog os ⟨#[], #[], []⟩ with heap := (World.holding Tryz.prog os ⟨#[], #[], []⟩).heap.modify 1 fun
      | .cells _ t frozen => .cells #[.int .u8 0, .int .u8 1, .int .u8 28, .int .u8 2, .int .u8 29, .int .u8 14, .int .u8 24, .int .u8 3, .int .u8 30, .int .u8 22, .int .u8 20, .int .u8 15, .int .u8 25, .int .u8 17, .int .u8 4, .int .u8 8, .int .u8 31, .int .u8 27, .int .u8 13, .int .u8 23, .int .u8 21, .int .u8 19, .int .u8 16, .int .u8 7, .int .u8 26, .int .u8 12, .int .u8 18, .int .u8 6, .int .u8 11, .int .u8 5, .int .u8 10, .int .u8 9] t frozen
      | o => o }
theorem PS (os : Os) : laidMet Tryz.prog Rows.momentOfUptoRow.laid ((tQ os).forCall (fun _ _ => 0) ⟨#[], #[.int .i64 0, .agg #[.bool false, .slice none 0 0, .int .i64 0], .agg #[.bool false, .slice none 0 0, .int .i64 0], .int .i64 0, .int .i64 0], []⟩).memory :=
  laidMet_of_run' 40 (by kernel_rfl) (by kernel_rfl)
theorem reads (os : Os) {H : Type} (enc : TypeId × Value → H) : ∃ places, DataW.whole enc Tryz.prog ((tQ os).forCall (fun _ _ => 0) ⟨#[], #[.int .i64 0, .agg #[.bool false, .slice none 0 0, .int .i64 0], .agg #[.bool false, .slice none 0 0, .int .i64 0], .int .i64 0, .int .i64 0], []⟩).memory Tryz.f3.params.toList Rows.momentOfSpec.vars false (#[.int .i64 0, .agg #[.bool false, .slice none 0 0, .int .i64 0], .agg #[.bool false, .slice none 0 0, .int .i64 0], .int .i64 0, .int .i64 0] : Array Value).toList 8 = some ([.lit (.int .i64 0), .agg [.lit (.bool false), .nil, .lit (.int .i64 0)], .agg [.lit (.bool false), .nil, .lit (.int .i64 0)], .lit (.int .i64 0), .lit (.int .i64 0)], [], places) :=
  ⟨[], by kernel_rfl⟩

set_option maxRecDepth 100000 in
theorem lifted (os : Os) (started : os.Started) (H : Type) (enc : TypeId × Value → H) (F : Stop.Interp) :
    ReturnsInHanded {} Tryz.checked os 3 .any ((Rows.OpenSpec.upto Rows.momentOfSpec).preRow enc Tryz.prog Tryz.f3 Rows.momentOfUptoRow.domain false Rows.momentOfUptoRow.laid) (((Rows.OpenSpec.upto Rows.momentOfSpec).at F).post enc Tryz.prog Tryz.f3 false true false false) := by
  obtain ⟨places, hx⟩ := reads os enc
  refine returnsInHanded_of_row (C := Tryz.checked) (s := (Rows.OpenSpec.upto Rows.momentOfSpec)) own started (by kernel_rfl) Tryz.func3
    (witness_row_at (enc := enc) (C := Tryz.checked) false (tQ os) #[.int .i64 0, .agg #[.bool false, .slice none 0 0, .int .i64 0], .agg #[.bool false, .slice none 0 0, .int .i64 0], .int .i64 0, .int .i64 0] rfl (by kernel_rfl) (by kernel_rfl) (by kernel_rfl)
      (OpenSpec.preRow_of_cond 8 hx (by kernel_rfl) (fun k hk => by cases hk; kernel_rfl) (by kernel_rfl) (PS os))) ?_
  intro W base args ds gs before hval hW hcnd hcond hsz hL hshape hholds
  exact contract H enc W base args ds gs before hval hW hL (hcond _ rfl)

theorem said : Rows.MomentOfUptoSaid :=
  OpenClaim.holds_of_cond 3 Tryz.f3 rfl rfl rfl rfl rfl rfl rfl ⟨rfl, rfl, rfl, rfl, rfl⟩ rfl rfl rfl rfl rfl (by kernel_rfl) Tryz.func3 (by kernel_rfl)
    (of_decide_eq_true (by kernel_rfl)) (by unfold Func.isWrapper; first | (rw [if_pos (by decide +kernel)]; kernel_rfl) | (rw [if_neg (by decide +kernel)]; exact ⟨rfl, rfl⟩))
    (fun os started H enc _ F => by rw [OpenClaim.pre_eq_preRow]; exact lifted os started H enc F)

theorem plain (f : FuncId) (fn : Func) (hf : Tryz.pinned.checked.prog.funcNamed "steelyard/steelyardlaw14.MomentOf" = some f) (hfn : Tryz.pinned.checked.prog.funcs[f]? = some fn) :
    false = Tryz.pinned.checked.prog.looks [] ∧ ∀ (j : Nat) t, fn.params[j]? = some t → Tryz.pinned.checked.prog.wantsStandIn t = false := by
  obtain rfl : f = 3 := Option.some.inj ((show Tryz.prog.funcNamed "steelyard/steelyardlaw14.MomentOf" = some 3 by kernel_rfl).symm.trans hf) |>.symm
  obtain rfl : fn = Tryz.f3 := (Option.some.inj (Tryz.func3.symm.trans hfn)).symm
  refine ⟨by kernel_rfl, fun j t ht => ?_⟩
  rw [Tryz.params3] at ht
  have ht2 : t = 3 ∨ t = 25 := by have := Array.mem_of_getElem? ht; (simp at this; rcases this with h | h | h <;> simp [h])
  rcases ht2 with rfl | rfl
  · exact (show Tryz.prog.wantsStandIn 3 = false by kernel_rfl)
  · exact (show Tryz.prog.wantsStandIn 25 = false by kernel_rfl)
end Go.Proofs.YtfmfhehbdfhnbaaGreatDoor.momentOf

namespace Go.Proofs.YtfmfhehbdfhnbaaGreatDoor
theorem momentOfUpto_card : Rows.MomentOfUptoCardSaid :=
  Claim7.holds_tied_plain_at .later [] _ _ _ _ momentOf.said (fun _ h => by cases h) (by kernel_rfl) (fun _ h => by cases h) momentOfUpto_row_tie rfl ⟨rfl, rfl⟩ (by kernel_rfl) rfl momentOf.plain (by kernel_rfl)
#print axioms momentOfUpto_card
end Go.Proofs.YtfmfhehbdfhnbaaGreatDoor
