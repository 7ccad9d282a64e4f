/- Dyads that came in: what their reading tells. -/
import Derived.Test.YthilnddhehbjiaaDoorD28
import Derived.Test.YthilnddhehbjiaaDoorW38
import Derived.ProofKit
import Derived.OpenShut
import Derived.ChangeOld
import Derived.ChangeArms
namespace Go.Proofs.YthilnddhehbjiaaDoor
open Go.ChangeShapes Go.WideShapes Go.ChangeAt Go.RowKit
set_option linter.unusedVariables false
set_option maxRecDepth 20000

/-- A Dyad that came in. -/
structure CameD (w : World) (a : Option Addr) (n c : Nat) (xs : List Nat) (e : Int) : Prop where
  came : Came w a n c xs
  lo : -9223372036854775808 ≤ e
  hi : e ≤ 9223372036854775807

theorem dyad_of {H : Type} {enc : TypeId × Value → H} {W : World} {r : Reach} {b0 : Nat} {v : Value} {d : DataW H} {p : List MemPlace} (hv : Value.okWide Tryd.prog W r b0 39 v) (h : DataW.Trod enc Tryd.prog W 0 (fun _ => true) true 39 v d p) :
    ∃ (ng : Bool) (a : Option Addr) (n c : Nat) (e : Int) (xs : List Nat) (d1 : DataW H), v = .agg #[.bool ng, .slice a n c, .int .i64 e] ∧ CameD W a n c xs e ∧ d = .agg [.lit (.bool ng), d1, .lit (.int .i64 e)] ∧
      ((d1 = .nil ∧ c = 0) ∨ ∃ elems spare : List (DataW H), d1 = .slice elems spare ∧ elems.length + spare.length = c ∧ (∀ e ∈ elems, ∃ l, e = .lit (.int .u32 l)) ∧ ∀ e ∈ spare, ∃ l, e = .lit (.int .u32 l)) := by
  obtain ⟨cs, rfl, hsz⟩ := okWide_struct Tryd.underlying39 hv
  obtain ⟨fuel, hf⟩ := h
  have hC : Tryd.prog.cellsOf 39 = 3 := by kernel_rfl
  have c4 : Tryd.prog.cellsOf 4 = 1 := by kernel_rfl
  have c3 : Tryd.prog.cellsOf 3 = 1 := by kernel_rfl
  have cN : Tryd.prog.cellsOf 23 = 1 := by kernel_rfl
  obtain ⟨xs, k, rfl, hx, hl, hxl, hfs⟩ := DataW.trod_struct Tryd.underlying39 hf
  rw [hC] at hsz
  obtain ⟨c0, c1, c2, rfl⟩ : ∃ c0 c1 c2, cs = #[c0, c1, c2] := by
    obtain ⟨l⟩ := cs
    match l, hsz with
    | [a, b, c], _ => exact ⟨a, b, c, rfl⟩
  have h0 : DataW.trod enc Tryd.prog W 0 (fun _ => true) true k 4 (List.take (Tryd.prog.cellsOf 4) (List.drop 0 [c0, c1, c2])) = xs[0]? := hfs 0 _ rfl
  have h1 : DataW.trod enc Tryd.prog W 0 (fun _ => true) true k 23 (List.take (Tryd.prog.cellsOf 23) (List.drop 1 [c0, c1, c2])) = xs[1]? := hfs 1 _ rfl
  have h2 : DataW.trod enc Tryd.prog W 0 (fun _ => true) true k 3 (List.take (Tryd.prog.cellsOf 3) (List.drop 2 [c0, c1, c2])) = xs[2]? := hfs 2 _ rfl
  rw [c4] at h0
  rw [cN] at h1
  rw [c3] at h2
  replace h0 : DataW.trod enc Tryd.prog W 0 (fun _ => true) true k 4 [c0] = xs[0]? := h0
  replace h1 : DataW.trod enc Tryd.prog W 0 (fun _ => true) true k 23 [c1] = xs[1]? := h1
  replace h2 : DataW.trod enc Tryd.prog W 0 (fun _ => true) true k 3 [c2] = xs[2]? := h2
  match xs, hxl with
  | [x0, x1, x2], _ =>
    obtain ⟨ng, e0, rfl⟩ := DataW.trod_bool Tryd.underlying4 h0
    obtain ⟨e, e2, rfl, hw⟩ := DataW.trod_int Tryd.underlying3 h2
    cases e0
    cases e2
    have hs : ∃ a n c, c1 = .slice a n c := by
      rcases DataW.trod_slice Tryd.underlying23 h1 with ⟨q, _⟩ | ⟨a, len, cap, _, _, _, _, q, _⟩
      · cases q; exact ⟨_, _, _, rfl⟩
      · cases q; exact ⟨_, _, _, rfl⟩
    obtain ⟨a, n, c, rfl⟩ := hs
    obtain ⟨ys, hy, hd⟩ := came_of (a := a) (n := n) (c := c) (d := x1.1) (p := x1.2) ⟨k, h1⟩
    have hw' : -9223372036854775808 ≤ e ∧ e ≤ 9223372036854775807 := by
      simp [Lit.wf, IntKind.min, IntKind.max, IntKind.signed, IntKind.bits] at hw
      omega
    refine ⟨ng, a, n, c, e, ys, x1.1, rfl, ⟨hy, hw'.1, hw'.2⟩, ?_, hd⟩
    have := (Prod.mk.inj hx).1
    simpa using this
end Go.Proofs.YthilnddhehbjiaaDoor
