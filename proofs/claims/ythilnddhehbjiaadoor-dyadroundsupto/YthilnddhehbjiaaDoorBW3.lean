/- What Split and Class of the document, Class, and Same answer, at every number; when two Parts are the same. -/
import Derived.Test.YthilnddhehbjiaaDoorBExtx
import Derived.Laws.StructEq
namespace Go.Proofs.YthilnddhehbjiaaDoor.B
set_option linter.unusedVariables false
set_option maxRecDepth 20000
open Go.RowKit
attribute [local go_sem] f64bits f64frombits

theorem eqParts (a c : Bool) (k l x y f g : Int) (w : World) : (Op.equalIn 10000 85 (.agg #[.bool a, .int .i64 k, .int .i64 x, .int .u64 f]) (.agg #[.bool c, .int .i64 l, .int .i64 y, .int .u64 g])).run Tryd.prog w = .ok (a == c && (k == l && (x == y && f == g))) w := by
  have u3 := Tryd.underlying3
  have u4 := Tryd.underlying4
  have u23 := Tryd.underlying67
  have hS : Tryd.prog.underlying 85 = some (.struct (Tryd.prog.fieldsOf 85)) := by kernel_rfl
  have hp : Tryd.prog.stoodInHeld 85 = false := by kernel_rfl
  rw [show (10000 : Nat) = 9999 + 1 from rfl, run_equalIn_agg w 9999 85 _ _ hS hp]
  simp only [Program.fieldsOf, Tryd.underlying85]
  go_simp
  by_cases h1 : a = c <;> by_cases h2 : k = l <;> by_cases h3 : x = y <;> by_cases h4 : f = g <;> simp [h1, h2, h3, h4]
attribute [local go_sem] eqParts

theorem fld0 (a : Bool) (k x f : Int) (w : World) : (Instr.field 85 (.agg #[.bool a, .int .i64 k, .int .i64 x, .int .u64 f]) 0).run Tryd.prog w = .ok (.bool a) w := by kernel_rfl
theorem fld1 (a : Bool) (k x f : Int) (w : World) : (Instr.field 85 (.agg #[.bool a, .int .i64 k, .int .i64 x, .int .u64 f]) 1).run Tryd.prog w = .ok (.int .i64 k) w := by kernel_rfl
theorem fld2 (a : Bool) (k x f : Int) (w : World) : (Instr.field 85 (.agg #[.bool a, .int .i64 k, .int .i64 x, .int .u64 f]) 2).run Tryd.prog w = .ok (.int .i64 x) w := by kernel_rfl
theorem fld3 (a : Bool) (k x f : Int) (w : World) : (Instr.field 85 (.agg #[.bool a, .int .i64 k, .int .i64 x, .int .u64 f]) 3).run Tryd.prog w = .ok (.int .u64 f) w := by kernel_rfl
attribute [local go_sem] fld0 fld1 fld2 fld3

theorem cb_bw (s : Bool) (e f : Nat) (he : e < 2048) (hf : f < 4503599627370496) : ∃ t u v, u < 2048 ∧ v < 4503599627370496 ∧ cb s e f = bw t u v ∧ (Value.agg #[.bool (ng t u v), .int .i64 (cls u v), .int .i64 (xp u), .int .u64 (fr u v)]) = (.agg #[.bool (ng s e f), .int .i64 (cls e f), .int .i64 (xp e), .int .u64 (fr e f)]) := by
  by_cases h : e = 2047 ∧ f ≠ 0
  · refine ⟨false, 2047, 2251799813685248, by omega, by omega, ?_, ?_⟩
    · rw [cb_odd s e f h]; rfl
    · obtain ⟨rfl, h2⟩ := h
      simp [ng, cls, xp, fr, h2]
  · exact ⟨s, e, f, he, hf, cb_else s e f h, rfl⟩

end Go.Proofs.YthilnddhehbjiaaDoor.B
