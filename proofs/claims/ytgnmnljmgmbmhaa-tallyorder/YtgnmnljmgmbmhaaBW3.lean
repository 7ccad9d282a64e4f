/- What Split and Class of the document, Class, and Same answer, at every number; when two Parts are the same. -/
import Derived.Test.YtgnmnljmgmbmhaaBW2
import Derived.Laws.StructEq
namespace Go.Proofs.Ytgnmnljmgmbmhaa.B
set_option linter.unusedVariables false
set_option maxRecDepth 20000
open Go.RowKit
attribute [local go_sem] f64bits f64frombits
theorem eqParts (a c : Bool) (k l x y f g : Int) (w : World) : (Op.equalIn 10000 92 (.agg #[.bool a, .int .i64 k, .int .i64 x, .int .u64 f]) (.agg #[.bool c, .int .i64 l, .int .i64 y, .int .u64 g])).run Try.prog w = .ok (a == c && (k == l && (x == y && f == g))) w := by
  have u3 := Try.underlying3
  have u4 := Try.underlying4
  have u23 := Try.underlying56
  have hS : Try.prog.underlying 92 = some (.struct (Try.prog.fieldsOf 92)) := by kernel_rfl
  have hp : Try.prog.stoodInHeld 92 = false := by kernel_rfl
  rw [show (10000 : Nat) = 9999 + 1 from rfl, run_equalIn_agg w 9999 92 _ _ hS hp]
  simp only [Program.fieldsOf, Try.underlying92]
  go_simp
  by_cases h1 : a = c <;> by_cases h2 : k = l <;> by_cases h3 : x = y <;> by_cases h4 : f = g <;> simp [h1, h2, h3, h4]
attribute [local go_sem] eqParts
theorem fld0 (a : Bool) (k x f : Int) (w : World) : (Instr.field 92 (.agg #[.bool a, .int .i64 k, .int .i64 x, .int .u64 f]) 0).run Try.prog w = .ok (.bool a) w := by kernel_rfl
theorem fld1 (a : Bool) (k x f : Int) (w : World) : (Instr.field 92 (.agg #[.bool a, .int .i64 k, .int .i64 x, .int .u64 f]) 1).run Try.prog w = .ok (.int .i64 k) w := by kernel_rfl
theorem fld2 (a : Bool) (k x f : Int) (w : World) : (Instr.field 92 (.agg #[.bool a, .int .i64 k, .int .i64 x, .int .u64 f]) 2).run Try.prog w = .ok (.int .i64 x) w := by kernel_rfl
theorem fld3 (a : Bool) (k x f : Int) (w : World) : (Instr.field 92 (.agg #[.bool a, .int .i64 k, .int .i64 x, .int .u64 f]) 3).run Try.prog w = .ok (.int .u64 f) w := by kernel_rfl
attribute [local go_sem] fld0 fld1 fld2 fld3
set_option maxHeartbeats 1000000 in
theorem Class_any (s : Bool) (e f : Nat) (he : e < 2048) (hf : f < 4503599627370496) (w : World) :
    Calls Try.prog 50 #[.float .f64 (bw s e f)] w fun r w' => r = .returned (.int .i64 (cls e f)) ∧ Below w.heap.size w w' := by
  go_enter Try.func50, Try.ntmps50
  go_wp2_with (go_at_call 62; refine (Split_any s e f he hf _).mono ?_; rintro r w1 ⟨rfl, hb⟩)
  go_ret
  exact ⟨rfl, hb⟩

set_option maxHeartbeats 1000000 in
theorem rSame_any (s t : Bool) (e f u v : Nat) (he : e < 2048) (hf : f < 4503599627370496) (hu : u < 2048) (hv : v < 4503599627370496) (w : World) :
    Calls Try.prog 17 #[.float .f64 (bw s e f), .float .f64 (bw t u v)] w fun r w' => r = .returned (.bool (decide (cb s e f = cb t u v))) ∧ w' = w := by
  have h1 : ((cb s e f : Int) == (cb t u v : Int)) = decide (cb s e f = cb t u v) := by
    rw [Bool.eq_iff_iff]; simp; omega
  go_enter Try.func17, Try.ntmps17
  go_wp2_with fail
  refine (rBits_any s e f he hf _).mono ?_
  rintro r w1 ⟨rfl, rfl⟩
  go_wp2_with fail
  refine (rBits_any t u v hu hv _).mono ?_
  rintro r w1 ⟨rfl, rfl⟩
  go_wp2_with fail
  go_ret
  exact ⟨rfl, rfl⟩

set_option maxHeartbeats 1000000 in
theorem Same_any (s t : Bool) (e f u v : Nat) (he : e < 2048) (hf : f < 4503599627370496) (hu : u < 2048) (hv : v < 4503599627370496) (w : World) :
    Calls Try.prog 47 #[.float .f64 (bw s e f), .float .f64 (bw t u v)] w fun r w' => r = .returned (.bool (decide (cb s e f = cb t u v))) ∧ w' = w := by
  cases h1 : odd e f
  · cases h2 : odd u v
    · have h3 : ((bw s e f : Int) == (bw t u v : Int)) = decide (cb s e f = cb t u v) := by
        rw [cb_else s e f (not_odd e f h1), cb_else t u v (not_odd u v h2), Bool.eq_iff_iff]; simp; omega
      go_enter Try.func47, Try.ntmps47
      go_wp2_with fail
      refine (isNaN_any s e f he hf _).mono ?_
      rintro r w1 ⟨rfl, rfl⟩
      go_wp2_with fail
      refine (isNaN_any t u v hu hv _).mono ?_
      rintro r w1 ⟨rfl, rfl⟩
      go_wp2_with fail
      go_ret
      exact ⟨rfl, rfl⟩
    · have h3 : decide (cb s e f = cb t u v) = false := by
        rw [cb_else s e f (not_odd e f h1), cb_odd t u v (is_odd u v h2)]
        exact decide_eq_false (bw_ne_nan s e f he hf h1)
      rw [h3]; clear h3
      go_enter Try.func47, Try.ntmps47
      go_wp2_with fail
      refine (isNaN_any s e f he hf _).mono ?_
      rintro r w1 ⟨rfl, rfl⟩
      go_wp2_with fail
      refine (isNaN_any t u v hu hv _).mono ?_
      rintro r w1 ⟨rfl, rfl⟩
      go_wp2_with fail
      refine (isNaN_any s e f he hf _).mono ?_
      rintro r w1 ⟨rfl, rfl⟩
      go_wp2_with fail
      go_ret
      exact ⟨rfl, rfl⟩
  · have h3 : decide (cb s e f = cb t u v) = odd u v := by
      rw [cb_odd s e f (is_odd e f h1)]
      cases h2 : odd u v
      · rw [cb_else t u v (not_odd u v h2)]
        exact decide_eq_false (fun h => bw_ne_nan t u v hu hv h2 h.symm)
      · rw [cb_odd t u v (is_odd u v h2)]; rfl
    rw [h3]; clear h3
    go_enter Try.func47, Try.ntmps47
    go_wp2_with fail
    refine (isNaN_any s e f he hf _).mono ?_
    rintro r w1 ⟨rfl, rfl⟩
    go_wp2_with fail
    refine (isNaN_any s e f he hf _).mono ?_
    rintro r w1 ⟨rfl, rfl⟩
    go_wp2_with fail
    refine (isNaN_any t u v hu hv _).mono ?_
    rintro r w1 ⟨rfl, rfl⟩
    go_wp2_with fail
    go_ret
    exact ⟨rfl, rfl⟩
end Go.Proofs.Ytgnmnljmgmbmhaa.B
