/- The walk of BitsBack, its cases put together. -/
import Derived.Test.YtedknjiipmppgaaLBitsBackA
import Derived.Test.YtedknjiipmppgaaLBitsBackB
import Derived.Test.YtedknjiipmppgaaLBitsBackC
namespace Go.Proofs.Ytedknjiipmppgaa
open Go.RowKit

theorem back_wf64 {b : Nat} (h : (Lit.float .f64 b).wf = true) : b < 18446744073709551616 := by
  simpa [Lit.wf] using h
theorem back_wfu64 {g : Int} (h : (Lit.int .u64 g).wf = true) : 0 ≤ g ∧ g < 18446744073709551616 := by
  simp [Lit.wf, IntKind.min, IntKind.max, IntKind.bits, IntKind.signed] at h; omega

theorem walk_BitsBack (a : Nat) (n : Bool) (c x g : Int) (ha : (Lit.float .f64 a).wf = true) (_ : (Lit.int .i64 c).wf = true) (_ : (Lit.int .i64 x).wf = true) (hg : (Lit.int .u64 g).wf = true) (w : World) :
    Calls Try.prog 6 #[.float .f64 a, .agg #[.bool n, .int .i64 c, .int .i64 x, .int .u64 g]] w fun r w' => r = .returned (.bool true) ∧ Below w.heap.size w w' := by
  obtain ⟨s, e, f, he, hf, rfl⟩ := bw_of a (back_wf64 ha)
  have h := back_wfu64 hg
  obtain ⟨m, rfl⟩ := Int.eq_ofNat_of_zero_le h.1
  obtain ⟨B, k, hk, HP, _⟩ := joins_alike n c x m (by omega)
  have HX := join_valid s e f he hf
  rcases hk with ⟨rfl, s', e', f', he', hf', rfl, hv⟩ | ⟨rfl, rfl⟩
  · obtain ⟨t, u, v, hu, hv2, hB, hV⟩ := cb_bw s' e' f' he' hf'
    rw [hB] at HP
    have hp : (Value.agg #[.bool n, .int .i64 c, .int .i64 x, .int .u64 (m : Int)]) = .agg #[.bool (ng t u v), .int .i64 (cls u v), .int .i64 (xp u), .int .u64 (fr u v)] := by
      rw [hV, ← hv]; rfl
    rw [hp] at HP ⊢
    cases ho : odd e f
    · rw [cb_else s e f (not_odd e f ho)] at HX
      exact back_even_has s e f he hf ho HX t u v hu hv2 HP w
    · rw [cb_odd s e f (is_odd e f ho)] at HX
      exact back_odd_has s e f he hf ho HX t u v hu hv2 HP w
  · cases ho : odd e f
    · rw [cb_else s e f (not_odd e f ho)] at HX
      exact back_even_not s e f he hf ho HX n c x m HP w
    · rw [cb_odd s e f (is_odd e f ho)] at HX
      exact back_odd_not s e f he hf ho HX n c x m HP w
end Go.Proofs.Ytedknjiipmppgaa
