/- The walk of BitsJoins: at any parts it returns true and changes nothing that was there. -/
import Derived.Test.YtedknjiipmppgaaW12
namespace Go.Proofs.Ytedknjiipmppgaa
open Go.RowKit
attribute [local go_sem] f64bits f64frombits

set_option maxHeartbeats 2000000 in
theorem joins_any (n : Bool) (c x g : Int) (B : Nat) (k : Int)
    (H1 : Hid (∀ w, Calls Try.prog 18 #[.agg #[.bool n, .int .i64 c, .int .i64 x, .int .u64 g]] w fun r w' => r = .returned (.tuple #[.float .f64 B, .int .i64 k]) ∧ Below w.heap.size w w'))
    (H2 : Hid (∀ w, Calls Try.prog 19 #[.agg #[.bool n, .int .i64 c, .int .i64 x, .int .u64 g]] w fun r w' => r = .returned (.tuple #[.float .f64 B, .int .i64 k]) ∧ Below w.heap.size w w')) (w : World) :
    Calls Try.prog 5 #[.agg #[.bool n, .int .i64 c, .int .i64 x, .int .u64 g]] w fun r w' => r = .returned (.bool true) ∧ Below w.heap.size w w' := by
  go_enter Try.func5, Try.ntmps5
  go_wp2_with fail
  refine (live_any _).mono ?_
  rintro r w1 ⟨rfl, b1⟩
  obtain ⟨hc1, hf1⟩ := bcell b1
  have z1 : w.heap.size < w1.heap.size := by (have := b1.size; simp at this; omega)
  have B1 : Below w.heap.size w w1 := ((Below.refl _ _).alloc (Nat.le_refl _) _).trans (b1.mono (by simp))
  clear b1
  go_wp2_with fail
  refine (H1.out _).mono ?_
  rintro r w2 ⟨rfl, b2⟩
  obtain ⟨hc2, hf2⟩ := bcell b2
  have B2 : Below w.heap.size w w2 := B1.trans (b2.mono B1.size)
  go_wp2_with fail
  refine (H2.out _).mono ?_
  rintro r w3 ⟨rfl, b3⟩
  have B3 : Below w.heap.size w w3 := B2.trans (b3.mono B2.size)
  clear hc1 hf1 hc2 hf2
  go_wp2_with (go_at_call 20; refine (exact_same _ _).mono ?_; rintro r w4 ⟨rfl, rfl⟩)
  go_ret
  exact ⟨rfl, B3⟩

theorem wfu64 {g : Int} (h : (Lit.int .u64 g).wf = true) : 0 ≤ g ∧ g < 18446744073709551616 := by
  simp [Lit.wf, IntKind.min, IntKind.max, IntKind.bits, IntKind.signed] at h; omega

theorem walk_BitsJoins (n : Bool) (c x g : Int) (_ : (Lit.int .i64 c).wf = true) (_ : (Lit.int .i64 x).wf = true) (hg : (Lit.int .u64 g).wf = true) (w : World) :
    Calls Try.prog 5 #[.agg #[.bool n, .int .i64 c, .int .i64 x, .int .u64 g]] w fun r w' => r = .returned (.bool true) ∧ Below w.heap.size w w' := by
  have h := wfu64 hg
  obtain ⟨m, rfl⟩ := Int.eq_ofNat_of_zero_le h.1
  obtain ⟨B, k, _, H1, H2⟩ := joins_alike n c x m (by omega)
  exact joins_any n c x m B k H1 H2 w
end Go.Proofs.Ytedknjiipmppgaa
