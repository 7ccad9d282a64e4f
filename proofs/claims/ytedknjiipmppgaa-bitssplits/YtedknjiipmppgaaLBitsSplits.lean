/- The walk of BitsSplits: at any two numbers it returns true and changes nothing that was there. -/
import Derived.Test.YtedknjiipmppgaaW7
namespace Go.Proofs.Ytedknjiipmppgaa
open Go.RowKit
attribute [local go_sem] f64bits f64frombits
set_option maxHeartbeats 2000000 in
theorem splits_any (s t : Bool) (e f u v : Nat) (he : e < 2048) (hf : f < 4503599627370496) (hu : u < 2048) (hv : v < 4503599627370496) (w : World) :
    Calls Try.prog 4 #[.float .f64 (bw s e f), .float .f64 (bw t u v)] w fun r w' => r = .returned (.bool true) ∧ Below w.heap.size w w' := by
  go_enter Try.func4, Try.ntmps4
  go_wp2_with fail
  refine (live_any _).mono ?_
  rintro r w1 ⟨rfl, b1⟩
  go_wp2_with fail
  refine (Split_any s e f he hf _).mono ?_
  rintro r w2 ⟨rfl, b2⟩
  replace b2 := b1.trans (b2.mono b1.size); clear b1
  go_wp2_with fail
  refine (rSplit_any s e f he hf _).mono ?_
  rintro r w3 ⟨rfl, b3⟩
  replace b3 := b2.trans (b3.mono b2.size); clear b2
  go_wp2_with fail
  refine (Split_any t u v hu hv _).mono ?_
  rintro r w4 ⟨rfl, b4⟩
  replace b4 := b3.trans (b4.mono b3.size); clear b3
  go_wp2_with fail
  refine (rSplit_any t u v hu hv _).mono ?_
  rintro r w5 ⟨rfl, b5⟩
  replace b5 := b4.trans (b5.mono b4.size); clear b4
  go_wp2_with fail
  refine (Class_any s e f he hf _).mono ?_
  rintro r w6 ⟨rfl, b6⟩
  replace b6 := b5.trans (b6.mono b5.size); clear b5
  go_wp2_with fail
  refine (rClass_any s e f he hf _).mono ?_
  rintro r w7 ⟨rfl, b7⟩
  replace b7 := b6.trans (b7.mono b6.size); clear b6
  go_wp2_with fail
  refine (Same_any s t e f u v he hf hu hv _).mono ?_
  rintro r w8 ⟨rfl, rfl⟩
  go_wp2_with fail
  refine (rSame_any s t e f u v he hf hu hv _).mono ?_
  rintro r w9 ⟨rfl, rfl⟩
  go_wp2_with fail
  refine (Same_any s s e f e f he hf he hf _).mono ?_
  rintro r w9 ⟨rfl, rfl⟩
  go_wp2_with fail
  go_ret
  exact ⟨rfl, b7⟩

theorem wf64 {b : Nat} (h : (Lit.float .f64 b).wf = true) : b < 18446744073709551616 := by
  simpa [Lit.wf] using h

theorem walk_BitsSplits (a b : Nat) (ha : (Lit.float .f64 a).wf = true) (hb : (Lit.float .f64 b).wf = true) (w : World) :
    Calls Try.prog 4 #[.float .f64 a, .float .f64 b] w fun r w' => r = .returned (.bool true) ∧ Below w.heap.size w w' := by
  obtain ⟨s, e, f, he, hf, rfl⟩ := bw_of a (wf64 ha)
  obtain ⟨t, u, v, hu, hv, rfl⟩ := bw_of b (wf64 hb)
  exact splits_any s t e f u v he hf hu hv w
end Go.Proofs.Ytedknjiipmppgaa
