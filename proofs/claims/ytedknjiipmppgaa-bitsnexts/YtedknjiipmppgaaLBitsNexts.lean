/- The walk of BitsNexts: at any number it returns true and changes nothing that was there. -/
import Derived.Test.YtedknjiipmppgaaW12
import Derived.Test.YtedknjiipmppgaaW15
namespace Go.Proofs.Ytedknjiipmppgaa
open Go.RowKit
attribute [local go_sem] f64bits f64frombits

set_option maxHeartbeats 2000000 in
theorem nexts_core (X N P U : Nat)
    (H1 : Hid (∀ w, Calls Try.prog 22 #[.float .f64 X] w fun r w' => r = .returned (.float .f64 N) ∧ w' = w))
    (H2 : Hid (∀ w, Calls Try.prog 23 #[.float .f64 X] w fun r w' => r = .returned (.float .f64 N) ∧ Below w.heap.size w w'))
    (H3 : Hid (∀ w, Calls Try.prog 24 #[.float .f64 X] w fun r w' => r = .returned (.float .f64 P) ∧ w' = w))
    (H4 : Hid (∀ w, Calls Try.prog 25 #[.float .f64 X] w fun r w' => r = .returned (.float .f64 P) ∧ Below w.heap.size w w'))
    (H5 : Hid (∀ w, Calls Try.prog 26 #[.float .f64 X] w fun r w' => r = .returned (.float .f64 U) ∧ Below w.heap.size w w'))
    (H6 : Hid (∀ w, Calls Try.prog 27 #[.float .f64 X] w fun r w' => r = .returned (.float .f64 U) ∧ Below w.heap.size w w')) (w : World) :
    Calls Try.prog 7 #[.float .f64 X] w fun r w' => r = .returned (.bool true) ∧ Below w.heap.size w w' := by
  go_enter Try.func7, Try.ntmps7
  go_wp2_with fail
  refine (live_any _).mono ?_
  rintro r w1 ⟨rfl, b1⟩
  go_wp2_with fail
  refine (H1.out _).mono ?_
  rintro r w2 ⟨rfl, rfl⟩
  go_wp2_with fail
  refine (H2.out _).mono ?_
  rintro r w3 ⟨rfl, b3⟩
  replace b3 := b1.trans (b3.mono b1.size); clear b1
  go_wp2_with fail
  refine (exact_same _ _).mono ?_
  rintro r w4 ⟨rfl, rfl⟩
  go_wp2_with fail
  refine (H3.out _).mono ?_
  rintro r w5 ⟨rfl, rfl⟩
  go_wp2_with fail
  refine (H4.out _).mono ?_
  rintro r w6 ⟨rfl, b6⟩
  replace b6 := b3.trans (b6.mono b3.size); clear b3
  go_wp2_with fail
  refine (exact_same _ _).mono ?_
  rintro r w7 ⟨rfl, rfl⟩
  go_wp2_with fail
  refine (H5.out _).mono ?_
  rintro r w8 ⟨rfl, b8⟩
  replace b8 := b6.trans (b8.mono b6.size); clear b6
  go_wp2_with fail
  refine (H6.out _).mono ?_
  rintro r w9 ⟨rfl, b9⟩
  replace b9 := b8.trans (b9.mono b8.size); clear b8
  go_wp2_with fail
  refine (exact_same _ _).mono ?_
  rintro r w10 ⟨rfl, rfl⟩
  go_wp2_with fail
  go_ret
  exact ⟨rfl, b9⟩

theorem nexts_wf64 {b : Nat} (h : (Lit.float .f64 b).wf = true) : b < 18446744073709551616 := by
  simpa [Lit.wf] using h

theorem walk_BitsNexts (a : Nat) (ha : (Lit.float .f64 a).wf = true) (w : World) :
    Calls Try.prog 7 #[.float .f64 a] w fun r w' => r = .returned (.bool true) ∧ Below w.heap.size w w' := by
  obtain ⟨s, e, f, he, hf, rfl⟩ := bw_of a (nexts_wf64 ha)
  obtain ⟨P, h3, h4⟩ := prevs_alike s e f he hf
  obtain ⟨U, h5, h6, _⟩ := ulps_alike s e f he hf
  exact nexts_core _ (nx s e f) P U (next_any s e f he hf) (rnext_any s e f he hf) h3 h4 h5 h6 w
end Go.Proofs.Ytedknjiipmppgaa
