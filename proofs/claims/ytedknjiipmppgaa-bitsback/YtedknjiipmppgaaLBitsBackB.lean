/- The walk of BitsBack: at any number and any parts it returns true and changes nothing that was there. -/
import Derived.Test.YtedknjiipmppgaaLBitsBackA
import Derived.Deep.RegionWith
import Derived.Deep.QuietTactic
import Derived.BigQuiet
namespace Go.Proofs.Ytedknjiipmppgaa
open Go.RowKit
attribute [local go_sem] f64bits f64frombits
attribute [local go_sem] y_undef


set_option maxHeartbeats 4000000 in
theorem back_odd_has (s : Bool) (e f : Nat) (he : e < 2048) (hf : f < 4503599627370496) (ho : odd e f = true) (HX : Hid (∀ w, Calls Try.prog 18 #[.agg #[.bool (ng s e f), .int .i64 (cls e f), .int .i64 (xp e), .int .u64 (fr e f)]] w fun r w' => r = .returned (.tuple #[.float .f64 9221120237041090560, .int .i64 0]) ∧ Below w.heap.size w w')) (t : Bool) (u v : Nat) (hu : u < 2048) (hv : v < 4503599627370496) (HP : Hid (∀ w, Calls Try.prog 18 #[.agg #[.bool (ng t u v), .int .i64 (cls u v), .int .i64 (xp u), .int .u64 (fr u v)]] w fun r w' => r = .returned (.tuple #[.float .f64 (bw t u v), .int .i64 0]) ∧ Below w.heap.size w w')) (w : World) :
    Calls Try.prog 6 #[.float .f64 (bw s e f), .agg #[.bool (ng t u v), .int .i64 (cls u v), .int .i64 (xp u), .int .u64 (fr u v)]] w fun r w' => r = .returned (.bool true) ∧ Below w.heap.size w w' := by
  have q1 := ord_odd_nan s e f he hf ho
  have q2 := ord_odd s s e f e f he hf he hf ho
  clear ho
  go_enter Try.func6, Try.ntmps6
  go_wp2_with fail
  refine (live_any _).mono ?_
  rintro r w1 ⟨rfl, b1⟩
  obtain ⟨hc1, hf1⟩ := bcell b1
  have z1 : w.heap.size < w1.heap.size := by (have := b1.size; simp at this; omega)
  have B1 : Below w.heap.size w w1 := ((Below.refl _ _).alloc (Nat.le_refl _) _).trans (b1.mono (by simp))
  clear b1
  go_wp2_with fail
  refine (Split_any s e f he hf _).mono ?_
  rintro r w2 ⟨rfl, b2⟩
  obtain ⟨hc2, hf2⟩ := bcell b2
  have B2 : Below w.heap.size w w2 := B1.trans (b2.mono B1.size)
  have z2 : w.heap.size < w2.heap.size := Nat.lt_of_lt_of_le z1 b2.size
  go_wp2_with fail
  refine (HX.out _).mono ?_
  rintro r w3 ⟨rfl, b3⟩
  obtain ⟨hc3, hf3⟩ := bcell b3
  have B3 : Below w.heap.size w w3 := B2.trans (b3.mono B2.size)
  have z3 : w.heap.size < w3.heap.size := Nat.lt_of_lt_of_le z2 b3.size
  go_wp2_with fail
  refine (HP.out _).mono ?_
  rintro r w4 ⟨rfl, b4⟩
  obtain ⟨hc4, hf4⟩ := bcell b4
  have B4 : Below w.heap.size w w4 := B3.trans (b4.mono B3.size)
  have z4 : w.heap.size < w4.heap.size := Nat.lt_of_lt_of_le z3 b4.size
  go_wp2_with (first
    | (go_at_call 11; refine (nan_any _).mono ?_; rintro r w5 ⟨rfl, rfl⟩)
    | (go_at_call 20; refine (exact_same _ _).mono ?_; rintro r w5 ⟨rfl, rfl⟩))
  first
    | go_region_with (go_at_call 12; refine (Split_any t u v hu hv _).mono ?_; rintro r w6 ⟨rfl, b6⟩; have hc6 : ∀ o, w6.cell? ⟨w.heap.size, o, none⟩ = w5.cell? ⟨w.heap.size, o, none⟩ := fun o => b6.cell (p := ⟨w.heap.size, o, none⟩) z4)
    | fail
  all_goals go_wp2_with fail
  all_goals go_ret
  all_goals exact ⟨rfl, B4.drew.trans (b6.mono (Nat.le_of_lt z4))⟩
end Go.Proofs.Ytedknjiipmppgaa
