/- What assemble and Join answer: at parts that a number has, and at any parts. -/
import Derived.Test.YtedknjiipmppgabW3
import Derived.Deep.RegionWith
namespace Go.Proofs.Ytedknjiipmppgab
open Go.RowKit
attribute [local go_sem] f64bits f64frombits eqParts fld0 fld1 fld2 fld3

theorem ret_float {a b : Nat} (h : a = b) : Ending.returned (.float .f64 a) = .returned (.float .f64 b) := by rw [h]

set_option maxHeartbeats 1000000 in
theorem asm_plain (s : Bool) (e f : Nat) (h0 : 0 < e) (he : e < 2047) (hf : f < 4503599627370496) (w : World) :
    Calls Try.prog 48 #[.agg #[.bool s, .int .i64 2, .int .i64 ((e : Int) - 1075), .int .u64 ((f : Int) + 4503599627370496)]] w fun r w' => r = .returned (.float .f64 (bw s e f)) ∧ Below w.heap.size w w' := by
  have h1 := asm_and f hf
  have h2 := asm_or e f (by omega) hf
  go_enter Try.func48, Try.ntmps48
  cases s
  · go_wp2
    go_ret
    exact ⟨ret_float (by unfold bw; simp only [Bool.toNat_false]; omega), (by repeat (first | exact Below.refl _ _ | assumption | exact Nat.le_refl _ | (simp; done) | (simp; omega) | refine Below.alloc ?_ ?_ _ | refine Below.setCell ?_ ?_ _ | refine Below.drew ?_))⟩
  · have h3 := or_sign ((e : Int) * 4503599627370496 + f) (by omega) (by omega)
    go_wp2
    go_ret
    exact ⟨ret_float (by unfold bw; simp only [Bool.toNat_true]; omega), (by repeat (first | exact Below.refl _ _ | assumption | exact Nat.le_refl _ | (simp; done) | (simp; omega) | refine Below.alloc ?_ ?_ _ | refine Below.setCell ?_ ?_ _ | refine Below.drew ?_))⟩

set_option maxHeartbeats 1000000 in
theorem asm_small (s : Bool) (f : Nat) (hf : f < 4503599627370496) (w : World) :
    Calls Try.prog 48 #[.agg #[.bool s, .int .i64 1, .int .i64 (-1074), .int .u64 f]] w fun r w' => r = .returned (.float .f64 (bw s 0 f)) ∧ Below w.heap.size w w' := by
  go_enter Try.func48, Try.ntmps48
  cases s
  · go_wp2
    go_ret
    exact ⟨ret_float (by unfold bw; simp only [Bool.toNat_false]; omega), (by repeat (first | exact Below.refl _ _ | assumption | exact Nat.le_refl _ | (simp; done) | (simp; omega) | refine Below.alloc ?_ ?_ _ | refine Below.setCell ?_ ?_ _ | refine Below.drew ?_))⟩
  · have h3 := or_sign f (by omega) (by omega)
    go_wp2
    go_ret
    exact ⟨ret_float (by unfold bw; simp only [Bool.toNat_true]; omega), (by repeat (first | exact Below.refl _ _ | assumption | exact Nat.le_refl _ | (simp; done) | (simp; omega) | refine Below.alloc ?_ ?_ _ | refine Below.setCell ?_ ?_ _ | refine Below.drew ?_))⟩

set_option maxHeartbeats 1000000 in
theorem asm_nought (s : Bool) (w : World) :
    Calls Try.prog 48 #[.agg #[.bool s, .int .i64 0, .int .i64 (-1074), .int .u64 0]] w fun r w' => r = .returned (.float .f64 (bw s 0 0)) ∧ Below w.heap.size w w' := by
  go_enter Try.func48, Try.ntmps48
  cases s
  · go_wp2
    go_ret
    exact ⟨ret_float rfl, (by repeat (first | exact Below.refl _ _ | assumption | exact Nat.le_refl _ | (simp; done) | (simp; omega) | refine Below.alloc ?_ ?_ _ | refine Below.setCell ?_ ?_ _ | refine Below.drew ?_))⟩
  · have h3 := or_sign 0 (by omega) (by omega)
    go_wp2
    go_ret
    exact ⟨ret_float rfl, (by repeat (first | exact Below.refl _ _ | assumption | exact Nat.le_refl _ | (simp; done) | (simp; omega) | refine Below.alloc ?_ ?_ _ | refine Below.setCell ?_ ?_ _ | refine Below.drew ?_))⟩

set_option maxHeartbeats 1000000 in
theorem asm_end (s : Bool) (w : World) :
    Calls Try.prog 48 #[.agg #[.bool s, .int .i64 3, .int .i64 0, .int .u64 0]] w fun r w' => r = .returned (.float .f64 (bw s 2047 0)) ∧ Below w.heap.size w w' := by
  go_enter Try.func48, Try.ntmps48
  cases s
  · go_wp2
    go_ret
    exact ⟨ret_float rfl, (by repeat (first | exact Below.refl _ _ | assumption | exact Nat.le_refl _ | (simp; done) | (simp; omega) | refine Below.alloc ?_ ?_ _ | refine Below.setCell ?_ ?_ _ | refine Below.drew ?_))⟩
  · have h3 := or_sign 9218868437227405312 (by omega) (by omega)
    go_wp2
    go_ret
    exact ⟨ret_float rfl, (by repeat (first | exact Below.refl _ _ | assumption | exact Nat.le_refl _ | (simp; done) | (simp; omega) | refine Below.alloc ?_ ?_ _ | refine Below.setCell ?_ ?_ _ | refine Below.drew ?_))⟩

set_option maxHeartbeats 1000000 in
theorem asm_odd (w : World) :
    Calls Try.prog 48 #[.agg #[.bool false, .int .i64 4, .int .i64 0, .int .u64 0]] w fun r w' => r = .returned (.float .f64 9221120237041090560) ∧ Below w.heap.size w w' := by
  go_enter Try.func48, Try.ntmps48
  go_wp2
  go_ret
  exact ⟨rfl, (by repeat (first | exact Below.refl _ _ | assumption | exact Nat.le_refl _ | (simp; done) | (simp; omega) | refine Below.alloc ?_ ?_ _ | refine Below.setCell ?_ ?_ _ | refine Below.drew ?_))⟩

/-- at parts that a number has: the number (a NaN: the one that is answered). -/
theorem asm_valid (s : Bool) (e f : Nat) (he : e < 2048) (hf : f < 4503599627370496) (w : World) :
    Calls Try.prog 48 #[(.agg #[.bool (ng s e f), .int .i64 (cls e f), .int .i64 (xp e), .int .u64 (fr e f)])] w fun r w' => r = .returned (.float .f64 (cb s e f)) ∧ Below w.heap.size w w' := by
  show Calls Try.prog 48 #[splitV s e f] w _
  by_cases h1 : e = 2047
  · by_cases h2 : f = 0
    · rw [splitV_end s e f h1 (by simp [h2]), cb_else s e f (by omega), h1, h2]; exact asm_end s w
    · rw [splitV_odd s e f h1 (by simp; omega), cb_odd s e f ⟨h1, h2⟩]; exact asm_odd w
  · rw [cb_else s e f (by omega)]
    by_cases h3 : e = 0
    · by_cases h2 : f = 0
      · rw [splitV_nought s e f h3 (by simp [h2]), h3, h2]; exact asm_nought s w
      · rw [splitV_small s e f h3 (by simp; omega), h3]; exact asm_small s f hf w
    · rw [splitV_plain s e f h1 h3]; exact asm_plain s e f (by omega) (by omega) hf w

set_option maxHeartbeats 2000000 in
theorem asm_any (n : Bool) (c x : Int) (f : Nat) (hf : f < 18446744073709551616) (w : World) :
    Calls Try.prog 48 #[.agg #[.bool n, .int .i64 c, .int .i64 x, .int .u64 f]] w fun r w' => (∃ b : Nat, b < 18446744073709551616 ∧ r = .returned (.float .f64 b)) ∧ Below w.heap.size w w' := by
  go_enter Try.func48, Try.ntmps48
  cases n
  · go_wp2
    all_goals go_ret
    all_goals (refine ⟨⟨_, ?_, rfl⟩, (by repeat (first | exact Below.refl _ _ | assumption | exact Nat.le_refl _ | (simp; done) | (simp; omega) | refine Below.alloc ?_ ?_ _ | refine Below.setCell ?_ ?_ _ | refine Below.drew ?_))⟩)
    all_goals first | exact bits_u64_lt _ _ _ | omega
  · go_wp2
    all_goals go_ret
    all_goals (refine ⟨⟨_, ?_, rfl⟩, (by repeat (first | exact Below.refl _ _ | assumption | exact Nat.le_refl _ | (simp; done) | (simp; omega) | refine Below.alloc ?_ ?_ _ | refine Below.setCell ?_ ?_ _ | refine Below.drew ?_))⟩)
    all_goals first | exact bits_u64_lt _ _ _ | omega

end Go.Proofs.Ytedknjiipmppgab
