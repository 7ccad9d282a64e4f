/- What the functions that take a number of 64 bits apart answer, at every number. -/
import Derived.Test.YtgnmnljmgmbmhaaProg
import Derived.Test.YtgnmnljmgmbmhaaBW0
import Derived.WalkKit
import Derived.WalkLawsBesides
import Derived.WalkSpells
namespace Go.Proofs.Ytgnmnljmgmbmhaa.B
set_option linter.unusedVariables false
set_option maxRecDepth 20000
open Go.RowKit

set_option maxHeartbeats 1000000 in
theorem split_any (s : Bool) (e f : Nat) (he : e < 2048) (hf : f < 4503599627370496) (w : World) :
    Calls Try.prog 68 #[.int .u64 (bw s e f), .int .u64 52, .int .u64 11, .int .i64 (-1074)] w fun r w' => r = .returned (splitV s e f) ∧ Below w.heap.size w w' := by
  have hl := bw_lt s e f he hf
  have h1 := bw_exp s e f he hf
  have h2 := bw_frac s e f he hf
  have h3 := bw_sign s e f he hf
  have h4 := frac_or f hf
  have h5 : ((s.toNat : Int) == 1) = s := by cases s <;> rfl
  go_enter Try.func68, Try.ntmps68
  go_wp2
  · rw [splitV_odd s e f (by omega) ‹_›]
    exact bodyPost_ret (v := .agg #[.bool false, .int .i64 4, .int .i64 0, .int .u64 0]) (by simp [results, Try.results68, go_sem]) rfl ⟨rfl, (by repeat (first | exact Below.refl _ _ | assumption | exact Nat.le_refl _ | (simp; done) | (simp; omega) | refine Below.alloc ?_ ?_ _ | refine Below.setCell ?_ ?_ _ | refine Below.drew ?_))⟩
  · rw [splitV_end s e f (by omega) ‹_›]
    exact bodyPost_ret (v := .agg #[.bool s, .int .i64 3, .int .i64 0, .int .u64 0]) (by simp [results, Try.results68, go_sem]) rfl ⟨rfl, (by repeat (first | exact Below.refl _ _ | assumption | exact Nat.le_refl _ | (simp; done) | (simp; omega) | refine Below.alloc ?_ ?_ _ | refine Below.setCell ?_ ?_ _ | refine Below.drew ?_))⟩
  · rw [splitV_nought s e f (by omega) ‹_›]
    exact bodyPost_ret (v := .agg #[.bool s, .int .i64 0, .int .i64 (-1074), .int .u64 0]) (by simp [results, Try.results68, go_sem]) rfl ⟨rfl, (by repeat (first | exact Below.refl _ _ | assumption | exact Nat.le_refl _ | (simp; done) | (simp; omega) | refine Below.alloc ?_ ?_ _ | refine Below.setCell ?_ ?_ _ | refine Below.drew ?_))⟩
  · rw [splitV_small s e f (by omega) ‹_›]
    exact bodyPost_ret (v := .agg #[.bool s, .int .i64 1, .int .i64 (-1074), .int .u64 f]) (by simp [results, Try.results68, go_sem]) rfl ⟨rfl, (by repeat (first | exact Below.refl _ _ | assumption | exact Nat.le_refl _ | (simp; done) | (simp; omega) | refine Below.alloc ?_ ?_ _ | refine Below.setCell ?_ ?_ _ | refine Below.drew ?_))⟩
  · rw [splitV_plain s e f (by omega) (by omega)]
    refine bodyPost_ret (v := .agg #[.bool s, .int .i64 2, .int .i64 ((e : Int) - 1075), .int .u64 ((f : Int) + 4503599627370496)]) (by simp [results, Try.results68, go_sem]; try omega) rfl ⟨rfl, (by repeat (first | exact Below.refl _ _ | assumption | exact Nat.le_refl _ | (simp; done) | (simp; omega) | refine Below.alloc ?_ ?_ _ | refine Below.setCell ?_ ?_ _ | refine Below.drew ?_))⟩
end Go.Proofs.Ytgnmnljmgmbmhaa.B
