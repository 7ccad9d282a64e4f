/- Norm: the form, in new memory. -/
import Derived.Test.YtlhiccmdhnhdeaaDoorW2
import Derived.Test.YtlhiccmdhnhdeaaDoorM5
namespace Go.Proofs.YtlhiccmdhnhdeaaDoor
open Go.RowKit
set_option linter.unusedVariables false

set_option maxHeartbeats 1000000 in
theorem norm_any (xs : List Nat) (ao : Option Addr) (n cap B : Nat) (w : World) (hn : n = xs.length) (hc : n ≤ cap) (hm : n ≤ 70368744177664) (hx : Wf xs) (hR : Rd B w ao xs) (hB : B ≤ w.heap.size) :
    Calls Tryd.prog 51 #[.slice ao n cap] w fun r w' => r = .returned (.slice (some ⟨w.heap.size, 0, none⟩) (ws (val xs)).length (ws (val xs)).length) ∧ Own w' w.heap.size (ws (val xs)) ∧ Below w.heap.size w w' := by
  have H := hid (trim_any xs ao n cap B w hn hc (by omega) hR)
  have hl : nl xs ≤ n := by rw [hn]; exact nl_le xs
  obtain ⟨k, hk⟩ : ∃ k, nl xs = k := ⟨_, rfl⟩
  have HF : Aside (xs.take k = ws (val xs)) := by rw [← hk]; exact form_eq xs hx
  have HR : Aside (Rd B w ao (xs.take k) ∧ k = (xs.take k).length) := ⟨hR.take k, by rw [List.length_take]; omega⟩
  rw [hk] at H hl
  rw [← HF.out]
  have hmk := make_words (k : Int) k rfl (by omega)
  have HO := Own.made w k
  have HO2 : Hid (Own (w.alloc (.cells (madeCells #[.int .u32 0] k) 57)) w.heap.size (List.replicate k 0)) := HO
  clear hk hR hn hx HO
  go_enter Tryd.func51, Tryd.ntmps51
  go_wp2_with fail
  refine H.out.mono ?_
  rintro r w1 ⟨rfl, rfl⟩
  obtain ⟨w2, hcp, hO2, hbut⟩ := copy_words _ w1.heap.size k k ao k cap B 3 (List.replicate k 0) (xs.take k) HO2.out (by simp) HR.out.2 (HR.out.1.below ((Below.refl _ _).alloc hB _)) (Nat.le_refl _)
  have HH := hid (And.intro hO2 hbut)
  clear hO2 hbut HO2
  go_wp2
  go_ret
  obtain ⟨hO2, hbut⟩ := HH.out
  rw [← HR.out.2]
  refine ⟨rfl, by simpa using hO2, But.below ((Below.refl _ _).alloc (Nat.le_refl _) _) hbut (by simp) (Nat.le_refl _)⟩
end Go.Proofs.YtlhiccmdhnhdeaaDoor
