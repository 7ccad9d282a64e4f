/- Rows of words that are made, and words that are copied into them. -/
import Derived.Test.YtlhiccmdhnhdeaaDoorM2
import Derived.Test.YtlhiccmdhnhdeaaDoorM4
import Derived.Deep.OwnRows
namespace Go.Proofs.YtlhiccmdhnhdeaaDoor
open Go.RowKit
set_option linter.unusedVariables false

theorem make_words (z : Int) (n : Nat) (hz : z = (n : Int)) (hn : n ≤ 70368744177664) (w : World) :
    (Instr.makeSlice 23 (.int .i64 z) (.int .i64 z)).run Tryd.prog w = .ok (.slice (some ⟨w.heap.size, 0, none⟩) n n) (w.alloc (.cells (madeCells #[.int .u32 0] n) 57)) := by
  subst hz
  exact run_make_row' 23 57 (.int .u32 0) 4 Tryd.underlying23 Tryd.info57 rfl .i64 .i64 n (by omega) (by omega) w

theorem Own.made (w : World) (n : Nat) : Own (w.alloc (.cells (madeCells #[.int .u32 0] n) 57)) w.heap.size (List.replicate n 0) := by
  unfold Own
  have h1 := heap_alloc_new w (.cells (madeCells #[.int .u32 0] n) 57)
  rw [h1]
  congr 2
  apply Array.toList_inj.1
  rw [toList_madeCells_one]
  simp [U]

theorem Rd.drop {B : Nat} {w : World} {b off : Nat} {xs : List Nat} (h : Rd B w (some ⟨b, off, none⟩) xs) (k : Nat) : Rd B w (some ⟨b, off + k, none⟩) (xs.drop k) := by
  intro hx
  have hx' : xs ≠ [] := by intro e; subst e; simp at hx
  obtain ⟨b', off', hlt, e, hc⟩ := h hx'
  cases e
  refine ⟨b, off + k, hlt, rfl, fun i hi => ?_⟩
  simp only [List.length_drop] at hi
  rw [Nat.add_assoc, hc (k + i) (by omega)]
  simp [List.getD_eq_getElem?_getD]

theorem copy_words (w : World) (g dLen dCap : Nat) (ao : Option Addr) (sLen sCap B : Nat) (ty : TypeId)
    (L xs : List Nat) (hO : Own w g L) (hL : dLen ≤ L.length) (hx : sLen = xs.length) (hR : Rd B w ao xs) (hle : sLen ≤ dLen) :
    ∃ w', (Builtin.copy_ #[23, 23] ty #[.slice (some ⟨g, 0, none⟩) dLen dCap, .slice ao sLen sCap]).run Tryd.prog w = .ok (.int .i64 (sLen : Int)) w' ∧ Own w' g (xs ++ L.drop sLen) ∧ But g w w' := by
  subst hx
  have hmin : Nat.min xs.length dLen = xs.length := Nat.min_eq_left hle
  by_cases h0 : xs = []
  · subst h0
    exact ⟨w, run_copy_none (P := Tryd.prog) w 23 23 ty 57 _ _ _ _ _ _ Tryd.underlying23 (by kernel_rfl) (by simp at hmin ⊢), by simpa using hO, But.refl _ _⟩
  · obtain ⟨b, off, hlt, rfl, hc⟩ := hR h0
    have hadd : ∀ j, (⟨b, off, none⟩ : Addr).add j = ⟨b, off + j, none⟩ := by intro j; unfold Addr.add; split <;> simp_all
    have hrun := run_copy_row (P := Tryd.prog) w 23 23 ty 57 g 0 dLen dCap ⟨b, off, none⟩ xs.length sCap (L.map U).toArray 57 (xs.map U) Tryd.underlying23 (by kernel_rfl) hO (by rw [hmin]; simp) (by
      intro j v hv
      rw [hadd]
      have hj : j < xs.length := by
        have := (List.getElem?_eq_some_iff.1 hv).1
        simpa using this
      rw [hc j hj]
      simp [hj, U] at hv
      simp [hj, ← hv]) (by simp; omega) (by
      intro v hv
      obtain ⟨n, _, rfl⟩ := List.mem_map.1 hv
      rfl)
    refine ⟨w.setRow g (((xs ++ L.drop xs.length).map U)).toArray, ?_, setRow_heap w g _ _ 57 _ hO, ⟨rfl, rfl, rfl, by simp [World.setRow], fun k _ hk => setRow_other w g k _ hk⟩⟩
    simpa [List.map_append, List.map_drop, goInt] using hrun
end Go.Proofs.YtlhiccmdhnhdeaaDoor
