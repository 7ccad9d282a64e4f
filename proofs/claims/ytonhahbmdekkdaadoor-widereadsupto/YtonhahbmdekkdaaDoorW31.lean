/- The chapter's examples, each call by itself. -/
import Derived.Test.YtonhahbmdekkdaaDoorW26
import Derived.Test.YtonhahbmdekkdaaDoorW28
import Derived.Test.YtonhahbmdekkdaaDoorW30
import Derived.Test.YtonhahbmdekkdaaDoorW16
namespace Go.Proofs.YtonhahbmdekkdaaDoor
open Go.RowKit
set_option linter.unusedVariables false
set_option maxRecDepth 20000

theorem lit_own (w : World) (L : List Nat) : Own (w.alloc (.cells (L.map U).toArray 63)) w.heap.size L := by unfold Own; rw [heap_alloc_new]
theorem lit_rd (w : World) (L : List Nat) : Rd (w.heap.size + 1) (w.alloc (.cells (L.map U).toArray 63)) (some ⟨w.heap.size, 0, none⟩) L := by
  have := Rd.ofOwn (lit_own w L) 0 L.length
  simpa using this
theorem alloc_size (w : World) (o : Obj) : (w.alloc o).heap.size = w.heap.size + 1 := by simp
theorem lit2_rd (w : World) (L M : List Nat) : Rd (w.heap.size + 2) ((w.alloc (.cells (L.map U).toArray 63)).alloc (.cells (M.map U).toArray 63)) (some ⟨w.heap.size, 0, none⟩) L ∧
    Rd (w.heap.size + 2) ((w.alloc (.cells (L.map U).toArray 63)).alloc (.cells (M.map U).toArray 63)) (some ⟨w.heap.size + 1, 0, none⟩) M ∧
    Below w.heap.size w ((w.alloc (.cells (L.map U).toArray 63)).alloc (.cells (M.map U).toArray 63)) ∧ ((w.alloc (.cells (L.map U).toArray 63)).alloc (.cells (M.map U).toArray 63)).heap.size = w.heap.size + 2 := by
  have h1 := lit_rd w L
  have h2 := lit_rd (w.alloc (.cells (L.map U).toArray 63)) M
  rw [alloc_size] at h2
  have hb : Below (w.heap.size + 1) (w.alloc (.cells (L.map U).toArray 63)) ((w.alloc (.cells (L.map U).toArray 63)).alloc (.cells (M.map U).toArray 63)) := (Below.refl _ _).alloc (by simp) _
  refine ⟨(h1.below hb).mono (by omega), h2, ((Below.refl _ _).alloc (Nat.le_refl _) _).alloc (by simp) _, by simp⟩
theorem ws_lit (L : List Nat) (X : Nat) (hv : val L = X) (hw : Wf L) (hn : nl L = L.length) : ws X = L := by rw [← hv]; exact (ws_of_form L hw hn).symm
theorem not_LG (L : List Nat) (X : Nat) (h : ws X = L) (hl : L.length ≤ 8192) : ¬ LG X := by unfold LG; rw [h]; omega

set_option maxHeartbeats 1000000 in
theorem aw_add (w : World) : Calls Tryd.prog 45 #[.slice (some ⟨w.heap.size, 0, none⟩) 2 2, .slice (some ⟨w.heap.size + 1, 0, none⟩) 1 1] ((w.alloc (.cells #[.int .u32 4294967295, .int .u32 0] 63)).alloc (.cells #[.int .u32 1] 63)) fun r w' =>
    ∃ a c, r = .returned (.tuple #[.slice a 2 c, .int .i64 0]) ∧ Nt w.heap.size w' (.slice a 2 c) 4294967296 ∧ Below w.heap.size w w' := by
  obtain ⟨h1, h2, hb, hs⟩ := lit2_rd w [4294967295, 0] [1]
  have hws : ws 4294967296 = [0, 1] := ws_lit [0, 1] _ (by decide) (by intro x hx; simp at hx; omega) (by decide)
  have C := Add_any [4294967295, 0] [1] (some ⟨w.heap.size, 0, none⟩) (some ⟨w.heap.size + 1, 0, none⟩) 2 2 1 1 (w.heap.size + 2) _ rfl rfl (by omega) (by omega) (by omega) (by omega) (by intro x hx; simp at hx; omega) (by intro x hx; simp at hx; omega) h1 h2 (by rw [hs]; omega)
  have e : addS (val [4294967295, 0]) (val [1]) = (4294967296, 0) := by
    rw [show val [4294967295, 0] = 4294967295 by decide, show val [1] = 1 by decide]
    unfold addS
    rw [if_neg (not_LG _ _ hws (by decide))]
  rw [e] at C
  refine C.mono ?_
  rintro r w' ⟨⟨v, rfl, hN⟩, hb2⟩
  have hN2 := hN.mono (lo' := w.heap.size) (by rw [hs]; omega)
  obtain ⟨a, c, rfl, _, _, _⟩ := hN2.shape
  rw [hws] at hN2
  refine ⟨a, c, ?_, hN2, hb.trans (hb2.mono (by rw [hs]; omega))⟩
  simp only [hws]; rfl

set_option maxHeartbeats 1000000 in
theorem aw_sub (w : World) : Calls Tryd.prog 46 #[.slice (some ⟨w.heap.size, 0, none⟩) 3 3, .slice (some ⟨w.heap.size + 1, 0, none⟩) 1 1] ((w.alloc (.cells #[.int .u32 0, .int .u32 0, .int .u32 1] 63)).alloc (.cells #[.int .u32 1] 63)) fun r w' =>
    ∃ a c, r = .returned (.tuple #[.slice a 2 c, .int .i64 0]) ∧ Nt w.heap.size w' (.slice a 2 c) 18446744073709551615 ∧ Below w.heap.size w w' := by
  obtain ⟨h1, h2, hb, hs⟩ := lit2_rd w [0, 0, 1] [1]
  have hws : ws 18446744073709551615 = [4294967295, 4294967295] := ws_lit [4294967295, 4294967295] _ (by decide) (by intro x hx; simp at hx; omega) (by decide)
  have C := Sub_any [0, 0, 1] [1] (some ⟨w.heap.size, 0, none⟩) (some ⟨w.heap.size + 1, 0, none⟩) 3 3 1 1 (w.heap.size + 2) _ rfl rfl (by omega) (by omega) (by omega) (by omega) (by intro x hx; simp at hx; omega) (by intro x hx; simp at hx; omega) h1 h2 (by rw [hs]; omega)
  have e : subS (val [0, 0, 1]) (val [1]) = (18446744073709551615, 0) := by
    rw [show val [0, 0, 1] = 18446744073709551616 by decide, show val [1] = 1 by decide]
    have h3 : ws 18446744073709551616 = [0, 0, 1] := ws_lit [0, 0, 1] _ (by decide) (by intro x hx; simp at hx; omega) (by decide)
    have h4 : ws 1 = [1] := ws_lit [1] _ (by decide) (by intro x hx; simp at hx; omega) (by decide)
    unfold subS
    rw [if_neg (by intro h; rcases h with h | h; exact not_LG _ _ h3 (by decide) h; exact not_LG _ _ h4 (by decide) h), if_neg (by omega)]
  rw [e] at C
  refine C.mono ?_
  rintro r w' ⟨⟨v, rfl, hN⟩, hb2⟩
  have hN2 := hN.mono (lo' := w.heap.size) (by rw [hs]; omega)
  obtain ⟨a, c, rfl, _, _, _⟩ := hN2.shape
  rw [hws] at hN2
  refine ⟨a, c, ?_, hN2, hb.trans (hb2.mono (by rw [hs]; omega))⟩
  simp only [hws]; rfl

set_option maxHeartbeats 1000000 in
theorem aw_mul (w : World) : Calls Tryd.prog 47 #[.slice (some ⟨w.heap.size, 0, none⟩) 2 2, .slice (some ⟨w.heap.size + 1, 0, none⟩) 2 2] ((w.alloc (.cells #[.int .u32 4294967295, .int .u32 1] 63)).alloc (.cells #[.int .u32 4294967295, .int .u32 1] 63)) fun r w' =>
    ∃ a c, r = .returned (.tuple #[.slice a 3 c, .int .i64 0]) ∧ Nt w.heap.size w' (.slice a 3 c) 73786976277658337281 ∧ Below w.heap.size w w' := by
  obtain ⟨h1, h2, hb, hs⟩ := lit2_rd w [4294967295, 1] [4294967295, 1]
  have hws : ws 73786976277658337281 = [1, 4294967292, 3] := ws_lit [1, 4294967292, 3] _ (by decide) (by intro x hx; simp at hx; omega) (by decide)
  have C := Mul_any [4294967295, 1] [4294967295, 1] (some ⟨w.heap.size, 0, none⟩) (some ⟨w.heap.size + 1, 0, none⟩) 2 2 2 2 (w.heap.size + 2) _ rfl rfl (by omega) (by omega) (by omega) (by omega) (by intro x hx; simp at hx; omega) (by intro x hx; simp at hx; omega) h1 h2 (by rw [hs]; omega)
  have e : mulS (val [4294967295, 1]) (val [4294967295, 1]) = (73786976277658337281, 0) := by
    rw [show val [4294967295, 1] = 8589934591 by decide]
    have h3 : ws 8589934591 = [4294967295, 1] := ws_lit [4294967295, 1] _ (by decide) (by intro x hx; simp at hx; omega) (by decide)
    unfold mulS
    rw [if_neg (by intro h; rcases h with h | h <;> exact not_LG _ _ h3 (by decide) h), if_neg (not_LG _ _ hws (by decide))]
  rw [e] at C
  refine C.mono ?_
  rintro r w' ⟨⟨v, rfl, hN⟩, hb2⟩
  have hN2 := hN.mono (lo' := w.heap.size) (by rw [hs]; omega)
  obtain ⟨a, c, rfl, _, _, _⟩ := hN2.shape
  rw [hws] at hN2
  refine ⟨a, c, ?_, hN2, hb.trans (hb2.mono (by rw [hs]; omega))⟩
  simp only [hws]; rfl

set_option maxHeartbeats 1000000 in
theorem aw_less (w : World) : Calls Tryd.prog 46 #[.slice (some ⟨w.heap.size, 0, none⟩) 1 1, .slice (some ⟨w.heap.size + 1, 0, none⟩) 1 1] ((w.alloc (.cells #[.int .u32 3] 63)).alloc (.cells #[.int .u32 4] 63)) fun r w' =>
    ∃ a c, r = .returned (.tuple #[.slice a 0 c, .int .i64 20]) ∧ Nt w.heap.size w' (.slice a 0 c) 0 ∧ Below w.heap.size w w' := by
  obtain ⟨h1, h2, hb, hs⟩ := lit2_rd w [3] [4]
  have hws : ws 0 = [] := ws_lit [] _ (by decide) Wf.nil (by decide)
  have C := Sub_any [3] [4] (some ⟨w.heap.size, 0, none⟩) (some ⟨w.heap.size + 1, 0, none⟩) 1 1 1 1 (w.heap.size + 2) _ rfl rfl (by omega) (by omega) (by omega) (by omega) (by intro x hx; simp at hx; omega) (by intro x hx; simp at hx; omega) h1 h2 (by rw [hs]; omega)
  have e : subS (val [3]) (val [4]) = (0, 20) := by
    rw [show val [3] = 3 by decide, show val [4] = 4 by decide]
    have h3 : ws 3 = [3] := ws_lit [3] _ (by decide) (by intro x hx; simp at hx; omega) (by decide)
    have h4 : ws 4 = [4] := ws_lit [4] _ (by decide) (by intro x hx; simp at hx; omega) (by decide)
    unfold subS
    rw [if_neg (by intro h; rcases h with h | h; exact not_LG _ _ h3 (by decide) h; exact not_LG _ _ h4 (by decide) h), if_pos (by omega)]
  rw [e] at C
  refine C.mono ?_
  rintro r w' ⟨⟨v, rfl, hN⟩, hb2⟩
  have hN2 := hN.mono (lo' := w.heap.size) (by rw [hs]; omega)
  obtain ⟨a, c, rfl, _, _, _⟩ := hN2.shape
  rw [hws] at hN2
  refine ⟨a, c, ?_, hN2, hb.trans (hb2.mono (by rw [hs]; omega))⟩
  simp only [hws]; rfl

set_option maxHeartbeats 1000000 in
theorem aw_div (w : World) : Calls Tryd.prog 48 #[.slice (some ⟨w.heap.size, 0, none⟩) 3 3, .slice (some ⟨w.heap.size + 1, 0, none⟩) 1 1] ((w.alloc (.cells #[.int .u32 1661992960, .int .u32 1808227885, .int .u32 5] 63)).alloc (.cells #[.int .u32 7] 63)) fun r w' =>
    ∃ a c b d, r = .returned (.tuple #[.slice a 2 c, .slice b 1 d, .int .i64 0]) ∧ Nt w.heap.size w' (.slice a 2 c) 14285714285714285714 ∧ Nt w.heap.size w' (.slice b 1 d) 2 ∧ Below w.heap.size w w' := by
  obtain ⟨h1, h2, hb, hs⟩ := lit2_rd w [1661992960, 1808227885, 5] [7]
  have hws : ws 14285714285714285714 = [850994322, 3326152052] := ws_lit [850994322, 3326152052] _ (by decide) (by intro x hx; simp at hx; omega) (by decide)
  have hws2 : ws 2 = [2] := ws_lit [2] _ (by decide) (by intro x hx; simp at hx; omega) (by decide)
  have C := Div_any [1661992960, 1808227885, 5] [7] (some ⟨w.heap.size, 0, none⟩) (some ⟨w.heap.size + 1, 0, none⟩) 3 3 1 1 (w.heap.size + 2) _ rfl rfl (by omega) (by omega) (by omega) (by omega) (by intro x hx; simp at hx; omega) (by intro x hx; simp at hx; omega) h1 h2 (by rw [hs]; omega)
  have e : divS (val [1661992960, 1808227885, 5]) (val [7]) = (14285714285714285714, 2, 0) := by
    rw [show val [1661992960, 1808227885, 5] = 100000000000000000000 by decide, show val [7] = 7 by decide]
    have h3 : ws 100000000000000000000 = [1661992960, 1808227885, 5] := ws_lit [1661992960, 1808227885, 5] _ (by decide) (by intro x hx; simp at hx; omega) (by decide)
    have h4 : ws 7 = [7] := ws_lit [7] _ (by decide) (by intro x hx; simp at hx; omega) (by decide)
    unfold divS
    rw [if_neg (by intro h; rcases h with h | h; exact not_LG _ _ h3 (by decide) h; exact not_LG _ _ h4 (by decide) h), if_neg (by omega)]
  rw [e] at C
  refine C.mono ?_
  rintro r w' ⟨⟨v, u, rfl, hN, hM, hap⟩, hb2⟩
  have hN2 := hN.mono (lo' := w.heap.size) (by rw [hs]; omega)
  have hM2 := hM.mono (lo' := w.heap.size) (by rw [hs]; omega)
  obtain ⟨a, c, rfl, _, _, _⟩ := hN2.shape
  obtain ⟨b, d, rfl, _, _, _⟩ := hM2.shape
  simp only [hws] at hN2
  simp only [hws2] at hM2
  refine ⟨a, c, b, d, ?_, hN2, hM2, hb.trans (hb2.mono (by rw [hs]; omega))⟩
  simp only [hws, hws2]; rfl

set_option maxHeartbeats 1000000 in
theorem aw_nought (w : World) : Calls Tryd.prog 48 #[.slice (some ⟨w.heap.size, 0, none⟩) 1 1, .slice none 0 0] (w.alloc (.cells #[.int .u32 5] 63)) fun r w' =>
    ∃ v u, r = .returned (.tuple #[v, u, .int .i64 21]) ∧ Below w.heap.size w w' := by
  have h1 := lit_rd w [5]
  have hb : Below w.heap.size w (w.alloc (.cells (([5] : List Nat).map U).toArray 63)) := (Below.refl _ _).alloc (Nat.le_refl _) _
  have hs := alloc_size w (.cells (([5] : List Nat).map U).toArray 63)
  have C := Div_any [5] [] (some ⟨w.heap.size, 0, none⟩) none 1 1 0 0 (w.heap.size + 1) _ rfl rfl (by omega) (by omega) (by omega) (by omega) (by intro x hx; simp at hx; omega) Wf.nil h1 (Rd.nil _ _ _) (by rw [hs]; omega)
  have e : divS (val [5]) (val []) = (0, 0, 21) := by
    rw [show val [5] = 5 by decide, show val [] = 0 by decide]
    have h3 : ws 5 = [5] := ws_lit [5] _ (by decide) (by intro x hx; simp at hx; omega) (by decide)
    unfold divS
    rw [if_neg (by intro h; rcases h with h | h; exact not_LG _ _ h3 (by decide) h; exact not_LG _ _ ws_zero (by decide) h), if_pos rfl]
  rw [e] at C
  refine C.mono ?_
  rintro r w' ⟨⟨v, u, rfl, hN, hM, hap⟩, hb2⟩
  exact ⟨v, u, rfl, hb.trans (hb2.mono (by rw [hs]; omega))⟩

set_option maxHeartbeats 1000000 in
theorem aw_shift (w : World) : Calls Tryd.prog 49 #[.slice (some ⟨w.heap.size, 0, none⟩) 1 1, .int .i64 33] (w.alloc (.cells #[.int .u32 5] 63)) fun r w' =>
    ∃ a c, r = .returned (.tuple #[.slice a 2 c, .int .i64 0]) ∧ Nt w.heap.size w' (.slice a 2 c) 42949672960 ∧ Below w.heap.size w w' := by
  have h1 := lit_rd w [5]
  have hb : Below w.heap.size w (w.alloc (.cells (([5] : List Nat).map U).toArray 63)) := (Below.refl _ _).alloc (Nat.le_refl _) _
  have hs := alloc_size w (.cells (([5] : List Nat).map U).toArray 63)
  have hws : ws 42949672960 = [0, 10] := ws_lit [0, 10] _ (by decide) (by intro x hx; simp at hx; omega) (by decide)
  have C := Shift_any [5] (some ⟨w.heap.size, 0, none⟩) 1 1 (w.heap.size + 1) 33 _ rfl (by omega) (by omega) (by intro x hx; simp at hx; omega) h1 (by rw [hs]; omega) (by omega) (by omega)
  have e : shiftS (val [5]) 33 = (42949672960, 0) := by
    rw [show val [5] = 5 by decide]
    have h3 : ws 5 = [5] := ws_lit [5] _ (by decide) (by intro x hx; simp at hx; omega) (by decide)
    unfold shiftS
    rw [if_neg (not_LG _ _ h3 (by decide)), if_neg (by omega), if_neg (by omega), show bl 5 = 3 by decide, if_neg (by decide)]
    rfl
  rw [e] at C
  refine C.mono ?_
  rintro r w' ⟨⟨v, rfl, hN⟩, hb2⟩
  have hN2 := hN.mono (lo' := w.heap.size) (by rw [hs]; omega)
  obtain ⟨a, c, rfl, _, _, _⟩ := hN2.shape
  simp only [hws] at hN2
  refine ⟨a, c, ?_, hN2, hb.trans (hb2.mono (by rw [hs]; omega))⟩
  simp only [hws]; rfl

set_option maxHeartbeats 1000000 in
theorem aw_root (w : World) : Calls Tryd.prog 50 #[.slice (some ⟨w.heap.size, 0, none⟩) 1 1] (w.alloc (.cells #[.int .u32 99] 63)) fun r w' =>
    ∃ a c b d, r = .returned (.tuple #[.slice a 1 c, .slice b 1 d]) ∧ Nt w.heap.size w' (.slice a 1 c) 9 ∧ Nt w.heap.size w' (.slice b 1 d) 18 ∧ Below w.heap.size w w' := by
  have h1 := lit_rd w [99]
  have hb : Below w.heap.size w (w.alloc (.cells (([99] : List Nat).map U).toArray 63)) := (Below.refl _ _).alloc (Nat.le_refl _) _
  have hs := alloc_size w (.cells (([99] : List Nat).map U).toArray 63)
  have hws : ws 9 = [9] := ws_lit [9] _ (by decide) (by intro x hx; simp at hx; omega) (by decide)
  have hws2 : ws 18 = [18] := ws_lit [18] _ (by decide) (by intro x hx; simp at hx; omega) (by decide)
  have C := root_any [99] (some ⟨w.heap.size, 0, none⟩) 1 1 (w.heap.size + 1) _ rfl (by omega) (by omega) (by intro x hx; simp at hx; omega) h1 (by rw [hs]; omega)
  refine C.mono ?_
  rintro r w' ⟨q, hq, ⟨v, u, rfl, hN, hM, hap⟩, hb2⟩
  rw [show val [99] = 99 by decide] at hq hM
  obtain rfl : q = 9 := hq.unique ⟨by decide, by decide⟩
  have hN2 := hN.mono (lo' := w.heap.size) (by rw [hs]; omega)
  have hM2 := hM.mono (lo' := w.heap.size) (by rw [hs]; omega)
  rw [show 99 - 9 * 9 = 18 by decide] at hM2
  obtain ⟨a, c, rfl, _, _, _⟩ := hN2.shape
  obtain ⟨b, d, rfl, _, _, _⟩ := hM2.shape
  simp only [hws] at hN2
  simp only [hws2] at hM2
  refine ⟨a, c, b, d, by rw [hws, hws2]; rfl, hN2, hM2, hb.trans (hb2.mono (by rw [hs]; omega))⟩

set_option maxHeartbeats 1000000 in
theorem aw_small (w : World) : Calls Tryd.prog 51 #[.slice (some ⟨w.heap.size, 0, none⟩) 2 2] (w.alloc (.cells #[.int .u32 7, .int .u32 1] 63)) fun r w' =>
    r = .returned (.tuple #[.int .u64 4294967303, .int .i64 0]) ∧ Below w.heap.size w w' := by
  have h1 := lit_rd w [7, 1]
  have hb : Below w.heap.size w (w.alloc (.cells (([7, 1] : List Nat).map U).toArray 63)) := (Below.refl _ _).alloc (Nat.le_refl _) _
  have hs := alloc_size w (.cells (([7, 1] : List Nat).map U).toArray 63)
  have C := small_any [7, 1] (some ⟨w.heap.size, 0, none⟩) 2 2 (w.heap.size + 1) _ rfl (by omega) (by omega) (by intro x hx; simp at hx; omega) h1
  rw [show val [7, 1] = 4294967303 by decide] at C
  refine C.mono ?_
  rintro r w' ⟨rfl, rfl⟩
  exact ⟨by unfold smallV; rw [if_pos (by omega)]; rfl, hb⟩

set_option maxHeartbeats 1000000 in
theorem aw_norm (w : World) : Calls Tryd.prog 52 #[.slice (some ⟨w.heap.size, 0, none⟩) 3 3] (w.alloc (.cells #[.int .u32 5, .int .u32 0, .int .u32 0] 63)) fun r w' =>
    ∃ a c, r = .returned (.slice a 1 c) ∧ Nt w.heap.size w' (.slice a 1 c) 5 ∧ Below w.heap.size w w' := by
  have h1 := lit_rd w [5, 0, 0]
  have hb : Below w.heap.size w (w.alloc (.cells (([5, 0, 0] : List Nat).map U).toArray 63)) := (Below.refl _ _).alloc (Nat.le_refl _) _
  have hs := alloc_size w (.cells (([5, 0, 0] : List Nat).map U).toArray 63)
  have hws : ws 5 = [5] := ws_lit [5] _ (by decide) (by intro x hx; simp at hx; omega) (by decide)
  have C := norm_any [5, 0, 0] (some ⟨w.heap.size, 0, none⟩) 3 3 (w.heap.size + 1) _ rfl (by omega) (by omega) (by intro x hx; simp at hx; omega) h1 (by rw [hs]; omega)
  rw [show val [5, 0, 0] = 5 by decide, hws] at C
  refine C.mono ?_
  rintro r w' ⟨rfl, hO, hb2⟩
  refine ⟨_, _, rfl, ?_, hb.trans (hb2.mono (by rw [hs]; omega))⟩
  have T := Nt.ofOwn (lo := w.heap.size) hO (by rw [hs]; omega) (by intro x hx; simp at hx; omega) (by simp [maxLen])
  exact T

set_option maxHeartbeats 1000000 in
theorem aw_of (w : World) : Calls Tryd.prog 53 #[.int .u64 4294967303] w fun r w' => ∃ a c, r = .returned (.slice a 2 c) ∧ Nt w.heap.size w' (.slice a 2 c) 4294967303 ∧ Below w.heap.size w w' := by
  have hws : ws 4294967303 = [7, 1] := ws_lit [7, 1] _ (by decide) (by intro x hx; simp at hx; omega) (by decide)
  refine (of_any 4294967303 w (by omega)).mono ?_
  rintro r w' ⟨v, rfl, hN, hb⟩
  obtain ⟨a, c, rfl, _, _, _⟩ := hN.shape
  rw [hws] at hN
  exact ⟨a, c, by rw [hws]; rfl, hN, hb⟩

def awS : ByteArray := ⟨#[49, 56, 52, 52, 54, 55, 52, 52, 48, 55, 51, 55, 48, 57, 53, 53, 49, 54, 49, 54]⟩
def awQ : ByteArray := ⟨#[49, 52, 50, 56, 53, 55, 49, 52, 50, 56, 53, 55, 49, 52, 50, 56, 53, 55, 49, 52]⟩
theorem awS_tx : txs 18446744073709551616 = awS := by
  have h := hd_unique 1 [8, 4, 4, 6, 7, 4, 4, 0, 7, 3, 7, 0, 9, 5, 5, 1, 6, 1, 6] (by unfold Dg; decide) (by decide)
  rw [show num [1, 8, 4, 4, 6, 7, 4, 4, 0, 7, 3, 7, 0, 9, 5, 5, 1, 6, 1, 6] = 18446744073709551616 by decide] at h
  unfold txs tx
  rw [← h]
  rfl
theorem awQ_tx : txs 14285714285714285714 = awQ := by
  have h := hd_unique 1 [4, 2, 8, 5, 7, 1, 4, 2, 8, 5, 7, 1, 4, 2, 8, 5, 7, 1, 4] (by unfold Dg; decide) (by decide)
  rw [show num [1, 4, 2, 8, 5, 7, 1, 4, 2, 8, 5, 7, 1, 4, 2, 8, 5, 7, 1, 4] = 14285714285714285714 by decide] at h
  unfold txs tx
  rw [← h]
  rfl

set_option maxHeartbeats 1000000 in
theorem aw_parse (w : World) : Calls Tryd.prog 13 #[.string awS] w fun r w' => ∃ a c, r = .returned (.tuple #[.slice a 3 c, .int .i64 0]) ∧ Nt w.heap.size w' (.slice a 3 c) 18446744073709551616 ∧ Below w.heap.size w w' := by
  have hws : ws 18446744073709551616 = [0, 0, 1] := ws_lit [0, 0, 1] _ (by decide) (by intro x hx; simp at hx; omega) (by decide)
  have C := Parse_any awS w (by decide)
  have e : parseS (ltr awS) = (18446744073709551616, 0) := by
    have h1 : pn (ltr awS) (ltr awS).length = 18446744073709551616 := by decide
    unfold parseS
    rw [if_neg (by decide), h1, if_neg (not_LG _ _ hws (by decide))]
  rw [e] at C
  refine C.mono ?_
  rintro r w' ⟨⟨v, rfl, hN⟩, hb⟩
  obtain ⟨a, c, rfl, _, _, _⟩ := hN.shape
  simp only [hws] at hN
  exact ⟨a, c, by simp only [hws]; rfl, hN, hb⟩
end Go.Proofs.YtonhahbmdekkdaaDoor
