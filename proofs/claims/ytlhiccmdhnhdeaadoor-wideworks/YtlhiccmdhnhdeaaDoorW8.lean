/- add: a sum in new memory. -/
import Derived.Test.YtlhiccmdhnhdeaaDoorW3
import Derived.Test.YtlhiccmdhnhdeaaDoorW7
namespace Go.Proofs.YtlhiccmdhnhdeaaDoor
open Go.RowKit
set_option linter.unusedVariables false
set_option maxRecDepth 20000

theorem val_snoc0 (xs : List Nat) : sg (xs ++ [0]) 0 xs.length = val xs := by simp [sg]
theorem wf_snoc0 {xs : List Nat} (h : Wf xs) : Wf (xs ++ [0]) := h.append (by intro x hx; simp at hx; omega)
theorem zeros_last (n : Nat) : (List.replicate (n + 1) 0).drop n = [0] := by rw [List.drop_replicate, Nat.add_sub_cancel_left]; rfl

set_option maxHeartbeats 2000000 in
theorem add_ge (xs ys : List Nat) (ao bo : Option Addr) (n cap m capb B : Nat) (w : World) (hn : n = xs.length) (hm : m = ys.length) (hnm : m ≤ n) (hc : n ≤ cap) (hcb : m ≤ capb) (hbig : n ≤ 35184372088833)
    (hx : Wf xs) (hy : Wf ys) (hR : Rd B w ao xs) (hS : Rd B w bo ys) (hB : B ≤ w.heap.size) :
    Calls Tryd.prog 96 #[.slice ao n cap, .slice bo m capb] w fun r w' => ∃ v, r = .returned v ∧ Nt w.heap.size w' v (val xs + val ys) ∧ Below w.heap.size w w' := by
  obtain ⟨W1, hW1⟩ : ∃ W, W = w.alloc (.cells (madeCells #[.int .u32 0] (n + 1)) 57) := ⟨_, rfl⟩
  have hO1 : Own W1 w.heap.size (List.replicate (n + 1) 0) := by rw [hW1]; exact Own.made w (n + 1)
  have hB1 : Below w.heap.size w W1 := by rw [hW1]; exact (Below.refl _ _).alloc (Nat.le_refl _) _
  obtain ⟨W2, hcp, hO2, hb2⟩ := copy_words W1 w.heap.size (n + 1) (n + 1) ao n cap B 3 (List.replicate (n + 1) 0) xs hO1 (by simp) hn (hR.below (hB1.mono hB)) (by omega)
  rw [zeros_last] at hO2
  have hB2 : Below w.heap.size w W2 := But.below hB1 hb2 hB1.size (Nat.le_refl _)
  have H := hid (addTo_any (xs ++ [0]) ys w.heap.size 0 n (n + 1) bo m capb B W2 hO2 (by simp; omega) hm (by omega) (by omega) (by omega) (wf_snoc0 hx) hy (hS.below (hB2.mono hB)) hB)
  have hmk := make_words ((n : Int) + 1) (n + 1) (by omega) (by omega) w
  rw [← hW1] at hmk
  have HH := (Aside.intro (And.intro hn (And.intro hm (And.intro hx (And.intro hB2 hB)))))
  clear hn hm hx hy hR hS hO1 hB1 hO2 hb2 hB2 hB hW1
  go_enter Tryd.func96, Tryd.ntmps96
  go_wp2_with fail
  refine (Calls.mono H.out) ?_
  rintro r W3 ⟨M, c, rfl, hc1, hO3, hM, hout, hsum, hbut⟩
  obtain ⟨hn, hm, hx, hB2, hB⟩ := HH.out
  have hl : M.length = n + 1 := by rw [hout.1]; simp; omega
  have hcl := hO3.cell n (by omega)
  have hfr := hO3.frozen n
  have hO4 := hO3.set n c
  have T := hid (trim_any (M.set n c) (some ⟨w.heap.size, 0, none⟩) (n + 1) (n + 1) (w.heap.size + 1) _ (by simp [hl]) (Nat.le_refl _) (by omega) (by simpa [hl, List.take_of_length_le] using Rd.ofOwn hO4 0 (n + 1)))
  have HI := (Aside.intro (And.intro hc1 (And.intro hO4 (And.intro hM (And.intro hsum (And.intro hbut hl))))))
  clear hn hm hx hB2 hB hc1 hO3 hM hout hsum hbut hO4 H hl
  go_wp2_with fail
  refine (Calls.mono T.out) ?_
  rintro r w1 ⟨rfl, rfl⟩
  go_wp2
  go_ret
  obtain ⟨hn, hm, hx, hB2, hB⟩ := HH.out
  obtain ⟨hc1, hO4, hM, hsum, hbut, hl⟩ := HI.out
  have hv : val (M.set n c) = val xs + val ys := by
    have e : val (M.set n c) = sg (M.set n c) 0 (n + 1) := by rw [← sg_all]; simp [hl]
    have e2 := sg_set_last M 0 n c (by omega)
    rw [Nat.zero_add] at e2
    rw [e, e2]
    rw [hn, val_snoc0, ← hn] at hsum
    rw [Nat.mul_comm c] at hsum
    exact hsum
  refine ⟨_, rfl, ?_, But.below hB2 (hbut.set n _) hB2.size (Nat.le_refl _)⟩
  have N := Nt.ofOwn (lo := w.heap.size) hO4 (Nat.le_refl _) (hM.set _ _ (by omega)) (by simp [hl]; unfold maxLen; omega)
  rw [hv] at N
  simpa [hl] using N

set_option maxHeartbeats 2000000 in
theorem add_lt (xs ys : List Nat) (ao bo : Option Addr) (n cap m capb B : Nat) (w : World) (hn : n = xs.length) (hm : m = ys.length) (hnm : m < n) (hc : n ≤ cap) (hcb : m ≤ capb) (hbig : n ≤ 35184372088833)
    (hx : Wf xs) (hy : Wf ys) (hR : Rd B w ao xs) (hS : Rd B w bo ys) (hB : B ≤ w.heap.size) :
    Calls Tryd.prog 96 #[.slice bo m capb, .slice ao n cap] w fun r w' => ∃ v, r = .returned v ∧ Nt w.heap.size w' v (val xs + val ys) ∧ Below w.heap.size w w' := by
  obtain ⟨W1, hW1⟩ : ∃ W, W = w.alloc (.cells (madeCells #[.int .u32 0] (n + 1)) 57) := ⟨_, rfl⟩
  have hO1 : Own W1 w.heap.size (List.replicate (n + 1) 0) := by rw [hW1]; exact Own.made w (n + 1)
  have hB1 : Below w.heap.size w W1 := by rw [hW1]; exact (Below.refl _ _).alloc (Nat.le_refl _) _
  obtain ⟨W2, hcp, hO2, hb2⟩ := copy_words W1 w.heap.size (n + 1) (n + 1) ao n cap B 3 (List.replicate (n + 1) 0) xs hO1 (by simp) hn (hR.below (hB1.mono hB)) (by omega)
  rw [zeros_last] at hO2
  have hB2 : Below w.heap.size w W2 := But.below hB1 hb2 hB1.size (Nat.le_refl _)
  have H := hid (addTo_any (xs ++ [0]) ys w.heap.size 0 n (n + 1) bo m capb B W2 hO2 (by simp; omega) hm (by omega) (by omega) (by omega) (wf_snoc0 hx) hy (hS.below (hB2.mono hB)) hB)
  have hmk := make_words ((n : Int) + 1) (n + 1) (by omega) (by omega) w
  rw [← hW1] at hmk
  have HH := (Aside.intro (And.intro hn (And.intro hm (And.intro hx (And.intro hB2 hB)))))
  clear hn hm hx hy hR hS hO1 hB1 hO2 hb2 hB2 hB hW1
  go_enter Tryd.func96, Tryd.ntmps96
  go_wp2_with fail
  refine (Calls.mono H.out) ?_
  rintro r W3 ⟨M, c, rfl, hc1, hO3, hM, hout, hsum, hbut⟩
  obtain ⟨hn, hm, hx, hB2, hB⟩ := HH.out
  have hl : M.length = n + 1 := by rw [hout.1]; simp; omega
  have hcl := hO3.cell n (by omega)
  have hfr := hO3.frozen n
  have hO4 := hO3.set n c
  have T := hid (trim_any (M.set n c) (some ⟨w.heap.size, 0, none⟩) (n + 1) (n + 1) (w.heap.size + 1) _ (by simp [hl]) (Nat.le_refl _) (by omega) (by simpa [hl, List.take_of_length_le] using Rd.ofOwn hO4 0 (n + 1)))
  have HI := (Aside.intro (And.intro hc1 (And.intro hO4 (And.intro hM (And.intro hsum (And.intro hbut hl))))))
  clear hn hm hx hB2 hB hc1 hO3 hM hout hsum hbut hO4 H hl
  go_wp2_with fail
  refine (Calls.mono T.out) ?_
  rintro r w1 ⟨rfl, rfl⟩
  go_wp2
  go_ret
  obtain ⟨hn, hm, hx, hB2, hB⟩ := HH.out
  obtain ⟨hc1, hO4, hM, hsum, hbut, hl⟩ := HI.out
  have hv : val (M.set n c) = val xs + val ys := by
    have e : val (M.set n c) = sg (M.set n c) 0 (n + 1) := by rw [← sg_all]; simp [hl]
    have e2 := sg_set_last M 0 n c (by omega)
    rw [Nat.zero_add] at e2
    rw [e, e2]
    rw [hn, val_snoc0, ← hn] at hsum
    rw [Nat.mul_comm c] at hsum
    exact hsum
  refine ⟨_, rfl, ?_, But.below hB2 (hbut.set n _) hB2.size (Nat.le_refl _)⟩
  have N := Nt.ofOwn (lo := w.heap.size) hO4 (Nat.le_refl _) (hM.set _ _ (by omega)) (by simp [hl]; unfold maxLen; omega)
  rw [hv] at N
  simpa [hl] using N

theorem add_any (xs ys : List Nat) (ao bo : Option Addr) (n cap m capb B : Nat) (w : World) (hn : n = xs.length) (hm : m = ys.length) (hc : n ≤ cap) (hcb : m ≤ capb) (hbig : n ≤ 35184372088833) (hbig2 : m ≤ 35184372088833)
    (hx : Wf xs) (hy : Wf ys) (hR : Rd B w ao xs) (hS : Rd B w bo ys) (hB : B ≤ w.heap.size) :
    Calls Tryd.prog 96 #[.slice ao n cap, .slice bo m capb] w fun r w' => ∃ v, r = .returned v ∧ Nt w.heap.size w' v (val xs + val ys) ∧ Below w.heap.size w w' := by
  by_cases h : m ≤ n
  · exact add_ge xs ys ao bo n cap m capb B w hn hm h hc hcb hbig hx hy hR hS hB
  · have := add_lt ys xs bo ao m capb n cap B w hm hn (by omega) hcb hc hbig2 hy hx hS hR hB
    rw [Nat.add_comm] at this
    exact this
end Go.Proofs.YtlhiccmdhnhdeaaDoor
