/- tally: a Tally's block; what a number is counted as, and its key. -/
import Derived.Test.YtgnmnljmgmbmhaaTA1
namespace Go.Proofs.Ytgnmnljmgmbmhaa
open Go.RowKit
set_option linter.unusedVariables false
set_option maxRecDepth 20000
set_option linter.unusedSimpArgs false
attribute [local go_sem] B.f64bits B.f64frombits st_float

/-- A Tally's block: joined, its map's block, how many there are. -/
def Tb (w : World) (g b : Nat) (j : Bool) (n : Nat) : Prop := w.heap[g]? = some (.cells #[.bool j, .map (some b), .int .i64 n] 64 (0, 0))
theorem Tb.lt {w : World} {g b : Nat} {j : Bool} {n : Nat} (h : Tb w g b j n) : g < w.heap.size := (Array.getElem?_eq_some_iff.1 h).1
theorem Tb.c0 {w : World} {g b : Nat} {j : Bool} {n : Nat} (h : Tb w g b j n) : w.cell? ⟨g, 0, none⟩ = some (.bool j) := by unfold Tb at h; simp [World.cell?, h]
theorem Tb.c1 {w : World} {g b : Nat} {j : Bool} {n : Nat} (h : Tb w g b j n) : w.cell? ⟨g, 1, none⟩ = some (.map (some b)) := by unfold Tb at h; simp [World.cell?, h]
theorem Tb.c2 {w : World} {g b : Nat} {j : Bool} {n : Nat} (h : Tb w g b j n) : w.cell? ⟨g, 2, none⟩ = some (.int .i64 n) := by unfold Tb at h; simp [World.cell?, h]
theorem Tb.fz {w : World} {g b : Nat} {j : Bool} {n : Nat} (h : Tb w g b j n) (i : Nat) : w.frozen? ⟨g, i, none⟩ = false := by unfold Tb at h; simp [World.frozen?, h]
theorem Tb.below {w w' : World} {g b : Nat} {j : Bool} {n B : Nat} (h : Tb w g b j n) (hB : g < B) (hb : Below B w w') : Tb w' g b j n := by
  unfold Tb at h ⊢; rw [hb.block g hB]; exact h
theorem Tb.set {w : World} {g b : Nat} {j : Bool} {n : Nat} (h : Tb w g b j n) (m : Nat) : Tb (w.setCell ⟨g, 2, none⟩ (.int .i64 m)) g b j m := by
  unfold Tb at h ⊢
  simp only [World.setCell, Array.getElem?_modify, h]
  simp

set_option maxHeartbeats 1000000 in
theorem value18 {x : Nat} {w : World} {g b : Nat} {j : Bool} {n : Nat} (hx : x < 18446744073709551616) (h : Tb w g b j n) :
    Calls Try.prog 44 #[.pointer (some ⟨g, 0, none⟩), .float .f64 x] w fun r w' => r = .returned (.float .f64 (vW j x)) ∧ Below w.heap.size w w' := by
  have HC := hid (class18 hx w)
  have HN := hid (fun w => B.nan_any w)
  have hlt := h.lt
  have hc0 := h.c0
  have HX := Aside.intro h
  clear h hx
  unfold vW
  by_cases h4 : nanW x = true
  · rw [if_pos h4]
    go_enter Try.func44, Try.ntmps44
    go_wp2_with fail
    refine HC.out.mono ?_
    rintro r w1 ⟨⟨c, rfl, e4, e0⟩, hb⟩
    obtain rfl : c = 4 := e4.2 h4
    go_wp2_with (go_at_call 51; refine (HN.out _).mono ?_; rintro r w2 ⟨rfl, rfl⟩)
    go_ret
    exact ⟨rfl, hb⟩
  · rw [if_neg h4]
    by_cases h0 : magW x = 0
    · cases j
      · have hv : (if (false && decide (magW x = 0)) = true then 0 else x) = x := by simp [h0]
        rw [hv]
        clear hv
        go_enter Try.func44, Try.ntmps44
        go_wp2_with fail
        refine HC.out.mono ?_
        rintro r w1 ⟨⟨c, rfl, e4, e0⟩, hb⟩
        obtain rfl : c = 0 := e0.2 h0
        have hc1 : w1.cell? ⟨g, 0, none⟩ = some (.bool false) := (hb.cell (p := ⟨g, 0, none⟩) hlt).trans hc0
        clear e4 e0 hc0
        go_wp2
        go_ret
        exact ⟨rfl, hb⟩
      · have hv : (if (true && decide (magW x = 0)) = true then 0 else x) = 0 := by simp [h0]
        rw [hv]
        clear hv
        go_enter Try.func44, Try.ntmps44
        go_wp2_with fail
        refine HC.out.mono ?_
        rintro r w1 ⟨⟨c, rfl, e4, e0⟩, hb⟩
        obtain rfl : c = 0 := e0.2 h0
        have hc1 : w1.cell? ⟨g, 0, none⟩ = some (.bool true) := (hb.cell (p := ⟨g, 0, none⟩) hlt).trans hc0
        clear e4 e0 hc0
        go_wp2
        go_ret
        exact ⟨rfl, hb⟩
    · have hv : (if (j && decide (magW x = 0)) = true then 0 else x) = x := by simp [h0]
      rw [hv]
      clear hv
      go_enter Try.func44, Try.ntmps44
      go_wp2_with fail
      refine HC.out.mono ?_
      rintro r w1 ⟨⟨c, rfl, e4, e0⟩, hb⟩
      have n4 : ¬ c = 4 := fun e => h4 (e4.1 e)
      have n0 : ¬ c = 0 := fun e => h0 (e0.1 e)
      have d4 : decide (c = 4) = false := by simp [n4]
      have d0 : decide (c = 0) = false := by simp [n0]
      have q4 : (c == 4) = false := by simp [n4]
      have q0 : (c == 0) = false := by simp [n0]
      clear e4 e0 hc0
      go_wp2
      go_ret
      exact ⟨rfl, hb⟩
set_option maxHeartbeats 1000000 in
theorem key18 {x : Nat} {w : World} {g b : Nat} {j : Bool} {n : Nat} (hx : x < 18446744073709551616) (h : Tb w g b j n) :
    Calls Try.prog 33 #[.pointer (some ⟨g, 0, none⟩), .float .f64 x] w fun r w' => r = .returned (.int .u64 (vW j x)) ∧ Below w.heap.size w w' := by
  have HV := hid (value18 hx h)
  clear h hx
  go_enter Try.func33, Try.ntmps33
  go_wp2_with (go_at_call 44; refine HV.out.mono ?_; rintro r w1 ⟨rfl, hb⟩)
  go_ret
  exact ⟨rfl, hb⟩
end Go.Proofs.Ytgnmnljmgmbmhaa
