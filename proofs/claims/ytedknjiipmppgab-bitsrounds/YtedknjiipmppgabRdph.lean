/- The walk of BitsRounds, between two neighbours: over what Narrow and Widen answer and how the numbers compare. -/
import Derived.Test.YtedknjiipmppgabR1
import Derived.Deep.QuietTactic
import Derived.BigQuiet
namespace Go.Proofs.Ytedknjiipmppgab
open Go.RowKit
attribute [local go_sem] f64bits f64frombits f32bits f32frombits
set_option linter.unusedVariables false

theorem run_store_floatRdph (P : Program) (w : World) (a : Addr) (m : Mode) (k : FloatKind) (b : Nat) : (store a (.float k b) m).run P w = stored P w a (.float k b) m := run_store P w a _ m rfl
attribute [local go_sem] run_store_floatRdph

set_option maxRecDepth 100000 in
set_option maxHeartbeats 8000000 in
theorem rd_phl (X Y0 Y1 Y2 Y3 Y4 W0 W1 W2 W3 W4 : Nat) (N0 : Hid (∀ w, Calls Try.prog 12 #[.float .f64 X, .int .i64 0] w fun r w' => r = .returned (.tuple #[.float .f32 Y0, .int .i64 0]) ∧ Below w.heap.size w w')) (D0 : Hid (∀ w, Calls Try.prog 15 #[.float .f32 Y0] w fun r w' => r = .returned (.float .f64 W0) ∧ w' = w)) (N1 : Hid (∀ w, Calls Try.prog 12 #[.float .f64 X, .int .i64 1] w fun r w' => r = .returned (.tuple #[.float .f32 Y1, .int .i64 0]) ∧ Below w.heap.size w w')) (D1 : Hid (∀ w, Calls Try.prog 15 #[.float .f32 Y1] w fun r w' => r = .returned (.float .f64 W1) ∧ w' = w)) (N2 : Hid (∀ w, Calls Try.prog 12 #[.float .f64 X, .int .i64 2] w fun r w' => r = .returned (.tuple #[.float .f32 Y2, .int .i64 0]) ∧ Below w.heap.size w w')) (D2 : Hid (∀ w, Calls Try.prog 15 #[.float .f32 Y2] w fun r w' => r = .returned (.float .f64 W2) ∧ w' = w)) (N3 : Hid (∀ w, Calls Try.prog 12 #[.float .f64 X, .int .i64 3] w fun r w' => r = .returned (.tuple #[.float .f32 Y3, .int .i64 0]) ∧ Below w.heap.size w w')) (D3 : Hid (∀ w, Calls Try.prog 15 #[.float .f32 Y3] w fun r w' => r = .returned (.float .f64 W3) ∧ w' = w)) (N4 : Hid (∀ w, Calls Try.prog 12 #[.float .f64 X, .int .i64 4] w fun r w' => r = .returned (.tuple #[.float .f32 Y4, .int .i64 0]) ∧ Below w.heap.size w w')) (D4 : Hid (∀ w, Calls Try.prog 15 #[.float .f32 Y4] w fun r w' => r = .returned (.float .f64 W4) ∧ w' = w)) (ox : (FloatKind.f64.format.order X X != some .eq) = false) (l1 : (FloatKind.f64.format.order W3 X == some .lt || FloatKind.f64.format.order W3 X == some .eq) = true) (l2 : (FloatKind.f64.format.order X W2 == some .lt || FloatKind.f64.format.order X W2 == some .eq) = true) (e1 : (FloatKind.f64.format.order W3 W2 == some .eq) = false) (hb2 : Y2 < 4294967295) (hb3 : Y3 < 4294967295) (i1 : ((Y2 : Int) == (Y3 : Int) + 1) = true) (xz : (FloatKind.f64.format.order X 0 == some .lt) = false) (q1 : (FloatKind.f64.format.order W1 W3 == some .eq) = true) (a0 : (FloatKind.f64.format.order W0 W3 != some .eq) = true) (c0 : (FloatKind.f64.format.order W0 W2 != some .eq) = false) (a1 : (FloatKind.f64.format.order W1 W3 != some .eq) = false) (a2 : (FloatKind.f64.format.order W2 W3 != some .eq) = true) (c2 : (FloatKind.f64.format.order W2 W2 != some .eq) = false) (a3 : (FloatKind.f64.format.order W3 W3 != some .eq) = false) (a4 : (FloatKind.f64.format.order W4 W3 != some .eq) = false) (HN0 : Hid (∀ w, Calls Try.prog 21 #[.float .f64 X, .float .f64 W3, .float .f64 W2, .float .f64 W0] w fun r w' => r = .returned (.bool true) ∧ w' = w)) (HN4 : Hid (∀ w, Calls Try.prog 21 #[.float .f64 X, .float .f64 W3, .float .f64 W2, .float .f64 W4] w fun r w' => r = .returned (.bool true) ∧ w' = w))  (w : World) :
    Calls Try.prog 7 #[.float .f64 X] w fun r w' => r = .returned (.bool true) ∧ Below w.heap.size w w' := by
  go_enter Try.func7, Try.ntmps7
  go_wp2_with fail
  refine (live_any _).mono ?_
  rintro r w1 ⟨rfl, b0⟩
  have A0 := (b0.alloc b0.size (.cells #[.float .f32 0, .float .f32 0, .float .f32 0, .float .f32 0, .float .f32 0] 40)).alloc (by simp; exact Nat.le_succ_of_le b0.size) (.cells #[.float .f64 0, .float .f64 0, .float .f64 0, .float .f64 0, .float .f64 0] 41)
  go_wp2_with fail
  refine wp_loop_rounds 6 ?_
  rw [rounds_succ]
  go_wp2_with fail
  refine (N0.out _).mono ?_
  rintro r v1 ⟨rfl, b1⟩
  have B1 := A0.trans (b1.mono A0.size)
  obtain ⟨hc1, hf1⟩ := bcell b1
  have z1 : w1.heap.size + 1 < v1.heap.size := by (have := b1.size; simp at this; omega)
  have y1 : w1.heap.size < v1.heap.size := by omega
  have A1 := (B1.setCell (p := ⟨w1.heap.size, 0, none⟩) b0.size (.float .f32 Y0)).setCell (p := ⟨w1.heap.size + 1, 0, none⟩) (Nat.le_succ_of_le b0.size) (.float .f64 W0)
  go_wp2_with (go_at_call 15; refine (D0.out _).mono ?_; rintro r u ⟨rfl, rfl⟩)
  rw [rounds_succ]
  go_wp2_with fail
  refine (N1.out _).mono ?_
  rintro r v2 ⟨rfl, b2⟩
  have B2 := A1.trans (b2.mono A1.size)
  obtain ⟨hc2, hf2⟩ := bcell b2
  have z2 : w1.heap.size + 1 < v2.heap.size := by (have := b2.size; simp at this; omega)
  have y2 : w1.heap.size < v2.heap.size := by omega
  have A2 := (B2.setCell (p := ⟨w1.heap.size, 1, none⟩) b0.size (.float .f32 Y1)).setCell (p := ⟨w1.heap.size + 1, 1, none⟩) (Nat.le_succ_of_le b0.size) (.float .f64 W1)
  go_wp2_with (go_at_call 15; refine (D1.out _).mono ?_; rintro r u ⟨rfl, rfl⟩)
  rw [rounds_succ]
  go_wp2_with fail
  refine (N2.out _).mono ?_
  rintro r v3 ⟨rfl, b3⟩
  have B3 := A2.trans (b3.mono A2.size)
  obtain ⟨hc3, hf3⟩ := bcell b3
  have z3 : w1.heap.size + 1 < v3.heap.size := by (have := b3.size; simp at this; omega)
  have y3 : w1.heap.size < v3.heap.size := by omega
  have A3 := (B3.setCell (p := ⟨w1.heap.size, 2, none⟩) b0.size (.float .f32 Y2)).setCell (p := ⟨w1.heap.size + 1, 2, none⟩) (Nat.le_succ_of_le b0.size) (.float .f64 W2)
  go_wp2_with (go_at_call 15; refine (D2.out _).mono ?_; rintro r u ⟨rfl, rfl⟩)
  rw [rounds_succ]
  go_wp2_with fail
  refine (N3.out _).mono ?_
  rintro r v4 ⟨rfl, b4⟩
  have B4 := A3.trans (b4.mono A3.size)
  obtain ⟨hc4, hf4⟩ := bcell b4
  have z4 : w1.heap.size + 1 < v4.heap.size := by (have := b4.size; simp at this; omega)
  have y4 : w1.heap.size < v4.heap.size := by omega
  have A4 := (B4.setCell (p := ⟨w1.heap.size, 3, none⟩) b0.size (.float .f32 Y3)).setCell (p := ⟨w1.heap.size + 1, 3, none⟩) (Nat.le_succ_of_le b0.size) (.float .f64 W3)
  go_wp2_with (go_at_call 15; refine (D3.out _).mono ?_; rintro r u ⟨rfl, rfl⟩)
  rw [rounds_succ]
  go_wp2_with fail
  refine (N4.out _).mono ?_
  rintro r v5 ⟨rfl, b5⟩
  have B5 := A4.trans (b5.mono A4.size)
  obtain ⟨hc5, hf5⟩ := bcell b5
  have z5 : w1.heap.size + 1 < v5.heap.size := by (have := b5.size; simp at this; omega)
  have y5 : w1.heap.size < v5.heap.size := by omega
  have A5 := (B5.setCell (p := ⟨w1.heap.size, 4, none⟩) b0.size (.float .f32 Y4)).setCell (p := ⟨w1.heap.size + 1, 4, none⟩) (Nat.le_succ_of_le b0.size) (.float .f64 W4)
  go_wp2_with (go_at_call 15; refine (D4.out _).mono ?_; rintro r u ⟨rfl, rfl⟩)
  rw [rounds_succ]
  go_wp2_with fail
  have p2 : ((v5.setCell ⟨w1.heap.size, 4, none⟩ (.float .f32 Y4)).setCell ⟨w1.heap.size + 1, 4, none⟩ (.float .f64 W4)).cell? ⟨w1.heap.size, 2, none⟩ = some (.float .f32 Y2) := by (go_simp; refine World.cell?_setCell_same' _ _ _ ?_; go_simp)
  have p3 : ((v5.setCell ⟨w1.heap.size, 4, none⟩ (.float .f32 Y4)).setCell ⟨w1.heap.size + 1, 4, none⟩ (.float .f64 W4)).cell? ⟨w1.heap.size, 3, none⟩ = some (.float .f32 Y3) := by (go_simp; refine World.cell?_setCell_same' _ _ _ ?_; go_simp)
  have g0 : ((v5.setCell ⟨w1.heap.size, 4, none⟩ (.float .f32 Y4)).setCell ⟨w1.heap.size + 1, 4, none⟩ (.float .f64 W4)).cell? ⟨w1.heap.size + 1, 0, none⟩ = some (.float .f64 W0) := by go_simp
  have g1 : ((v5.setCell ⟨w1.heap.size, 4, none⟩ (.float .f32 Y4)).setCell ⟨w1.heap.size + 1, 4, none⟩ (.float .f64 W4)).cell? ⟨w1.heap.size + 1, 1, none⟩ = some (.float .f64 W1) := by go_simp
  have g2 : ((v5.setCell ⟨w1.heap.size, 4, none⟩ (.float .f32 Y4)).setCell ⟨w1.heap.size + 1, 4, none⟩ (.float .f64 W4)).cell? ⟨w1.heap.size + 1, 2, none⟩ = some (.float .f64 W2) := by go_simp
  have g3 : ((v5.setCell ⟨w1.heap.size, 4, none⟩ (.float .f32 Y4)).setCell ⟨w1.heap.size + 1, 4, none⟩ (.float .f64 W4)).cell? ⟨w1.heap.size + 1, 3, none⟩ = some (.float .f64 W3) := by go_simp
  have g4 : ((v5.setCell ⟨w1.heap.size, 4, none⟩ (.float .f32 Y4)).setCell ⟨w1.heap.size + 1, 4, none⟩ (.float .f64 W4)).cell? ⟨w1.heap.size + 1, 4, none⟩ = some (.float .f64 W4) := by go_simp
  generalize ((v5.setCell ⟨w1.heap.size, 4, none⟩ (.float .f32 Y4)).setCell ⟨w1.heap.size + 1, 4, none⟩ (.float .f64 W4)) = wf at A5 p2 p3 g0 g1 g2 g3 g4 ⊢
  clear hc1 hc2 hc3 hc4 hc5 hf1 hf2 hf3 hf4 hf5 b1 b2 b3 b4 b5 B1 B2 B3 B4 B5 A0 A1 A2 A3 A4
  go_quiet (fail)
  go_wp2_with fail
  refine wp_loop_rounds 6 ?_
  rw [rounds_succ]
  go_wp2_with fail
  rw [rounds_succ]
  go_wp2_with fail
  rw [rounds_succ]
  go_wp2_with fail
  rw [rounds_succ]
  go_wp2_with fail
  rw [rounds_succ]
  go_wp2_with fail
  rw [rounds_succ]
  go_wp2_with fail
  refine (HN0.out _).mono ?_
  rintro r u ⟨rfl, hu⟩
  go_wp2_with fail
  refine (HN4.out _).mono ?_
  rintro r u2 ⟨rfl, hu2⟩
  go_wp2_with fail
  go_ret
  exact ⟨rfl, below_drewN A5 _⟩

set_option maxRecDepth 100000 in
set_option maxHeartbeats 8000000 in
theorem rd_phh (X Y0 Y1 Y2 Y3 Y4 W0 W1 W2 W3 W4 : Nat) (N0 : Hid (∀ w, Calls Try.prog 12 #[.float .f64 X, .int .i64 0] w fun r w' => r = .returned (.tuple #[.float .f32 Y0, .int .i64 0]) ∧ Below w.heap.size w w')) (D0 : Hid (∀ w, Calls Try.prog 15 #[.float .f32 Y0] w fun r w' => r = .returned (.float .f64 W0) ∧ w' = w)) (N1 : Hid (∀ w, Calls Try.prog 12 #[.float .f64 X, .int .i64 1] w fun r w' => r = .returned (.tuple #[.float .f32 Y1, .int .i64 0]) ∧ Below w.heap.size w w')) (D1 : Hid (∀ w, Calls Try.prog 15 #[.float .f32 Y1] w fun r w' => r = .returned (.float .f64 W1) ∧ w' = w)) (N2 : Hid (∀ w, Calls Try.prog 12 #[.float .f64 X, .int .i64 2] w fun r w' => r = .returned (.tuple #[.float .f32 Y2, .int .i64 0]) ∧ Below w.heap.size w w')) (D2 : Hid (∀ w, Calls Try.prog 15 #[.float .f32 Y2] w fun r w' => r = .returned (.float .f64 W2) ∧ w' = w)) (N3 : Hid (∀ w, Calls Try.prog 12 #[.float .f64 X, .int .i64 3] w fun r w' => r = .returned (.tuple #[.float .f32 Y3, .int .i64 0]) ∧ Below w.heap.size w w')) (D3 : Hid (∀ w, Calls Try.prog 15 #[.float .f32 Y3] w fun r w' => r = .returned (.float .f64 W3) ∧ w' = w)) (N4 : Hid (∀ w, Calls Try.prog 12 #[.float .f64 X, .int .i64 4] w fun r w' => r = .returned (.tuple #[.float .f32 Y4, .int .i64 0]) ∧ Below w.heap.size w w')) (D4 : Hid (∀ w, Calls Try.prog 15 #[.float .f32 Y4] w fun r w' => r = .returned (.float .f64 W4) ∧ w' = w)) (ox : (FloatKind.f64.format.order X X != some .eq) = false) (l1 : (FloatKind.f64.format.order W3 X == some .lt || FloatKind.f64.format.order W3 X == some .eq) = true) (l2 : (FloatKind.f64.format.order X W2 == some .lt || FloatKind.f64.format.order X W2 == some .eq) = true) (e1 : (FloatKind.f64.format.order W3 W2 == some .eq) = false) (hb2 : Y2 < 4294967295) (hb3 : Y3 < 4294967295) (i1 : ((Y2 : Int) == (Y3 : Int) + 1) = true) (xz : (FloatKind.f64.format.order X 0 == some .lt) = false) (q1 : (FloatKind.f64.format.order W1 W3 == some .eq) = true) (a0 : (FloatKind.f64.format.order W0 W3 != some .eq) = true) (c0 : (FloatKind.f64.format.order W0 W2 != some .eq) = false) (a1 : (FloatKind.f64.format.order W1 W3 != some .eq) = false) (a2 : (FloatKind.f64.format.order W2 W3 != some .eq) = true) (c2 : (FloatKind.f64.format.order W2 W2 != some .eq) = false) (a3 : (FloatKind.f64.format.order W3 W3 != some .eq) = false) (a4 : (FloatKind.f64.format.order W4 W3 != some .eq) = true) (c4 : (FloatKind.f64.format.order W4 W2 != some .eq) = false) (HN0 : Hid (∀ w, Calls Try.prog 21 #[.float .f64 X, .float .f64 W3, .float .f64 W2, .float .f64 W0] w fun r w' => r = .returned (.bool true) ∧ w' = w)) (HN4 : Hid (∀ w, Calls Try.prog 21 #[.float .f64 X, .float .f64 W3, .float .f64 W2, .float .f64 W4] w fun r w' => r = .returned (.bool true) ∧ w' = w))  (w : World) :
    Calls Try.prog 7 #[.float .f64 X] w fun r w' => r = .returned (.bool true) ∧ Below w.heap.size w w' := by
  go_enter Try.func7, Try.ntmps7
  go_wp2_with fail
  refine (live_any _).mono ?_
  rintro r w1 ⟨rfl, b0⟩
  have A0 := (b0.alloc b0.size (.cells #[.float .f32 0, .float .f32 0, .float .f32 0, .float .f32 0, .float .f32 0] 40)).alloc (by simp; exact Nat.le_succ_of_le b0.size) (.cells #[.float .f64 0, .float .f64 0, .float .f64 0, .float .f64 0, .float .f64 0] 41)
  go_wp2_with fail
  refine wp_loop_rounds 6 ?_
  rw [rounds_succ]
  go_wp2_with fail
  refine (N0.out _).mono ?_
  rintro r v1 ⟨rfl, b1⟩
  have B1 := A0.trans (b1.mono A0.size)
  obtain ⟨hc1, hf1⟩ := bcell b1
  have z1 : w1.heap.size + 1 < v1.heap.size := by (have := b1.size; simp at this; omega)
  have y1 : w1.heap.size < v1.heap.size := by omega
  have A1 := (B1.setCell (p := ⟨w1.heap.size, 0, none⟩) b0.size (.float .f32 Y0)).setCell (p := ⟨w1.heap.size + 1, 0, none⟩) (Nat.le_succ_of_le b0.size) (.float .f64 W0)
  go_wp2_with (go_at_call 15; refine (D0.out _).mono ?_; rintro r u ⟨rfl, rfl⟩)
  rw [rounds_succ]
  go_wp2_with fail
  refine (N1.out _).mono ?_
  rintro r v2 ⟨rfl, b2⟩
  have B2 := A1.trans (b2.mono A1.size)
  obtain ⟨hc2, hf2⟩ := bcell b2
  have z2 : w1.heap.size + 1 < v2.heap.size := by (have := b2.size; simp at this; omega)
  have y2 : w1.heap.size < v2.heap.size := by omega
  have A2 := (B2.setCell (p := ⟨w1.heap.size, 1, none⟩) b0.size (.float .f32 Y1)).setCell (p := ⟨w1.heap.size + 1, 1, none⟩) (Nat.le_succ_of_le b0.size) (.float .f64 W1)
  go_wp2_with (go_at_call 15; refine (D1.out _).mono ?_; rintro r u ⟨rfl, rfl⟩)
  rw [rounds_succ]
  go_wp2_with fail
  refine (N2.out _).mono ?_
  rintro r v3 ⟨rfl, b3⟩
  have B3 := A2.trans (b3.mono A2.size)
  obtain ⟨hc3, hf3⟩ := bcell b3
  have z3 : w1.heap.size + 1 < v3.heap.size := by (have := b3.size; simp at this; omega)
  have y3 : w1.heap.size < v3.heap.size := by omega
  have A3 := (B3.setCell (p := ⟨w1.heap.size, 2, none⟩) b0.size (.float .f32 Y2)).setCell (p := ⟨w1.heap.size + 1, 2, none⟩) (Nat.le_succ_of_le b0.size) (.float .f64 W2)
  go_wp2_with (go_at_call 15; refine (D2.out _).mono ?_; rintro r u ⟨rfl, rfl⟩)
  rw [rounds_succ]
  go_wp2_with fail
  refine (N3.out _).mono ?_
  rintro r v4 ⟨rfl, b4⟩
  have B4 := A3.trans (b4.mono A3.size)
  obtain ⟨hc4, hf4⟩ := bcell b4
  have z4 : w1.heap.size + 1 < v4.heap.size := by (have := b4.size; simp at this; omega)
  have y4 : w1.heap.size < v4.heap.size := by omega
  have A4 := (B4.setCell (p := ⟨w1.heap.size, 3, none⟩) b0.size (.float .f32 Y3)).setCell (p := ⟨w1.heap.size + 1, 3, none⟩) (Nat.le_succ_of_le b0.size) (.float .f64 W3)
  go_wp2_with (go_at_call 15; refine (D3.out _).mono ?_; rintro r u ⟨rfl, rfl⟩)
  rw [rounds_succ]
  go_wp2_with fail
  refine (N4.out _).mono ?_
  rintro r v5 ⟨rfl, b5⟩
  have B5 := A4.trans (b5.mono A4.size)
  obtain ⟨hc5, hf5⟩ := bcell b5
  have z5 : w1.heap.size + 1 < v5.heap.size := by (have := b5.size; simp at this; omega)
  have y5 : w1.heap.size < v5.heap.size := by omega
  have A5 := (B5.setCell (p := ⟨w1.heap.size, 4, none⟩) b0.size (.float .f32 Y4)).setCell (p := ⟨w1.heap.size + 1, 4, none⟩) (Nat.le_succ_of_le b0.size) (.float .f64 W4)
  go_wp2_with (go_at_call 15; refine (D4.out _).mono ?_; rintro r u ⟨rfl, rfl⟩)
  rw [rounds_succ]
  go_wp2_with fail
  have p2 : ((v5.setCell ⟨w1.heap.size, 4, none⟩ (.float .f32 Y4)).setCell ⟨w1.heap.size + 1, 4, none⟩ (.float .f64 W4)).cell? ⟨w1.heap.size, 2, none⟩ = some (.float .f32 Y2) := by (go_simp; refine World.cell?_setCell_same' _ _ _ ?_; go_simp)
  have p3 : ((v5.setCell ⟨w1.heap.size, 4, none⟩ (.float .f32 Y4)).setCell ⟨w1.heap.size + 1, 4, none⟩ (.float .f64 W4)).cell? ⟨w1.heap.size, 3, none⟩ = some (.float .f32 Y3) := by (go_simp; refine World.cell?_setCell_same' _ _ _ ?_; go_simp)
  have g0 : ((v5.setCell ⟨w1.heap.size, 4, none⟩ (.float .f32 Y4)).setCell ⟨w1.heap.size + 1, 4, none⟩ (.float .f64 W4)).cell? ⟨w1.heap.size + 1, 0, none⟩ = some (.float .f64 W0) := by go_simp
  have g1 : ((v5.setCell ⟨w1.heap.size, 4, none⟩ (.float .f32 Y4)).setCell ⟨w1.heap.size + 1, 4, none⟩ (.float .f64 W4)).cell? ⟨w1.heap.size + 1, 1, none⟩ = some (.float .f64 W1) := by go_simp
  have g2 : ((v5.setCell ⟨w1.heap.size, 4, none⟩ (.float .f32 Y4)).setCell ⟨w1.heap.size + 1, 4, none⟩ (.float .f64 W4)).cell? ⟨w1.heap.size + 1, 2, none⟩ = some (.float .f64 W2) := by go_simp
  have g3 : ((v5.setCell ⟨w1.heap.size, 4, none⟩ (.float .f32 Y4)).setCell ⟨w1.heap.size + 1, 4, none⟩ (.float .f64 W4)).cell? ⟨w1.heap.size + 1, 3, none⟩ = some (.float .f64 W3) := by go_simp
  have g4 : ((v5.setCell ⟨w1.heap.size, 4, none⟩ (.float .f32 Y4)).setCell ⟨w1.heap.size + 1, 4, none⟩ (.float .f64 W4)).cell? ⟨w1.heap.size + 1, 4, none⟩ = some (.float .f64 W4) := by go_simp
  generalize ((v5.setCell ⟨w1.heap.size, 4, none⟩ (.float .f32 Y4)).setCell ⟨w1.heap.size + 1, 4, none⟩ (.float .f64 W4)) = wf at A5 p2 p3 g0 g1 g2 g3 g4 ⊢
  clear hc1 hc2 hc3 hc4 hc5 hf1 hf2 hf3 hf4 hf5 b1 b2 b3 b4 b5 B1 B2 B3 B4 B5 A0 A1 A2 A3 A4
  go_quiet (fail)
  go_wp2_with fail
  refine wp_loop_rounds 6 ?_
  rw [rounds_succ]
  go_wp2_with fail
  rw [rounds_succ]
  go_wp2_with fail
  rw [rounds_succ]
  go_wp2_with fail
  rw [rounds_succ]
  go_wp2_with fail
  rw [rounds_succ]
  go_wp2_with fail
  rw [rounds_succ]
  go_wp2_with fail
  refine (HN0.out _).mono ?_
  rintro r u ⟨rfl, hu⟩
  go_wp2_with fail
  refine (HN4.out _).mono ?_
  rintro r u2 ⟨rfl, hu2⟩
  go_wp2_with fail
  go_ret
  exact ⟨rfl, below_drewN A5 _⟩
end Go.Proofs.Ytedknjiipmppgab
