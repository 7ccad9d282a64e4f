/- What Narrow answers at 1, upwards; what 'live' answers. -/
import Derived.Test.YtedknjiipmppgabW5
import Derived.Test.YtedknjiipmppgabW6
namespace Go.Proofs.Ytedknjiipmppgab
open Go.RowKit
attribute [local go_sem] f64bits f64frombits f32bits f32frombits fld0 fld1 fld2 fld3

theorem one_bw : bw false 1023 0 = 4607182418800017408 := by decide
theorem two_bw : bw false 1024 0 = 4611686018427387904 := by decide

theorem Split_one (w : World) : Calls Try.prog 22 #[.float .f64 4607182418800017408] w fun r w' => r = .returned (.agg #[.bool false, .int .i64 2, .int .i64 (-52), .int .u64 4503599627370496]) ∧ Below w.heap.size w w' :=
  Split_any false 1023 0 (by omega) (by omega) w

theorem cv1 (w : World) : (convert 22 27 (.float .f64 4607182418800017408)).run Try.prog w = .ok (.float .f32 1065353216) w :=
  run_convert_float_float w 22 27 .f64 .f32 _ _ (by kernel_rfl) Try.underlying27 (by kernel_rfl)
theorem cv2 (w : World) : (convert 27 22 (.float .f32 1065353216)).run Try.prog w = .ok (.float .f64 4607182418800017408) w :=
  run_convert_float_float w 27 22 .f32 .f64 _ _ (by kernel_rfl) Try.underlying22 (by kernel_rfl)
theorem oo1 : FloatKind.f64.format.order 4607182418800017408 4607182418800017408 = some .eq := by kernel_rfl
theorem oo2 : FloatKind.f64.format.order 4607182418800017408 5183643170566569984 = some .lt := by kernel_rfl
theorem oo3 : FloatKind.f32.format.order 1065353216 1065353216 = some .eq := by kernel_rfl

set_option maxHeartbeats 1000000 in
theorem taken_2 (w : World) : Calls Try.prog 33 #[.int .i64 2, .bool false] w fun r w' => r = .returned (.int .i64 1) ∧ Below w.heap.size w w' := by
  go_enter Try.func33, Try.ntmps33
  go_wp2
  go_ret
  exact ⟨rfl, (by repeat (first | exact Below.refl _ _ | assumption | exact Nat.le_refl _ | (simp; done) | (simp; omega) | refine Below.alloc ?_ ?_ _ | refine Below.setCell ?_ ?_ _ | refine Below.drew ?_))⟩

set_option maxHeartbeats 1000000 in
theorem value32_1 (w : World) : Calls Try.prog 51 #[.int .u32 1065353216] w fun r w' => r = .returned (.float .f64 4607182418800017408) ∧ w' = w := by
  have h1 := cv2
  have h3 := oo3
  go_enter Try.func51, Try.ntmps51
  go_wp2
  go_ret
  exact ⟨rfl, rfl⟩

set_option maxHeartbeats 1000000 in
theorem inner_1 (w : World) : Calls Try.prog 31 #[.float .f64 4607182418800017408] w fun r w' => r = .returned (.int .u32 1065353216) ∧ w' = w := by
  have h1 := cv1
  have h3 := oo2
  have h4 := oo1
  go_enter Try.func31, Try.ntmps31
  go_wp2_with (go_at_call 51; refine (value32_1 _).mono ?_; rintro r w1 ⟨rfl, rfl⟩)
  go_ret
  exact ⟨rfl, rfl⟩

set_option maxHeartbeats 1000000 in
theorem takes_1 (k : Int) (w : World) : Calls Try.prog 32 #[.float .f64 4607182418800017408, .int .u32 1065353216, .int .i64 k] w fun r w' => r = .returned (.bool false) ∧ w' = w := by
  have h4 := oo1
  go_enter Try.func32, Try.ntmps32
  go_wp2_with (go_at_call 51; refine (value32_1 _).mono ?_; rintro r w1 ⟨rfl, rfl⟩)
  go_ret
  exact ⟨rfl, rfl⟩

theorem abs_1 (w : World) : Calls Try.prog 30 #[.float .f64 4607182418800017408] w fun r w' => r = .returned (.float .f64 4607182418800017408) ∧ w' = w :=
  abs_any false 1023 0 (by omega) (by omega) w

set_option maxHeartbeats 2000000 in
theorem narrow_1 (w : World) : Calls Try.prog 12 #[.float .f64 4607182418800017408, .int .i64 2] w fun r w' => r = .returned (.tuple #[.float .f32 1065353216, .int .i64 0]) ∧ Below w.heap.size w w' := by
  go_enter Try.func12, Try.ntmps12
  go_wp2_with fail
  refine (Split_one _).mono ?_
  rintro r w1 ⟨rfl, hb⟩
  go_wp2_with (first
    | (go_at_call 30; refine (abs_1 _).mono ?_; rintro r w2 ⟨rfl, rfl⟩)
    | (go_at_call 31; refine (inner_1 _).mono ?_; rintro r w2 ⟨rfl, rfl⟩))
  refine (taken_2 _).mono ?_
  rintro r w3 ⟨rfl, hb3⟩
  obtain ⟨hc, hfz⟩ := bcell hb3
  go_wp2_with (go_at_call 32; refine (takes_1 _ _).mono ?_; rintro r w4 ⟨rfl, rfl⟩)
  go_ret2
  exact ⟨rfl, (hb.alloc hb.size _).trans (hb3.mono (by simp; exact Nat.le_succ_of_le hb.size))⟩

theorem next_1 (w : World) : Calls Try.prog 25 #[.float .f64 4607182418800017408] w fun r w' => r = .returned (.float .f64 4607182418800017409) ∧ w' = w :=
  next_any false 1023 0 (by omega) (by omega) w
theorem order_21 (w : World) : Calls Try.prog 9 #[.float .f64 4611686018427387904, .float .f64 4607182418800017408] w fun r w' => r = .returned (.int .i64 1) ∧ w' = w :=
  order_any false false 1024 0 1023 0 (by omega) (by omega) (by omega) (by omega) w
theorem oo4 : FloatKind.f64.format.order 4607182418800017409 4607182418800017408 = some .gt := by kernel_rfl

theorem join_3 (w : World) : Calls Try.prog 23 #[.agg #[.bool true, .int .i64 1, .int .i64 (-1074), .int .u64 3]] w fun r w' => r = .returned (.tuple #[.float .f64 9223372036854775811, .int .i64 0]) ∧ Below w.heap.size w w' :=
  join_same true 0 3 (by omega) (by omega) (fun w => asm_valid true 0 3 (by omega) (by omega) w) w

set_option maxHeartbeats 2000000 in
theorem live_any (w : World) : Calls Try.prog 8 #[] w fun r w' => r = .returned (.bool true) ∧ Below w.heap.size w w' := by
  have h4 := oo4
  have h5 := oo3
  go_enter Try.func8, Try.ntmps8
  go_wp2_with fail
  refine (Split_one _).mono ?_
  rintro r w1 ⟨rfl, hb⟩
  go_wp2_with fail
  refine (join_3 _).mono ?_
  rintro r w2 ⟨rfl, hb2⟩
  have B2 := (hb.alloc hb.size (.cells #[.bool false, .int .i64 2, .int .i64 (-52), .int .u64 4503599627370496] 37)).trans (hb2.mono (by simp; exact Nat.le_succ_of_le hb.size))
  go_wp2_with fail
  refine (narrow_1 _).mono ?_
  rintro r w3 ⟨rfl, hb3⟩
  have B3 := B2.trans (hb3.mono B2.size)
  obtain ⟨hc, hfz⟩ := bcell hb2
  obtain ⟨hc3, hfz3⟩ := bcell hb3
  have hz : w1.heap.size < w2.heap.size := by (have := hb2.size; simp at this; omega)
  go_wp2_with (first
    | (go_at_call 25; refine (next_1 _).mono ?_; rintro r w4 ⟨rfl, rfl⟩)
    | (go_at_call 9; refine (order_21 _).mono ?_; rintro r w4 ⟨rfl, rfl⟩))
  go_ret
  exact ⟨rfl, B3⟩
end Go.Proofs.Ytedknjiipmppgab
