/- The walk of BitsWide: at any number of 32 bits and any mode it returns true and changes nothing that was there. -/
import Derived.Test.YtedknjiipmppgabW7
import Derived.Test.YtedknjiipmppgabX32
namespace Go.Proofs.Ytedknjiipmppgab
open Go.RowKit
attribute [local go_sem] f64bits f64frombits f32bits f32frombits

set_option maxHeartbeats 1000000 in
theorem exact_eq (a : Nat) (w : World) : Calls Try.prog 16 #[.float .f64 a, .float .f64 a] w fun r w' => r = .returned (.bool true) ∧ w' = w := by
  go_enter Try.func16, Try.ntmps16
  go_wp2
  go_ret
  exact ⟨rfl, rfl⟩

set_option maxHeartbeats 2000000 in
theorem wide_low (Y X : Nat) (k : Int) (n : Bool) (c x g : Int) (H1 : Hid (∀ w, Calls Try.prog 15 #[.float .f32 Y] w fun r w' => r = .returned (.float .f64 X) ∧ w' = w)) (H2 : Hid (∀ w, Calls Try.prog 17 #[.float .f32 Y] w fun r w' => r = .returned (.float .f64 X) ∧ Below w.heap.size w w')) (H3 : Hid (∀ w, Calls Try.prog 18 #[.float .f32 Y] w fun r w' => r = .returned (.agg #[.bool n, .int .i64 c, .int .i64 x, .int .u64 g]) ∧ Below w.heap.size w w')) (H4 : Hid (∀ w, Calls Try.prog 19 #[.float .f32 Y] w fun r w' => r = .returned (.agg #[.bool n, .int .i64 c, .int .i64 x, .int .u64 g]) ∧ Below w.heap.size w w')) (H5 : Hid (∀ w, Calls Try.prog 12 #[.float .f64 X, .int .i64 k] w fun r w' => r = .returned (.tuple #[.float .f32 0, .int .i64 1]) ∧ w' = w)) (h : k < 0) (w : World) :
    Calls Try.prog 6 #[.float .f32 Y, .int .i64 k] w fun r w' => r = .returned (.bool true) ∧ Below w.heap.size w w' := by
  go_enter Try.func6, Try.ntmps6
  go_wp2_with fail
  refine (live_any _).mono ?_
  rintro r w1 ⟨rfl, b1⟩
  go_wp2_with fail
  refine (H1.out _).mono ?_
  rintro r w2 ⟨rfl, rfl⟩
  go_wp2_with fail
  refine (H2.out _).mono ?_
  rintro r w3 ⟨rfl, b3⟩
  replace b3 := b1.trans (b3.mono b1.size); clear b1
  go_wp2_with fail
  refine (exact_eq _ _).mono ?_
  rintro r w4 ⟨rfl, rfl⟩
  go_wp2_with fail
  refine (H3.out _).mono ?_
  rintro r w5 ⟨rfl, b5⟩
  replace b5 := b3.trans (b5.mono b3.size); clear b3
  go_wp2_with fail
  refine (H4.out _).mono ?_
  rintro r w6 ⟨rfl, b6⟩
  replace b6 := b5.trans (b6.mono b5.size); clear b5
  go_wp2_with fail
  refine (H5.out _).mono ?_
  rintro r w7 ⟨rfl, rfl⟩
  go_wp2_with fail
  go_ret
  exact ⟨rfl, b6⟩

set_option maxHeartbeats 2000000 in
theorem wide_high (Y X : Nat) (k : Int) (n : Bool) (c x g : Int) (H1 : Hid (∀ w, Calls Try.prog 15 #[.float .f32 Y] w fun r w' => r = .returned (.float .f64 X) ∧ w' = w)) (H2 : Hid (∀ w, Calls Try.prog 17 #[.float .f32 Y] w fun r w' => r = .returned (.float .f64 X) ∧ Below w.heap.size w w')) (H3 : Hid (∀ w, Calls Try.prog 18 #[.float .f32 Y] w fun r w' => r = .returned (.agg #[.bool n, .int .i64 c, .int .i64 x, .int .u64 g]) ∧ Below w.heap.size w w')) (H4 : Hid (∀ w, Calls Try.prog 19 #[.float .f32 Y] w fun r w' => r = .returned (.agg #[.bool n, .int .i64 c, .int .i64 x, .int .u64 g]) ∧ Below w.heap.size w w')) (H5 : Hid (∀ w, Calls Try.prog 12 #[.float .f64 X, .int .i64 k] w fun r w' => r = .returned (.tuple #[.float .f32 0, .int .i64 1]) ∧ w' = w)) (h0 : ¬ k < 0) (h : 4 < k) (w : World) :
    Calls Try.prog 6 #[.float .f32 Y, .int .i64 k] w fun r w' => r = .returned (.bool true) ∧ Below w.heap.size w w' := by
  go_enter Try.func6, Try.ntmps6
  go_wp2_with fail
  refine (live_any _).mono ?_
  rintro r w1 ⟨rfl, b1⟩
  go_wp2_with fail
  refine (H1.out _).mono ?_
  rintro r w2 ⟨rfl, rfl⟩
  go_wp2_with fail
  refine (H2.out _).mono ?_
  rintro r w3 ⟨rfl, b3⟩
  replace b3 := b1.trans (b3.mono b1.size); clear b1
  go_wp2_with fail
  refine (exact_eq _ _).mono ?_
  rintro r w4 ⟨rfl, rfl⟩
  go_wp2_with fail
  refine (H3.out _).mono ?_
  rintro r w5 ⟨rfl, b5⟩
  replace b5 := b3.trans (b5.mono b3.size); clear b3
  go_wp2_with fail
  refine (H4.out _).mono ?_
  rintro r w6 ⟨rfl, b6⟩
  replace b6 := b5.trans (b6.mono b5.size); clear b5
  go_wp2_with fail
  refine (H5.out _).mono ?_
  rintro r w7 ⟨rfl, rfl⟩
  go_wp2_with fail
  go_ret
  exact ⟨rfl, b6⟩

set_option maxHeartbeats 2000000 in
theorem wide_same (Y X : Nat) (k : Int) (n : Bool) (c x g : Int) (H1 : Hid (∀ w, Calls Try.prog 15 #[.float .f32 Y] w fun r w' => r = .returned (.float .f64 X) ∧ w' = w)) (H2 : Hid (∀ w, Calls Try.prog 17 #[.float .f32 Y] w fun r w' => r = .returned (.float .f64 X) ∧ Below w.heap.size w w')) (H3 : Hid (∀ w, Calls Try.prog 18 #[.float .f32 Y] w fun r w' => r = .returned (.agg #[.bool n, .int .i64 c, .int .i64 x, .int .u64 g]) ∧ Below w.heap.size w w')) (H4 : Hid (∀ w, Calls Try.prog 19 #[.float .f32 Y] w fun r w' => r = .returned (.agg #[.bool n, .int .i64 c, .int .i64 x, .int .u64 g]) ∧ Below w.heap.size w w')) (H5 : Hid (∀ w, Calls Try.prog 12 #[.float .f64 X, .int .i64 k] w fun r w' => r = .returned (.tuple #[.float .f32 Y, .int .i64 0]) ∧ Below w.heap.size w w')) (h0 : 0 ≤ k) (h4 : k ≤ 4) (w : World) :
    Calls Try.prog 6 #[.float .f32 Y, .int .i64 k] w fun r w' => r = .returned (.bool true) ∧ Below w.heap.size w w' := by
  go_enter Try.func6, Try.ntmps6
  go_wp2_with fail
  refine (live_any _).mono ?_
  rintro r w1 ⟨rfl, b1⟩
  go_wp2_with fail
  refine (H1.out _).mono ?_
  rintro r w2 ⟨rfl, rfl⟩
  go_wp2_with fail
  refine (H2.out _).mono ?_
  rintro r w3 ⟨rfl, b3⟩
  replace b3 := b1.trans (b3.mono b1.size); clear b1
  go_wp2_with fail
  refine (exact_eq _ _).mono ?_
  rintro r w4 ⟨rfl, rfl⟩
  go_wp2_with fail
  refine (H3.out _).mono ?_
  rintro r w5 ⟨rfl, b5⟩
  replace b5 := b3.trans (b5.mono b3.size); clear b3
  go_wp2_with fail
  refine (H4.out _).mono ?_
  rintro r w6 ⟨rfl, b6⟩
  replace b6 := b5.trans (b6.mono b5.size); clear b5
  go_wp2_with fail
  refine (H5.out _).mono ?_
  rintro r w7 ⟨rfl, b7⟩
  replace b7 := b6.trans (b7.mono b6.size); clear b6
  go_wp2_with fail
  go_ret
  exact ⟨rfl, b7⟩

set_option maxHeartbeats 2000000 in
theorem wide_nan (Y X : Nat) (k : Int) (n : Bool) (c x g : Int) (H1 : Hid (∀ w, Calls Try.prog 15 #[.float .f32 Y] w fun r w' => r = .returned (.float .f64 X) ∧ w' = w)) (H2 : Hid (∀ w, Calls Try.prog 17 #[.float .f32 Y] w fun r w' => r = .returned (.float .f64 X) ∧ Below w.heap.size w w')) (H3 : Hid (∀ w, Calls Try.prog 18 #[.float .f32 Y] w fun r w' => r = .returned (.agg #[.bool n, .int .i64 c, .int .i64 x, .int .u64 g]) ∧ Below w.heap.size w w')) (H4 : Hid (∀ w, Calls Try.prog 19 #[.float .f32 Y] w fun r w' => r = .returned (.agg #[.bool n, .int .i64 c, .int .i64 x, .int .u64 g]) ∧ Below w.heap.size w w')) (H5 : Hid (∀ w, Calls Try.prog 12 #[.float .f64 X, .int .i64 k] w fun r w' => r = .returned (.tuple #[.float .f32 2143289344, .int .i64 0]) ∧ Below w.heap.size w w')) (h0 : 0 ≤ k) (h4 : k ≤ 4) (hn : (2143289344 == (Y : Int)) = false) (ho : (FloatKind.f32.format.order Y Y != some .eq) = true) (w : World) :
    Calls Try.prog 6 #[.float .f32 Y, .int .i64 k] w fun r w' => r = .returned (.bool true) ∧ Below w.heap.size w w' := by
  go_enter Try.func6, Try.ntmps6
  go_wp2_with fail
  refine (live_any _).mono ?_
  rintro r w1 ⟨rfl, b1⟩
  go_wp2_with fail
  refine (H1.out _).mono ?_
  rintro r w2 ⟨rfl, rfl⟩
  go_wp2_with fail
  refine (H2.out _).mono ?_
  rintro r w3 ⟨rfl, b3⟩
  replace b3 := b1.trans (b3.mono b1.size); clear b1
  go_wp2_with fail
  refine (exact_eq _ _).mono ?_
  rintro r w4 ⟨rfl, rfl⟩
  go_wp2_with fail
  refine (H3.out _).mono ?_
  rintro r w5 ⟨rfl, b5⟩
  replace b5 := b3.trans (b5.mono b3.size); clear b3
  go_wp2_with fail
  refine (H4.out _).mono ?_
  rintro r w6 ⟨rfl, b6⟩
  replace b6 := b5.trans (b6.mono b5.size); clear b5
  go_wp2_with fail
  refine (H5.out _).mono ?_
  rintro r w7 ⟨rfl, b7⟩
  replace b7 := b6.trans (b7.mono b6.size); clear b6
  go_wp2_with fail
  go_ret
  exact ⟨rfl, b7⟩

theorem wide_all (s : Bool) (e f : Nat) (k : Int) (he : e < 256) (hf : f < 8388608) (w : World) :
    Calls Try.prog 6 #[.float .f32 (bx s e f), .int .i64 k] w fun r w' => r = .returned (.bool true) ∧ Below w.heap.size w w' := by
  have H3 := Split32_any s e f he hf
  have H4 := rSplit32_any s e f he hf
  -- the number of 64 bits
  obtain ⟨X, H1, H2, H5⟩ : ∃ X : Nat, (∀ w, Calls Try.prog 15 #[.float .f32 (bx s e f)] w fun r w' => r = .returned (.float .f64 X) ∧ w' = w) ∧
      (∀ w, Calls Try.prog 17 #[.float .f32 (bx s e f)] w fun r w' => r = .returned (.float .f64 X) ∧ Below w.heap.size w w') ∧
      (0 ≤ k → k ≤ 4 → ∀ w, Calls Try.prog 12 #[.float .f64 X, .int .i64 k] w fun r w' => r = .returned (.tuple #[.float .f32 (if odx e f then 2143289344 else bx s e f), .int .i64 0]) ∧ Below w.heap.size w w') := by
    cases ho : odx e f
    · have hno := not_odx e f ho
      by_cases h : e = 255
      · have hf0 : f = 0 := by omega
        subst h hf0
        refine ⟨_, widen_end s, rwiden_end s, fun k0 k4 => ?_⟩
        have := narrow_end s k k0 k4
        have hw : Ieee.single.word s 2139095040 = bx s 255 0 := by rw [bx_word]
        rw [hw] at this
        exact this
      · obtain ⟨E, F, hE, hF, hv⟩ := up_exists (e * 8388608 + f) (by omega)
        refine ⟨_, widen_fin s e f E F (by omega) hf hE hF hv, rwiden_fin s e f E F (by omega) hf hE hF hv, fun k0 k4 => ?_⟩
        have := narrow_back s (e * 8388608 + f) E F k (by omega) hE hF hv k0 k4
        rw [← bx_word] at this
        exact this
    · exact ⟨_, widen_odd s e f hf ho, rwiden_odd s e f he hf ho, fun k0 k4 => narrow_odd false 2047 2251799813685248 k (by omega) (by omega) rfl k0 k4⟩
  by_cases h1 : k < 0
  · exact wide_low _ X k _ _ _ _ H1 H2 H3 H4 (narrow_err X k (Or.inl h1)) h1 w
  · by_cases h2 : 4 < k
    · exact wide_high _ X k _ _ _ _ H1 H2 H3 H4 (narrow_err X k (Or.inr h2)) h1 h2 w
    · have H6 := H5 (by omega) (by omega)
      cases ho : odx e f
      · rw [ho] at H6
        exact wide_same _ X k _ _ _ _ H1 H2 H3 H4 H6 (by omega) (by omega) w
      · rw [ho] at H6
        by_cases h3 : bx s e f = 2143289344
        · rw [h3] at H1 H2 H3 H4 ⊢
          exact wide_same _ X k _ _ _ _ H1 H2 H3 H4 H6 (by omega) (by omega) w
        · exact wide_nan _ X k _ _ _ _ H1 H2 H3 H4 H6 (by omega) (by omega) (beq_eq_false_iff_ne.2 (by omega)) (ord32_odd s e f hf ho) w

theorem wide_wf32 {b : Nat} (h : (Lit.float .f32 b).wf = true) : b < 4294967296 := by
  simpa [Lit.wf] using h

theorem walk_BitsWide (a : Nat) (k : Int) (ha : (Lit.float .f32 a).wf = true) (_ : (Lit.int .i64 k).wf = true) (w : World) :
    Calls Try.prog 6 #[.float .f32 a, .int .i64 k] w fun r w' => r = .returned (.bool true) ∧ Below w.heap.size w w' := by
  obtain ⟨s, e, f, he, hf, rfl⟩ := bx_of a (wide_wf32 ha)
  exact wide_all s e f k he hf w
end Go.Proofs.Ytedknjiipmppgab
