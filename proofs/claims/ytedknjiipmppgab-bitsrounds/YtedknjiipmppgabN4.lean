/- What takesOuter and Narrow answer, at every number and every mode. -/
import Derived.Test.YtedknjiipmppgabN3
namespace Go.Proofs.Ytedknjiipmppgab
open Go.RowKit

theorem takes_core (X L B D Hf Md q : Nat) (hq : q ≤ 2139095039) (y : Int) (hy : y = 0 ∨ y = 1 ∨ y = 2 ∨ y = 3) (V M LO HI : Nat)
    (H1 : ∀ w, Calls Try.prog 51 #[.int .u32 (q : Int)] w fun r w' => r = .returned (.float .f64 L) ∧ w' = w)
    (H2 : ∀ w, Calls Try.prog 51 #[.int .u32 ((q : Int) + 1)] w fun r w' => r = .returned (.float .f64 B) ∧ w' = w)
    (o : (FloatKind.f64.format.order X L == some .eq) = decide (V = LO))
    (d1 : ∀ w, (binOp .sub 22 (.float .f64 B) (.float .f64 L)).run Try.prog w = .ok (.float .f64 D) w)
    (d2 : ∀ w, (binOp .quo 22 (.float .f64 D) (.float .f64 4611686018427387904)).run Try.prog w = .ok (.float .f64 Hf) w)
    (d3 : ∀ w, (binOp .add 22 (.float .f64 L) (.float .f64 Hf)).run Try.prog w = .ok (.float .f64 Md) w)
    (m1 : (FloatKind.f64.format.order X Md == some .gt) = decide (M < V)) (m2 : (FloatKind.f64.format.order X Md == some .eq) = decide (V = M)) (hM : 2 * M = LO + HI) (w : World) :
    Calls Try.prog 32 #[.float .f64 X, .int .u32 (q : Int), .int .i64 y] w fun r w' => r = .returned (.bool (tkS V LO HI q y)) ∧ w' = w := by
  unfold tkS
  by_cases hV : V = LO
  · rw [if_pos hV]
    rw [decide_eq_true hV] at o
    exact takes_same _ _ q y H1 o w
  · rw [if_neg hV]
    rw [decide_eq_false hV] at o
    rw [← hM]
    rcases hy with rfl | rfl | rfl | rfl
    · rw [if_neg (by decide), if_neg (by decide), if_neg (by decide)]
      exact takes_in _ _ _ _ _ _ q (by omega) (by omega) H1 H2 o d1 d2 d3 w
    · rw [if_pos rfl]
      exact takes_out _ _ _ _ _ _ q (by omega) (by omega) H1 H2 o d1 d2 d3 w
    · rw [if_neg (by decide), if_pos rfl]
      by_cases c1 : M < V
      · rw [decide_eq_true c1] at m1
        rw [decide_eq_true (show 2 * M < 2 * V by omega), Bool.true_or]
        exact takes_even_gt _ _ _ _ _ _ q (by omega) (by omega) H1 H2 o d1 d2 d3 m1 w
      · rw [decide_eq_false c1] at m1
        rw [decide_eq_false (show ¬ 2 * M < 2 * V by omega), Bool.false_or]
        by_cases c2 : V = M
        · rw [decide_eq_true c2] at m2
          rw [decide_eq_true (show 2 * V = 2 * M by omega), Bool.true_and]
          refine takes_even_eq _ _ _ _ _ _ q (by omega) (by omega) H1 H2 o d1 d2 d3 _ m1 m2 ?_ w
          rw [and_one32 q (by omega) (by omega), Bool.eq_iff_iff]
          simp; omega
        · rw [decide_eq_false c2] at m2
          rw [decide_eq_false (show ¬ 2 * V = 2 * M by omega), Bool.false_and]
          exact takes_even_lt _ _ _ _ _ _ q (by omega) (by omega) H1 H2 o d1 d2 d3 m1 m2 w
    · rw [if_neg (by decide), if_neg (by decide), if_pos rfl]
      refine takes_away _ _ _ _ _ _ q (by omega) (by omega) H1 H2 o d1 d2 d3 _ ?_ w
      rw [m1, m2, Bool.eq_iff_iff]
      simp; omega

theorem takes_is (e f q : Nat) (he : e < 2047) (hf : f < 4503599627370496) (hq : q ≤ 2139095039) (y : Int) (hy : y = 0 ∨ y = 1 ∨ y = 2 ∨ y = 3) :
    ∀ w, Calls Try.prog 32 #[.float .f64 (bw false e f), .int .u32 (q : Int), .int .i64 y] w fun r w' => r = .returned (.bool (tkS (val Ieee.double (e * 4503599627370496 + f)) (val Ieee.single q * 2 ^ gp) (val Ieee.single (q + 1) * 2 ^ gp) q y)) ∧ w' = w := by
  intro w
  obtain ⟨e0, f0, he0, hf0, h0⟩ := up_exists q (by omega)
  obtain ⟨e1, f1, he1, hf1, h1⟩ := up_exists (q + 1) (by omega)
  have H1 := value32_is q e0 f0 (by omega) he0 hf0 h0
  have H2 := value32_is (q + 1) e1 f1 (by omega) he1 hf1 h1
  rw [show ((q + 1 : Nat) : Int) = (q : Int) + 1 from by omega] at H2
  have o := eq_val e f e0 f0 he hf he0 hf0
  rw [h0] at o
  obtain ⟨D, Hf, em, fm, hem, hfm, hM, s1, s2, s3⟩ := middle_is q hq e0 f0 e1 f1 he0 hf0 he1 hf1 h0 h1
  exact takes_core _ _ _ D Hf (bw false em fm) q hq y hy _ _ _ _ H1 H2 o (fun w => run_float_arith w .sub _ .f64 _ _ _ s1) (fun w => run_float_arith w .quo _ .f64 _ _ _ s2) (fun w => run_float_arith w .add _ .f64 _ _ _ s3) (gt_val e f em fm he hf hem hfm) (eq_val e f em fm he hf hem hfm) hM w

/-- how a mode goes, above nought and below it. -/
def wayS (k : Int) (s : Bool) : Int := if k = 0 then 2 else if k = 1 then 0 else if k = 2 then (if s then 0 else 1) else if k = 3 then (if s then 1 else 0) else 3

theorem taken_is (k : Int) (s : Bool) (k0 : 0 ≤ k) (k4 : k ≤ 4) : ∀ w, Calls Try.prog 33 #[.int .i64 k, .bool s] w fun r w' => r = .returned (.int .i64 (wayS k s)) ∧ Below w.heap.size w w' := by
  have h : k = 0 ∨ k = 1 ∨ k = 2 ∨ k = 3 ∨ k = 4 := by omega
  rcases h with rfl | rfl | rfl | rfl | rfl <;> cases s
  · exact taken_0p
  · exact taken_0n
  · exact taken_1p
  · exact taken_1n
  · exact taken_2p
  · exact taken_2n
  · exact taken_3p
  · exact taken_3n
  · exact taken_4p
  · exact taken_4n

theorem wayS_in (k : Int) (s : Bool) : wayS k s = 0 ∨ wayS k s = 1 ∨ wayS k s = 2 ∨ wayS k s = 3 := by
  unfold wayS; split
  · simp
  · split
    · simp
    · split
      · cases s <;> simp
      · split
        · cases s <;> simp
        · simp

/-- the rung that is taken. -/
def nr (V q : Nat) (k : Int) (s : Bool) : Nat := q + (tkS V (val Ieee.single q * 2 ^ gp) (val Ieee.single (q + 1) * 2 ^ gp) q (wayS k s)).toNat

/-- Narrow at a finite number that is no nought. -/
theorem narrow_fin (s : Bool) (e f q : Nat) (k : Int) (he : e < 2047) (hf : f < 4503599627370496) (h0 : 0 < e * 4503599627370496 + f) (k0 : 0 ≤ k) (k4 : k ≤ 4)
    (hq : Floor (val Ieee.double (e * 4503599627370496 + f)) q) :
    ∀ w, Calls Try.prog 12 #[.float .f64 (bw s e f), .int .i64 k] w fun r w' => r = .returned (.tuple #[.float .f32 (Ieee.single.word s (nr (val Ieee.double (e * 4503599627370496 + f)) q k s)), .int .i64 0]) ∧ Below w.heap.size w w' := by
  intro w
  obtain ⟨q', hq', H2⟩ := inner_is e f he hf h0
  have : q' = q := floor_uniq _ _ _ hq' hq
  subst this
  have hqb := hq.1
  have H0 : ∀ w, Calls Try.prog 22 #[.float .f64 (bw s e f)] w fun r w' => r = .returned (.agg #[.bool s, .int .i64 (cls e f), .int .i64 (xp e), .int .u64 (fr e f)]) ∧ Below w.heap.size w w' := by
    have h := Split_any s e f (by omega) hf
    have hn : ng s e f = s := if_neg (by omega)
    rwa [hn] at h
  have hc : (cls e f == 4) = false ∧ (cls e f == 0) = false ∧ (cls e f == 3) = false := by
    unfold cls
    rw [if_neg (by omega)]
    by_cases h : e = 0
    · rw [if_pos h, if_neg (by omega)]; exact ⟨rfl, rfl, rfl⟩
    · rw [if_neg h]; exact ⟨rfl, rfl, rfl⟩
  have H1 := abs_any s e f (by omega) hf
  have H3 := taken_is k s k0 k4
  have H4 := takes_is e f q' he hf hqb (wayS k s) (wayS_in k s)
  unfold nr
  cases ht : tkS (val Ieee.double (e * 4503599627370496 + f)) (val Ieee.single q' * 2 ^ gp) (val Ieee.single (q' + 1) * 2 ^ gp) q' (wayS k s)
  · rw [ht] at H4
    have hw : Ieee.single.word s (q' + Bool.false.toNat) = (if s then (q' : Int) + 2147483648 else (q' : Int)).toNat := by
      unfold Ieee.Format.word; rw [sSign]; cases s <;> simp <;> omega
    rw [hw]
    cases s
    · exact nar_fin_ff _ _ k k0 k4 _ _ _ _ _ hc.1 hc.2.1 hc.2.2 (by omega) (by omega) H0 H1 H2 H3 H4 w
    · exact nar_fin_tf _ _ k k0 k4 _ _ _ _ _ hc.1 hc.2.1 hc.2.2 (by omega) (by omega) H0 H1 H2 H3 H4 w
  · rw [ht] at H4
    have hw : Ieee.single.word s (q' + Bool.true.toNat) = (if s then (q' : Int) + 1 + 2147483648 else (q' : Int) + 1).toNat := by
      unfold Ieee.Format.word; rw [sSign]; cases s <;> simp <;> omega
    rw [hw]
    cases s
    · exact nar_fin_ft _ _ k k0 k4 _ _ _ _ _ hc.1 hc.2.1 hc.2.2 (by omega) (by omega) H0 H1 H2 H3 H4 w
    · exact nar_fin_tt _ _ k k0 k4 _ _ _ _ _ hc.1 hc.2.1 hc.2.2 (by omega) (by omega) H0 H1 H2 H3 H4 w

theorem narrow_odd (s : Bool) (e f : Nat) (k : Int) (he : e < 2048) (hf : f < 4503599627370496) (ho : odd e f = true) (k0 : 0 ≤ k) (k4 : k ≤ 4) :
    ∀ w, Calls Try.prog 12 #[.float .f64 (bw s e f), .int .i64 k] w fun r w' => r = .returned (.tuple #[.float .f32 2143289344, .int .i64 0]) ∧ Below w.heap.size w w' := by
  have h : ∀ w, Calls Try.prog 22 #[.float .f64 (bw s e f)] w fun r w' => r = .returned (.agg #[.bool false, .int .i64 4, .int .i64 0, .int .u64 0]) ∧ Below w.heap.size w w' := by
    intro w; rw [← splitV_odd s e f (is_odd e f ho).1 (by simp [(is_odd e f ho).2])]; exact Split_any s e f he hf w
  exact nar_odd _ k k0 k4 false 0 0 h

theorem narrow_zero (s : Bool) (k : Int) (k0 : 0 ≤ k) (k4 : k ≤ 4) :
    ∀ w, Calls Try.prog 12 #[.float .f64 (bw s 0 0), .int .i64 k] w fun r w' => r = .returned (.tuple #[.float .f32 (Ieee.single.word s 0), .int .i64 0]) ∧ Below w.heap.size w w' := by
  have h : ∀ w, Calls Try.prog 22 #[.float .f64 (bw s 0 0)] w fun r w' => r = .returned (.agg #[.bool s, .int .i64 0, .int .i64 (-1074), .int .u64 0]) ∧ Below w.heap.size w w' := by
    intro w; rw [← splitV_nought s 0 0 rfl (by simp)]; exact Split_any s 0 0 (by omega) (by omega) w
  have cv : floatToFloatBits .f64 (bw s 0 0) .f32 = some (Ieee.single.word s 0) := by cases s <;> decide
  exact nar_zero _ _ k k0 k4 s _ _ h (fun w => run_convert_float_float w _ _ .f64 .f32 _ _ (by kernel_rfl) Try.underlying27 cv)

theorem narrow_end (s : Bool) (k : Int) (k0 : 0 ≤ k) (k4 : k ≤ 4) :
    ∀ w, Calls Try.prog 12 #[.float .f64 (bw s 2047 0), .int .i64 k] w fun r w' => r = .returned (.tuple #[.float .f32 (Ieee.single.word s 2139095040), .int .i64 0]) ∧ Below w.heap.size w w' := by
  have h : ∀ w, Calls Try.prog 22 #[.float .f64 (bw s 2047 0)] w fun r w' => r = .returned (.agg #[.bool s, .int .i64 3, .int .i64 0, .int .u64 0]) ∧ Below w.heap.size w w' := by
    intro w; rw [← splitV_end s 2047 0 rfl (by simp)]; exact Split_any s 2047 0 (by omega) (by omega) w
  have cv : floatToFloatBits .f64 (bw s 2047 0) .f32 = some (Ieee.single.word s 2139095040) := by cases s <;> decide
  exact nar_end _ _ k k0 k4 s _ _ h (fun w => run_convert_float_float w _ _ .f64 .f32 _ _ (by kernel_rfl) Try.underlying27 cv)

theorem narrow_err (X : Nat) (k : Int) (h : k < 0 ∨ 4 < k) : ∀ w, Calls Try.prog 12 #[.float .f64 X, .int .i64 k] w fun r w' => r = .returned (.tuple #[.float .f32 0, .int .i64 1]) ∧ w' = w := by
  rcases h with h | h
  · exact nar_low X k h
  · exact nar_high X k h
end Go.Proofs.Ytedknjiipmppgab
