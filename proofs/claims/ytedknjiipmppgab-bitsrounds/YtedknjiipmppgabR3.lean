/- What Widen answers at the two neighbours of 32 bits, and what 'nearest' answers there. -/
import Derived.Test.YtedknjiipmppgabR2
namespace Go.Proofs.Ytedknjiipmppgab
open Go.RowKit

theorem self_eq (s : Bool) (e f : Nat) (he : e < 2048) (hf : f < 4503599627370496) (h1 : odd e f = false) : (FloatKind.f64.format.order (bw s e f) (bw s e f) == some .eq) = true := by
  rw [eq_f64 s s e f e f he hf he hf, h1, decide_eq_true rfl]; rfl

/-- a number of 32 bits, widened. -/
theorem wid_is (s : Bool) (r E F : Nat) (hr : r ≤ 2139095039) (hE : E < 2047) (hF : F < 4503599627370496) (hv : val Ieee.double (E * 4503599627370496 + F) = val Ieee.single r * 2 ^ gp) :
    ∀ w, Calls Try.prog 15 #[.float .f32 (Ieee.single.word s r)] w fun q w' => q = .returned (.float .f64 (bw s E F)) ∧ w' = w := by
  have h : Ieee.single.word s r = bx s (r / 8388608) (r % 8388608) := by rw [bx_word, show r / 8388608 * 8388608 + r % 8388608 = r from by omega]
  rw [h]
  exact widen_fin s _ _ E F (by omega) (by omega) hE hF (by rw [show r / 8388608 * 8388608 + r % 8388608 = r from by omega]; exact hv)
theorem wid_end (s : Bool) : ∀ w, Calls Try.prog 15 #[.float .f32 (Ieee.single.word s 2139095040)] w fun q w' => q = .returned (.float .f64 (bw s 2047 0)) ∧ w' = w := by
  have h : Ieee.single.word s 2139095040 = bx s 255 0 := by rw [bx_word]
  rw [h]; exact widen_end s

/-- the outer neighbour as a number of 64 bits: an infinity behind the greatest. -/
def outB (s : Bool) (q e1 f1 : Nat) : Nat := if q = 2139095039 then bw s 2047 0 else bw s e1 f1

theorem wid_out (s : Bool) (q e1 f1 : Nat) (hq : q ≤ 2139095039) (he1 : e1 < 2047) (hf1 : f1 < 4503599627370496) (h1 : val Ieee.double (e1 * 4503599627370496 + f1) = val Ieee.single (q + 1) * 2 ^ gp) :
    ∀ w, Calls Try.prog 15 #[.float .f32 (Ieee.single.word s (q + 1))] w fun r w' => r = .returned (.float .f64 (outB s q e1 f1)) ∧ w' = w := by
  unfold outB
  by_cases h : q = 2139095039
  · rw [if_pos h, h]; exact wid_end s
  · rw [if_neg h]; exact wid_is s (q + 1) e1 f1 (by omega) he1 hf1 h1

/-- 'nearest' at a number above nought. -/
theorem near_p (e f q e0 f0 e1 f1 : Nat) (b : Bool) (he : e < 2047) (hf : f < 4503599627370496) (hq : q ≤ 2139095039) (he0 : e0 < 2047) (hf0 : f0 < 4503599627370496) (he1 : e1 < 2047) (hf1 : f1 < 4503599627370496)
    (h0 : val Ieee.double (e0 * 4503599627370496 + f0) = val Ieee.single q * 2 ^ gp) (h1 : val Ieee.double (e1 * 4503599627370496 + f1) = val Ieee.single (q + 1) * 2 ^ gp)
    (hb1 : val Ieee.single q * 2 ^ gp + val Ieee.single (q + 1) * 2 ^ gp < 2 * val Ieee.double (e * 4503599627370496 + f) → b = true) (hb2 : 2 * val Ieee.double (e * 4503599627370496 + f) < val Ieee.single q * 2 ^ gp + val Ieee.single (q + 1) * 2 ^ gp → b = false) (w : World) :
    Calls Try.prog 21 #[.float .f64 (bw false e f), .float .f64 (bw false e0 f0), .float .f64 (outB false q e1 f1), .float .f64 (if b then outB false q e1 f1 else bw false e0 f0)] w fun r w' => r = .returned (.bool true) ∧ w' = w := by
  obtain ⟨S, em, fm, hem, hfm, hM, s1, _, s3⟩ := mid_is false q hq e0 f0 e1 f1 he0 hf0 he1 hf1 h0 h1
  have d2 : ∀ w, (binOp .quo 22 (.float .f64 S) (.float .f64 4611686018427387904)).run Try.prog w = .ok (.float .f64 (bw false em fm)) w := fun w => run_float_arith w .quo _ .f64 _ _ _ s3
  have m1 := lt_sv false em fm e f hem hfm he hf
  have m2 := lt_sv false e f em fm he hf hem hfm
  have m3 := eq_sv false e f em fm he hf hem hfm
  simp only [Bool.false_eq_true, if_false] at m1 m2
  have hI := self_eq false e0 f0 (by omega) hf0 (odd_lt _ _ (by omega))
  have H1 : ∀ w, Calls Try.prog 47 #[.float .f64 (bw false e0 f0), .int .i64 (-1)] w fun r w' => r = .returned (.bool false) ∧ w' = w := isInf_neg false e0 f0 (by omega) hf0
  by_cases hmx : q = 2139095039
  · have hO : outB false q e1 f1 = bw false 2047 0 := if_pos hmx
    have he1f : bw false e1 f1 = 5183643171103440896 := by
      rw [hmx, show (2139095039 + 1 : Nat) = 2139095040 from rfl] at h1
      have := val_inj Ieee.double (h1.trans val_end32.symm)
      rw [← end32_bw, bw_word, bw_word, this]
    rw [he1f] at s1
    have d1 : ∀ w, (binOp .add 22 (.float .f64 (bw false e0 f0)) (.float .f64 5183643171103440896)).run Try.prog w = .ok (.float .f64 S) w := fun w => run_float_arith w .add _ .f64 _ _ _ s1
    have H2 : ∀ w, Calls Try.prog 47 #[.float .f64 (bw false 2047 0), .int .i64 1] w fun r w' => r = .returned (.bool true) ∧ w' = w := isInf_pos false 2047 0 (by omega) (by omega)
    have hOO := self_eq false 2047 0 (by omega) (by omega) rfl
    rw [hO]
    by_cases c1 : val Ieee.double (em * 4503599627370496 + fm) < val Ieee.double (e * 4503599627370496 + f)
    · rw [decide_eq_true c1] at m1
      rw [hb1 (by omega), if_pos rfl]
      exact near_up_ni _ _ _ _ 0 0 S _ H1 H2 d1 d2 m1 hOO w
    · rw [decide_eq_false c1] at m1
      by_cases c2 : val Ieee.double (e * 4503599627370496 + f) < val Ieee.double (em * 4503599627370496 + fm)
      · rw [decide_eq_true c2] at m2
        rw [hb2 (by omega), if_neg (by decide)]
        exact near_dn_ni _ _ _ _ 0 0 S _ H1 H2 d1 d2 m1 m2 hI w
      · rw [decide_eq_false c2] at m2
        rw [decide_eq_true (Nat.le_antisymm (Nat.not_lt.1 c1) (Nat.not_lt.1 c2))] at m3
        exact near_mid_ni _ _ _ _ 0 0 S _ H1 H2 d1 d2 m1 m2 m3 w
  · have hO : outB false q e1 f1 = bw false e1 f1 := if_neg hmx
    have d1 : ∀ w, (binOp .add 22 (.float .f64 (bw false e0 f0)) (.float .f64 (bw false e1 f1))).run Try.prog w = .ok (.float .f64 S) w := fun w => run_float_arith w .add _ .f64 _ _ _ s1
    have H2 : ∀ w, Calls Try.prog 47 #[.float .f64 (bw false e1 f1), .int .i64 1] w fun r w' => r = .returned (.bool false) ∧ w' = w := by
      have h := isInf_pos false e1 f1 (by omega) hf1
      have hh : (e1 == 2047) = false := beq_eq_false_iff_ne.2 (by omega)
      rw [hh] at h; exact h
    have hOO := self_eq false e1 f1 (by omega) hf1 (odd_lt _ _ (by omega))
    rw [hO]
    by_cases c1 : val Ieee.double (em * 4503599627370496 + fm) < val Ieee.double (e * 4503599627370496 + f)
    · rw [decide_eq_true c1] at m1
      rw [hb1 (by omega), if_pos rfl]
      exact near_up_nn _ _ _ _ 0 0 S _ H1 H2 d1 d2 m1 hOO w
    · rw [decide_eq_false c1] at m1
      by_cases c2 : val Ieee.double (e * 4503599627370496 + f) < val Ieee.double (em * 4503599627370496 + fm)
      · rw [decide_eq_true c2] at m2
        rw [hb2 (by omega), if_neg (by decide)]
        exact near_dn_nn _ _ _ _ 0 0 S _ H1 H2 d1 d2 m1 m2 hI w
      · rw [decide_eq_false c2] at m2
        rw [decide_eq_true (Nat.le_antisymm (Nat.not_lt.1 c1) (Nat.not_lt.1 c2))] at m3
        exact near_mid_nn _ _ _ _ 0 0 S _ H1 H2 d1 d2 m1 m2 m3 w

/-- 'nearest' at a number below nought. -/
theorem near_m (e f q e0 f0 e1 f1 : Nat) (b : Bool) (he : e < 2047) (hf : f < 4503599627370496) (hq : q ≤ 2139095039) (he0 : e0 < 2047) (hf0 : f0 < 4503599627370496) (he1 : e1 < 2047) (hf1 : f1 < 4503599627370496)
    (h0 : val Ieee.double (e0 * 4503599627370496 + f0) = val Ieee.single q * 2 ^ gp) (h1 : val Ieee.double (e1 * 4503599627370496 + f1) = val Ieee.single (q + 1) * 2 ^ gp)
    (hb1 : val Ieee.single q * 2 ^ gp + val Ieee.single (q + 1) * 2 ^ gp < 2 * val Ieee.double (e * 4503599627370496 + f) → b = true) (hb2 : 2 * val Ieee.double (e * 4503599627370496 + f) < val Ieee.single q * 2 ^ gp + val Ieee.single (q + 1) * 2 ^ gp → b = false) (w : World) :
    Calls Try.prog 21 #[.float .f64 (bw true e f), .float .f64 (outB true q e1 f1), .float .f64 (bw true e0 f0), .float .f64 (if b then outB true q e1 f1 else bw true e0 f0)] w fun r w' => r = .returned (.bool true) ∧ w' = w := by
  obtain ⟨S, em, fm, hem, hfm, hM, _, s1, s3⟩ := mid_is true q hq e0 f0 e1 f1 he0 hf0 he1 hf1 h0 h1
  have d2 : ∀ w, (binOp .quo 22 (.float .f64 S) (.float .f64 4611686018427387904)).run Try.prog w = .ok (.float .f64 (bw true em fm)) w := fun w => run_float_arith w .quo _ .f64 _ _ _ s3
  have m1 := lt_sv true em fm e f hem hfm he hf
  have m2 := lt_sv true e f em fm he hf hem hfm
  have m3 := eq_sv true e f em fm he hf hem hfm
  simp only [if_true] at m1 m2
  have hI := self_eq true e0 f0 (by omega) hf0 (odd_lt _ _ (by omega))
  have H2 : ∀ w, Calls Try.prog 47 #[.float .f64 (bw true e0 f0), .int .i64 1] w fun r w' => r = .returned (.bool false) ∧ w' = w := isInf_pos true e0 f0 (by omega) hf0
  by_cases hmx : q = 2139095039
  · have hO : outB true q e1 f1 = bw true 2047 0 := if_pos hmx
    have he1f : bw true e1 f1 = 14407015207958216704 := by
      rw [hmx, show (2139095039 + 1 : Nat) = 2139095040 from rfl] at h1
      have h2 := val_inj Ieee.double (h1.trans val_end32.symm)
      have h3 : bw true 1151 0 = 14407015207958216704 := by decide
      rw [← h3, bw_word, bw_word, h2]
    rw [he1f] at s1
    have d1 : ∀ w, (binOp .add 22 (.float .f64 14407015207958216704) (.float .f64 (bw true e0 f0))).run Try.prog w = .ok (.float .f64 S) w := fun w => run_float_arith w .add _ .f64 _ _ _ s1
    have H1 : ∀ w, Calls Try.prog 47 #[.float .f64 (bw true 2047 0), .int .i64 (-1)] w fun r w' => r = .returned (.bool true) ∧ w' = w := isInf_neg true 2047 0 (by omega) (by omega)
    have hOO := self_eq true 2047 0 (by omega) (by omega) rfl
    rw [hO]
    by_cases c1 : val Ieee.double (e * 4503599627370496 + f) < val Ieee.double (em * 4503599627370496 + fm)
    · rw [decide_eq_true c1] at m1
      rw [hb2 (by omega), if_neg (by decide)]
      exact near_up_in _ _ _ _ 0 0 S _ H1 H2 d1 d2 m1 hI w
    · rw [decide_eq_false c1] at m1
      by_cases c2 : val Ieee.double (em * 4503599627370496 + fm) < val Ieee.double (e * 4503599627370496 + f)
      · rw [decide_eq_true c2] at m2
        rw [hb1 (by omega), if_pos rfl]
        exact near_dn_in _ _ _ _ 0 0 S _ H1 H2 d1 d2 m1 m2 hOO w
      · rw [decide_eq_false c2] at m2
        rw [decide_eq_true (Nat.le_antisymm (Nat.not_lt.1 c2) (Nat.not_lt.1 c1))] at m3
        exact near_mid_in _ _ _ _ 0 0 S _ H1 H2 d1 d2 m1 m2 m3 w
  · have hO : outB true q e1 f1 = bw true e1 f1 := if_neg hmx
    have d1 : ∀ w, (binOp .add 22 (.float .f64 (bw true e1 f1)) (.float .f64 (bw true e0 f0))).run Try.prog w = .ok (.float .f64 S) w := fun w => run_float_arith w .add _ .f64 _ _ _ s1
    have H1 : ∀ w, Calls Try.prog 47 #[.float .f64 (bw true e1 f1), .int .i64 (-1)] w fun r w' => r = .returned (.bool false) ∧ w' = w := by
      have h := isInf_neg true e1 f1 (by omega) hf1
      have hh : (e1 == 2047) = false := beq_eq_false_iff_ne.2 (by omega)
      rw [hh] at h; exact h
    have hOO := self_eq true e1 f1 (by omega) hf1 (odd_lt _ _ (by omega))
    rw [hO]
    by_cases c1 : val Ieee.double (e * 4503599627370496 + f) < val Ieee.double (em * 4503599627370496 + fm)
    · rw [decide_eq_true c1] at m1
      rw [hb2 (by omega), if_neg (by decide)]
      exact near_up_nn _ _ _ _ 0 0 S _ H1 H2 d1 d2 m1 hI w
    · rw [decide_eq_false c1] at m1
      by_cases c2 : val Ieee.double (em * 4503599627370496 + fm) < val Ieee.double (e * 4503599627370496 + f)
      · rw [decide_eq_true c2] at m2
        rw [hb1 (by omega), if_pos rfl]
        exact near_dn_nn _ _ _ _ 0 0 S _ H1 H2 d1 d2 m1 m2 hOO w
      · rw [decide_eq_false c2] at m2
        rw [decide_eq_true (Nat.le_antisymm (Nat.not_lt.1 c2) (Nat.not_lt.1 c1))] at m3
        exact near_mid_nn _ _ _ _ 0 0 S _ H1 H2 d1 d2 m1 m2 m3 w
end Go.Proofs.Ytedknjiipmppgab
