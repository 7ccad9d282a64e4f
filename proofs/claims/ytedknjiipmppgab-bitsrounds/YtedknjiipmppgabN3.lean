/- What innerBits, takesOuter and Narrow answer, at every number and every mode. -/
import Derived.Test.YtedknjiipmppgabN2
namespace Go.Proofs.Ytedknjiipmppgab
open Go.RowKit

theorem max32_bw : bw false 1150 4503599090499584 = 5183643170566569984 := by decide
theorem end32_bw : bw false 1151 0 = 5183643171103440896 := by decide

theorem pow_29 (p t : Nat) (h : p = t + 29) : 9007198717870080 * 2 ^ t = 16777215 * 2 ^ p := by
  subst h
  rw [Nat.pow_add, Nat.mul_comm (2 ^ t), ← Nat.mul_assoc]

theorem val_max32 : val Ieee.double (1150 * 4503599627370496 + 4503599090499584) = val Ieee.single 2139095039 * 2 ^ gp := by
  obtain ⟨t, ht, hg⟩ : ∃ t, (1150 * 4503599627370496 + 4503599090499584) / 4503599627370496 - 1 = t ∧ 2139095039 / 8388608 - 1 + gp = t + 29 := ⟨_, rfl, by have := gp_eq; omega⟩
  unfold val
  rw [dBin, sBin, if_neg (by omega), if_neg (by omega), ht, Nat.mul_assoc (8388608 + 2139095039 % 8388608), ← Nat.pow_add, hg, show 4503599627370496 + (1150 * 4503599627370496 + 4503599090499584) % 4503599627370496 = 9007198717870080 from by omega, show 8388608 + 2139095039 % 8388608 = 16777215 from by omega]
  exact pow_29 _ _ rfl

theorem pow_half (p t : Nat) (h : t = p + 29) : 4503599627370496 * 2 ^ p = 8388608 * 2 ^ t := by
  subst h
  rw [Nat.pow_add, Nat.mul_comm (2 ^ p), ← Nat.mul_assoc]

theorem val_end32 : val Ieee.double (1151 * 4503599627370496 + 0) = val Ieee.single 2139095040 * 2 ^ gp := by
  obtain ⟨t, ht, hg⟩ : ∃ t, (1151 * 4503599627370496 + 0) / 4503599627370496 - 1 = t ∧ 2139095040 / 8388608 - 1 + gp = t + 29 := ⟨_, rfl, by have := gp_eq; omega⟩
  unfold val
  rw [dBin, sBin, if_neg (by omega), if_neg (by omega), ht, Nat.mul_assoc (8388608 + 2139095040 % 8388608), ← Nat.pow_add, hg, show 4503599627370496 + (1151 * 4503599627370496 + 0) % 4503599627370496 = 4503599627370496 from by omega, show 8388608 + 2139095040 % 8388608 = 8388608 from by omega]
  exact pow_half _ _ rfl

section
variable (e f u v : Nat)
theorem plf : pl false e f = ((e * 4503599627370496 + f : Nat) : Int) := by unfold pl sg; simp

/-- finite numbers above nought compare as their values. -/
theorem gt_val (he : e < 2047) (hf : f < 4503599627370496) (hu : u < 2047) (hv : v < 4503599627370496) : (FloatKind.f64.format.order (bw false e f) (bw false u v) == some .gt) = decide (val Ieee.double (u * 4503599627370496 + v) < val Ieee.double (e * 4503599627370496 + f)) := by
  rw [gt_f64 false false e f u v (by omega) hf (by omega) hv, odd_lt e f he, odd_lt u v hu, plf, plf, Bool.eq_iff_iff]
  have := @val_lt_iff Ieee.double (u * 4503599627370496 + v) (e * 4503599627370496 + f)
  simp only [Bool.not_false, Bool.true_and, decide_eq_true_eq]
  omega
theorem eq_val (he : e < 2047) (hf : f < 4503599627370496) (hu : u < 2047) (hv : v < 4503599627370496) : (FloatKind.f64.format.order (bw false e f) (bw false u v) == some .eq) = decide (val Ieee.double (e * 4503599627370496 + f) = val Ieee.double (u * 4503599627370496 + v)) := by
  rw [eq_f64 false false e f u v (by omega) hf (by omega) hv, odd_lt e f he, odd_lt u v hu, plf, plf, Bool.eq_iff_iff]
  have h1 := @val_inj Ieee.double (e * 4503599627370496 + f) (u * 4503599627370496 + v)
  simp only [Bool.not_false, Bool.true_and, decide_eq_true_eq]
  constructor
  · intro h
    have : e * 4503599627370496 + f = u * 4503599627370496 + v := by omega
    rw [this]
  · intro h; have := h1 h; omega
end

/-- the value of a number of 32 bits, as one of 64. -/
theorem value32_is (r e f : Nat) (hr : r ≤ 2139095040) (he : e < 2047) (hf : f < 4503599627370496) (hv : val Ieee.double (e * 4503599627370496 + f) = val Ieee.single r * 2 ^ gp) :
    ∀ w, Calls Try.prog 51 #[.int .u32 (r : Int)] w fun q w' => q = .returned (.float .f64 (bw false e f)) ∧ w' = w := by
  by_cases h : r = 2139095040
  · subst h
    have : bw false e f = 5183643171103440896 := by
      have := val_inj Ieee.double (hv.trans val_end32.symm)
      rw [← end32_bw, bw_word, bw_word, this]
    rw [this]
    exact val32_end
  · intro w
    refine val32_num r (bw false e f) (beq_eq_false_iff_ne.2 (by omega)) (fun w => ?_) w
    rw [Int.toNat_natCast]
    refine widen_num _ _ ?_ (fun w => ?_) w
    · have h1 : FloatKind.f32.format.order r r = some .eq := by
        show Ieee.single.order (Ieee.single.word false r) (Ieee.single.word false r) = _
        rw [order_word Ieee.single sHs sHb false false r r (by rw [sInf]; omega) (by rw [sInf]; omega), Int.compare_eq_eq.2 rfl]
      rw [h1]; rfl
    · exact run_convert_float_float w _ _ .f32 .f64 _ _ (by kernel_rfl) Try.underlying22 (widen_bits false r e f (by omega) he hf hv)

/-- q is the greatest finite number of 32 bits that is not above the value. -/
def Floor (V q : Nat) : Prop := q ≤ 2139095039 ∧ val Ieee.single q * 2 ^ gp ≤ V ∧ (q = 2139095039 ∨ V < val Ieee.single (q + 1) * 2 ^ gp)

theorem floor_uniq (V p q : Nat) (hp : Floor V p) (hq : Floor V q) : p = q := by
  have key : ∀ p q, Floor V p → Floor V q → ¬ p < q := by
    intro p q hp hq h
    rcases hp.2.2 with h1 | h1
    · have := hq.1; omega
    · have h2 := (val_lt_iff Ieee.single).1 (Nat.lt_of_mul_lt_mul_right (Nat.lt_of_le_of_lt hq.2.1 h1))
      omega
  have := key p q hp hq
  have := key q p hq hp
  omega

theorem inner_is (e f : Nat) (he : e < 2047) (hf : f < 4503599627370496) (h0 : 0 < e * 4503599627370496 + f) :
    ∃ q, Floor (val Ieee.double (e * 4503599627370496 + f)) q ∧ ∀ w, Calls Try.prog 31 #[.float .f64 (bw false e f)] w fun r w' => r = .returned (.int .u32 (q : Int)) ∧ w' = w := by
  have g1 := gt_val e f 1150 4503599090499584 he hf (by omega) (by omega)
  have g2 := eq_val e f 1150 4503599090499584 he hf (by omega) (by omega)
  rw [max32_bw, val_max32] at g1 g2
  by_cases hb : val Ieee.single 2139095039 * 2 ^ gp ≤ val Ieee.double (e * 4503599627370496 + f)
  · refine ⟨2139095039, ⟨Nat.le_refl _, hb, Or.inl rfl⟩, fun w => inner_big _ ?_ w⟩
    rw [g1, g2]
    by_cases c : val Ieee.single 2139095039 * 2 ^ gp < val Ieee.double (e * 4503599627370496 + f)
    · rw [decide_eq_true c]; rfl
    · rw [decide_eq_false c, decide_eq_true (show val Ieee.double (e * 4503599627370496 + f) = val Ieee.single 2139095039 * 2 ^ gp by omega)]; rfl
  · have o : (FloatKind.f64.format.order (bw false e f) 5183643170566569984 == some .gt || FloatKind.f64.format.order (bw false e f) 5183643170566569984 == some .eq) = false := by
      rw [g1, g2, decide_eq_false (show ¬ val Ieee.single 2139095039 * 2 ^ gp < val Ieee.double (e * 4503599627370496 + f) by omega), decide_eq_false (show ¬ val Ieee.double (e * 4503599627370496 + f) = val Ieee.single 2139095039 * 2 ^ gp by omega)]; rfl
    obtain ⟨R, hR, hcv, h1, h2⟩ := narrow_bits (e * 4503599627370496 + f) h0 (by omega) (by omega)
    rw [← bw_word] at hcv
    obtain ⟨eL, fL, heL, hfL, hvL⟩ := up_exists R (by omega)
    have cv : ∀ w, (convert 22 27 (.float .f64 (bw false e f))).run Try.prog w = .ok (.float .f32 R) w := fun w => run_convert_float_float w _ _ .f64 .f32 _ _ (by kernel_rfl) Try.underlying27 hcv
    have HL := value32_is R eL fL (by omega) heL hfL hvL
    have g3 := gt_val eL fL e f heL hfL he hf
    rw [hvL] at g3
    by_cases c : val Ieee.single R * 2 ^ gp ≤ val Ieee.double (e * 4503599627370496 + f)
    · rw [decide_eq_false (by omega)] at g3
      exact ⟨R, ⟨hR, c, Or.inr (h1 c)⟩, fun w => inner_at _ R _ o hR cv HL g3 w⟩
    · rw [decide_eq_true (by omega)] at g3
      obtain ⟨c1, c2⟩ := h2 (by omega)
      refine ⟨R - 1, ⟨by omega, by omega, Or.inr ?_⟩, fun w => inner_below _ R _ o hR cv HL c1 (R - 1) (show R - 1 + 1 = R by omega) g3 w⟩
      rw [show R - 1 + 1 = R by omega]; omega

/-- is the outer one of two neighbours taken? -/
def tkS (V LO HI q : Nat) (way : Int) : Bool :=
  if V = LO then false else if way = 1 then true else if way = 2 then decide (LO + HI < 2 * V) || (decide (2 * V = LO + HI) && q % 2 == 1) else if way = 3 then decide (LO + HI ≤ 2 * V) else false

/-- the middle of two neighbours, as Go reckons it, is exact. -/
theorem middle_is (q : Nat) (hq : q ≤ 2139095039) (e0 f0 e1 f1 : Nat) (he0 : e0 < 2047) (hf0 : f0 < 4503599627370496) (he1 : e1 < 2047) (hf1 : f1 < 4503599627370496)
    (h0 : val Ieee.double (e0 * 4503599627370496 + f0) = val Ieee.single q * 2 ^ gp) (h1 : val Ieee.double (e1 * 4503599627370496 + f1) = val Ieee.single (q + 1) * 2 ^ gp) :
    ∃ D Hf em fm, em < 2047 ∧ fm < 4503599627370496 ∧ 2 * val Ieee.double (em * 4503599627370496 + fm) = val Ieee.single q * 2 ^ gp + val Ieee.single (q + 1) * 2 ^ gp ∧
      floatBits .sub .f64 (bw false e1 f1) (bw false e0 f0) = some D ∧ floatBits .quo .f64 D 4611686018427387904 = some Hf ∧ floatBits .add .f64 (bw false e0 f0) Hf = some (bw false em fm) := by
  have hs := val_succ Ieee.single q
  rw [sBin] at hs
  -- the step, by its power
  obtain ⟨t, ht⟩ : ∃ t, q / 8388608 - 1 + gp = t + 1 := ⟨q / 8388608 - 1 + gp - 1, by have := gp_eq; omega⟩
  have hstep : val Ieee.single (q + 1) * 2 ^ gp = val Ieee.single q * 2 ^ gp + 2 * 2 ^ t := by
    rw [hs, Nat.add_mul, ← Nat.pow_add, ht, Nat.pow_succ, Nat.mul_comm (2 ^ t)]
  obtain ⟨c, hc, hcv⟩ : ∃ c, c < 16777216 ∧ val Ieee.single q * 2 ^ gp = c * (2 * 2 ^ t) := by
    unfold val
    rw [sBin]
    by_cases h : q < 8388608
    · rw [if_pos h]
      refine ⟨q, by omega, ?_⟩
      have : gp = t + 1 := by have := Nat.div_eq_of_lt h; omega
      rw [this, Nat.pow_succ, Nat.mul_comm (2 ^ t)]
    · rw [if_neg h]
      refine ⟨8388608 + q % 8388608, by omega, ?_⟩
      rw [Nat.mul_assoc, ← Nat.pow_add, ht, Nat.pow_succ, Nat.mul_comm (2 ^ t)]
  have htb : t + 1 ≤ 2045 := by have := gp_eq; omega
  have hp : 0 < 2 ^ t := Nat.two_pow_pos _
  obtain ⟨ed, fd, hed, hfd, hvd⟩ := mk_exists (t + 1) 1 (by omega) htb
  obtain ⟨eh, fh, heh, hfh, hvh⟩ := mk_exists t 1 (by omega) (by omega)
  obtain ⟨em, fm, hem, hfm, hvm⟩ := mk_exists t (2 * c + 1) (by omega) (by omega)
  rw [Nat.one_mul] at hvd hvh
  rw [Nat.pow_succ, Nat.mul_comm (2 ^ t) 2] at hvd
  have hm2 : (2 * c + 1) * 2 ^ t = c * (2 * 2 ^ t) + 2 ^ t := by rw [Nat.add_mul, Nat.one_mul, Nat.mul_comm 2 c, Nat.mul_assoc]
  rw [hm2] at hvm
  refine ⟨bw false ed fd, bw false eh fh, em, fm, hem, hfm, ?_, ?_, ?_, ?_⟩
  · rw [hvm, hstep, hcv]; omega
  · show Ieee.double.sub _ _ = _
    rw [bw_word, bw_word, bw_word]
    have hsum : sg false (val Ieee.double (e1 * 4503599627370496 + f1)) + sg (!false) (val Ieee.double (e0 * 4503599627370496 + f0)) = ((2 * 2 ^ t : Nat) : Int) := by
      unfold sg; simp only [Bool.not_false, if_true, Bool.false_eq_true, if_false]
      rw [h1, h0, hstep]; omega
    have hnz : ed * 4503599627370496 + fd ≠ 0 := by
      intro h; rw [h, val_zero] at hvd; omega
    have := sub_exact Ieee.double dHs false false (e1 * 4503599627370496 + f1) (e0 * 4503599627370496 + f0) (ed * 4503599627370496 + fd) (by rw [dInf]; omega) (by rw [dInf]; omega) (by rw [dInf]; omega) (by rw [hsum, hvd, Int.natAbs_natCast])
    rw [this, if_neg hnz, hsum, decide_eq_false (by omega)]
  · show Ieee.double.div _ _ = _
    rw [bw_word, bw_word]
    exact div_two _ _ (by omega) (by omega) (by rw [hvd, hvh]) (by rw [hvh]; exact hp)
  · show Ieee.double.add _ _ = _
    rw [bw_word, bw_word, bw_word]
    have hsum : sg false (val Ieee.double (e0 * 4503599627370496 + f0)) + sg false (val Ieee.double (eh * 4503599627370496 + fh)) = ((c * (2 * 2 ^ t) + 2 ^ t : Nat) : Int) := by
      unfold sg; simp only [Bool.false_eq_true, if_false]
      rw [h0, hvh, hcv]; omega
    have hnz : em * 4503599627370496 + fm ≠ 0 := by
      intro h; rw [h, val_zero] at hvm; omega
    have := add_exact Ieee.double dHs false false (e0 * 4503599627370496 + f0) (eh * 4503599627370496 + fh) (em * 4503599627370496 + fm) (by rw [dInf]; omega) (by rw [dInf]; omega) (by rw [dInf]; omega) (by rw [hsum, hvm, Int.natAbs_natCast])
    rw [this, if_neg hnz, hsum, decide_eq_false (by omega)]
end Go.Proofs.Ytedknjiipmppgab
