/- The document's narrow and Narrow at every finite number that is no nought: the rung that is taken. -/
import Derived.Test.YtedknjiipmppgabRN3
namespace Go.Proofs.Ytedknjiipmppgab
open Go.RowKit

theorem bl_bounds (n : Nat) (h : 0 < n) : ∃ p, bl n = p + 1 ∧ 2 ^ p ≤ n ∧ n < 2 ^ (p + 1) := by
  refine ⟨n.log2, ?_, (Nat.log2_eq_iff (by omega)).1 rfl⟩
  unfold bl; rw [if_neg (by omega)]

theorem cmpR (gn Q rest b a : Nat) (hg : gn = Q * 2 ^ (b + 1) + rest) (hr : rest < 2 ^ (b + 1)) :
    (gn * 2 ^ a = Q * 2 ^ (a + (b + 1)) ↔ rest = 0) ∧ (Q * 2 ^ (a + (b + 1)) + (Q + 1) * 2 ^ (a + (b + 1)) < 2 * (gn * 2 ^ a) ↔ 2 ^ b < rest) ∧ (2 * (gn * 2 ^ a) = Q * 2 ^ (a + (b + 1)) + (Q + 1) * 2 ^ (a + (b + 1)) ↔ rest = 2 ^ b) ∧
      Q * 2 ^ (a + (b + 1)) ≤ gn * 2 ^ a ∧ gn * 2 ^ a < (Q + 1) * 2 ^ (a + (b + 1)) := by
  have hA : 0 < 2 ^ a := Nat.two_pow_pos _
  have e1 : Q * 2 ^ (a + (b + 1)) = Q * 2 ^ (b + 1) * 2 ^ a := by rw [Nat.pow_add, Nat.mul_comm (2 ^ a), Nat.mul_assoc]
  have e0 : 2 ^ (a + (b + 1)) = 2 * (2 ^ b * 2 ^ a) := by rw [show a + (b + 1) = b + a + 1 from by omega, Nat.pow_succ, Nat.pow_add, Nat.mul_comm]
  have e2 : (Q + 1) * 2 ^ (a + (b + 1)) = Q * 2 ^ (b + 1) * 2 ^ a + 2 * (2 ^ b * 2 ^ a) := by
    rw [Nat.add_mul, e1, Nat.one_mul, e0]
  have e3 : gn * 2 ^ a = Q * 2 ^ (b + 1) * 2 ^ a + rest * 2 ^ a := by rw [hg, Nat.add_mul]
  have hr2 : rest * 2 ^ a < 2 * (2 ^ b * 2 ^ a) := by
    rw [← Nat.mul_assoc, Nat.mul_comm 2 (2 ^ b), ← Nat.pow_succ]
    exact Nat.mul_lt_mul_of_pos_right hr hA
  have i1 : rest * 2 ^ a = 0 ↔ rest = 0 := by
    constructor
    · intro h; rcases Nat.mul_eq_zero.1 h with h | h <;> omega
    · rintro rfl; rw [Nat.zero_mul]
  have i2 : 2 ^ b * 2 ^ a < rest * 2 ^ a ↔ 2 ^ b < rest := Nat.mul_lt_mul_right hA
  have i3 : rest * 2 ^ a = 2 ^ b * 2 ^ a ↔ rest = 2 ^ b := ⟨fun h => Nat.eq_of_mul_eq_mul_right hA h, fun h => by rw [h]⟩
  rw [e1, e2, e3]
  generalize Q * 2 ^ (b + 1) * 2 ^ a = u at *
  generalize rest * 2 ^ a = ra at *
  generalize 2 ^ b * 2 ^ a = ha at *
  refine ⟨?_, ?_, ?_, ?_, ?_⟩
  · rw [← i1]; omega
  · rw [← i2]; omega
  · rw [← i3]; omega
  · omega
  · omega

section
variable (V LO HI Q rest hf : Nat) (s t v : Bool)
theorem up_tk0 (h0 : V = LO ↔ rest = 0) (h1 : LO + HI < 2 * V ↔ hf < rest) (h2 : 2 * V = LO + HI ↔ rest = hf) : upW rest hf Q true false v = tkS V LO HI Q (wayS 0 s) := by
  show _ = tkS V LO HI Q 2
  unfold upW tkS
  by_cases r : rest = 0
  · rw [if_pos (by omega), if_pos (h0.2 r)]
  · rw [if_neg (by omega), if_neg (fun h => r (h0.1 h)), if_pos rfl, if_neg (by decide), if_pos rfl, Bool.eq_iff_iff]
    simp; omega
theorem up_tk4 (h0 : V = LO ↔ rest = 0) (h1 : LO + HI < 2 * V ↔ hf < rest) (h2 : 2 * V = LO + HI ↔ rest = hf) : upW rest hf Q true true v = tkS V LO HI Q (wayS 4 s) := by
  show _ = tkS V LO HI Q 3
  unfold upW tkS
  by_cases r : rest = 0
  · rw [if_pos (by omega), if_pos (h0.2 r)]
  · rw [if_neg (by omega), if_neg (fun h => r (h0.1 h)), if_pos rfl, if_neg (by decide), if_neg (by decide), if_pos rfl, Bool.eq_iff_iff]
    simp; omega
theorem up_tk1 (h0 : V = LO ↔ rest = 0) : upW rest hf Q false t false = tkS V LO HI Q (wayS 1 s) := by
  unfold upW tkS wayS
  by_cases r : rest = 0
  · rw [if_pos (by omega), if_pos (h0.2 r)]
  · rw [if_neg (by omega), if_neg (fun h => r (h0.1 h))]; rfl
theorem up_tk2 (h0 : V = LO ↔ rest = 0) : upW rest hf Q false t (!s) = tkS V LO HI Q (wayS 2 s) := by
  unfold upW tkS wayS
  by_cases r : rest = 0
  · rw [if_pos (by omega), if_pos (h0.2 r)]
  · rw [if_neg (by omega), if_neg (fun h => r (h0.1 h))]; cases s <;> rfl
theorem up_tk3 (h0 : V = LO ↔ rest = 0) : upW rest hf Q false t s = tkS V LO HI Q (wayS 3 s) := by
  unfold upW tkS wayS
  by_cases r : rest = 0
  · rw [if_pos (by omega), if_pos (h0.2 r)]
  · rw [if_neg (by omega), if_neg (fun h => r (h0.1 h))]; cases s <;> rfl
end

/-- the ways of each mode, and that what is taken is the same. -/
theorem ways_is (k : Int) (s : Bool) (k0 : 0 ≤ k) (k4 : k ≤ 4) : ∃ n t v : Bool, (∀ w, Calls Try.prog 37 #[.int .i64 k, .bool s] w fun r w' => r = .returned (.tuple #[.bool n, .bool t, .bool v]) ∧ w' = w) ∧
    (∀ V LO HI Q rest hf : Nat, (V = LO ↔ rest = 0) → (LO + HI < 2 * V ↔ hf < rest) → (2 * V = LO + HI ↔ rest = hf) → upW rest hf Q n t v = tkS V LO HI Q (wayS k s)) ∧ ((n || v) = !(wayS k s == 0)) := by
  have h : k = 0 ∨ k = 1 ∨ k = 2 ∨ k = 3 ∨ k = 4 := by omega
  rcases h with rfl | rfl | rfl | rfl | rfl
  · exact ⟨_, _, _, ways_0 s, fun V LO HI Q rest hf h0 h1 h2 => up_tk0 V LO HI Q rest hf s false h0 h1 h2, rfl⟩
  · exact ⟨_, _, _, ways_1 s, fun V LO HI Q rest hf h0 h1 h2 => up_tk1 V LO HI Q rest hf s false h0, rfl⟩
  · exact ⟨_, _, _, ways_2 s, fun V LO HI Q rest hf h0 h1 h2 => up_tk2 V LO HI Q rest hf s false h0, by cases s <;> rfl⟩
  · exact ⟨_, _, _, ways_3 s, fun V LO HI Q rest hf h0 h1 h2 => up_tk3 V LO HI Q rest hf s false h0, by cases s <;> rfl⟩
  · exact ⟨_, _, _, ways_4 s, fun V LO HI Q rest hf h0 h1 h2 => up_tk4 V LO HI Q rest hf s false h0 h1 h2, rfl⟩

theorem tk_zero (V LO HI Q : Nat) (y : Int) (h : V = LO) : tkS V LO HI Q y = false := by unfold tkS; rw [if_pos h]

/-- the document's narrow. -/
theorem rnarrow_is (s : Bool) (c k x : Int) (gn : Nat) (h0 : 0 < gn) (hg : gn < 9007199254740992) (hx0 : -1074 ≤ x) (hx1 : x ≤ 971) (k0 : 0 ≤ k) (k4 : k ≤ 4) :
    ∃ (Q : Nat) (st : Int) (T : Nat), (T : Int) = st + 1074 ∧ -149 ≤ st ∧ st ≤ 1100 ∧ (st = -149 ∨ 8388608 ≤ Q) ∧ Q < 16777216 ∧ Q * 2 ^ T ≤ gn * 2 ^ (x + 1074).toNat ∧ gn * 2 ^ (x + 1074).toNat < (Q + 1) * 2 ^ T ∧
      ∀ w, Calls Try.prog 36 #[.agg #[.bool s, .int .i64 c, .int .i64 x, .int .u64 (gn : Int)], .int .i64 k] w fun r w' => r = .returned (.tuple #[.int .u64 ((Q + (tkS (gn * 2 ^ (x + 1074).toNat) (Q * 2 ^ T) ((Q + 1) * 2 ^ T) Q (wayS k s)).toNat : Nat) : Int), .int .i64 st]) ∧ Below w.heap.size w w' := by
  obtain ⟨p, hp, lo, hi⟩ := bl_bounds gn h0
  have hp53 : p < 53 := (Nat.pow_lt_pow_iff_right (a := 2) (by omega)).1 (Nat.lt_of_le_of_lt lo (Nat.lt_of_lt_of_le hg (by decide)))
  obtain ⟨n, t, v, HW, hup, _⟩ := ways_is k s k0 k4
  have hL : ((p + 1 : Nat) : Int) = (bl (gn : Int).toNat : Int) := by rw [Int.toNat_natCast, hp]
  obtain ⟨a, ha⟩ : ∃ a : Nat, (x + 1074).toNat = a ∧ (a : Int) = x + 1074 := ⟨(x + 1074).toNat, rfl, by omega⟩
  rw [ha.1]
  by_cases hA : -149 < ((p + 1 : Nat) : Int) + x - 24
  · -- a normal one
    by_cases hle : p + 1 ≤ 24
    · -- exact
      obtain ⟨d, hd⟩ : ∃ d : Nat, p + 1 + d = 24 := ⟨24 - (p + 1), by omega⟩
      have hR1 : 8388608 ≤ gn * 2 ^ d := by
        have : (8388608 : Nat) = 2 ^ p * 2 ^ d := by rw [← Nat.pow_add, show p + d = 23 from by omega]
        rw [this]; exact Nat.mul_le_mul_right _ lo
      have hR2 : gn * 2 ^ d < 16777216 := by
        have : (16777216 : Nat) = 2 ^ (p + 1) * 2 ^ d := by rw [← Nat.pow_add, hd]
        rw [this]; exact Nat.mul_lt_mul_of_pos_right hi (Nat.two_pow_pos _)
      obtain ⟨T, hT⟩ : ∃ T : Nat, (T : Int) = ((p + 1 : Nat) : Int) + x - 24 + 1074 := ⟨(((p + 1 : Nat) : Int) + x - 24 + 1074).toNat, by omega⟩
      have hV : gn * 2 ^ a = gn * 2 ^ d * 2 ^ T := by rw [Nat.mul_assoc, ← Nat.pow_add, show d + T = a from by omega]
      refine ⟨gn * 2 ^ d, ((p + 1 : Nat) : Int) + x - 24, T, hT, by omega, by omega, Or.inr hR1, hR2, by rw [hV]; exact Nat.le_refl _, ?_, fun w => ?_⟩
      · rw [hV]; exact Nat.mul_lt_mul_of_pos_right (Nat.lt_succ_self _) (Nat.two_pow_pos _)
      · rw [tk_zero _ _ _ _ _ hV]
        have hsh : (gn : Int) * 2 ^ (x - (((p + 1 : Nat) : Int) + x - 24)).toNat = ((gn * 2 ^ d : Nat) : Int) := by
          rw [show (x - (((p + 1 : Nat) : Int) + x - 24)).toNat = d from by omega]; push_cast; rfl
        exact rnar_exactA s c x gn k _ _ (by omega) (by omega) hL hx0 hx1 hA (by omega) rfl (by omega) _ (by rw [hsh]; exact wrap_small _ (by omega) (by omega)) w
    · -- rounded
      obtain ⟨b, hb⟩ : ∃ b : Nat, p + 1 = 24 + (b + 1) := ⟨p + 1 - 25, by omega⟩
      have hdm := Nat.div_add_mod gn (2 ^ (b + 1))
      have hpb : 0 < 2 ^ (b + 1) := Nat.two_pow_pos _
      have hmod := Nat.mod_lt gn hpb
      have hq1 : 8388608 ≤ gn / 2 ^ (b + 1) := by
        rw [Nat.le_div_iff_mul_le hpb]
        have : (8388608 : Nat) * 2 ^ (b + 1) = 2 ^ p := by rw [show (8388608 : Nat) = 2 ^ 23 from rfl, ← Nat.pow_add, show 23 + (b + 1) = p from by omega]
        rw [this]; exact lo
      have hq2 : gn / 2 ^ (b + 1) < 16777216 := by
        rw [Nat.div_lt_iff_lt_mul hpb]
        have : (16777216 : Nat) * 2 ^ (b + 1) = 2 ^ (p + 1) := by rw [show (16777216 : Nat) = 2 ^ 24 from rfl, ← Nat.pow_add, hb]
        rw [this]; exact hi
      obtain ⟨Q, hQ⟩ : ∃ Q, gn / 2 ^ (b + 1) = Q := ⟨_, rfl⟩
      obtain ⟨rr, hrr⟩ : ∃ rr, gn % 2 ^ (b + 1) = rr := ⟨_, rfl⟩
      have hgQ : gn = Q * 2 ^ (b + 1) + rr := by rw [hQ, hrr, Nat.mul_comm] at hdm; omega
      have hQi : (gn : Int) / 2 ^ (b + 1) = (Q : Int) := by rw [← hQ]; norm_cast
      have hQm : (Q : Int) * 2 ^ (b + 1) = ((Q * 2 ^ (b + 1) : Nat) : Int) := by norm_cast
      have hhi : (2 : Int) ^ b = ((2 ^ b : Nat) : Int) := by norm_cast
      rw [hrr] at hmod
      obtain ⟨c0, c1, c2, c3, c4⟩ := cmpR gn Q rr b a hgQ hmod
      rw [hQ] at hq1 hq2
      refine ⟨Q, ((p + 1 : Nat) : Int) + x - 24, a + (b + 1), by omega, by omega, by omega, Or.inr hq1, hq2, c3, c4, fun w => ?_⟩
      have hby : (((p + 1 : Nat) : Int) + x - 24 - x).toNat = b + 1 := by omega
      have hhf : (2 : Nat) ^ b < 18446744073709551616 := Nat.lt_of_lt_of_le (Nat.pow_lt_pow_right (by omega) (show b < 64 by omega)) (by decide)
      have hQW : Q * 2 ^ (b + 1) ≤ gn := by omega
      have hb1 : 1 ≤ 2 ^ b := Nat.two_pow_pos _
      rw [← hup _ _ _ Q rr (2 ^ b) c0 c1 c2, Int.natCast_add]
      refine rn_allA s n t v c x gn k ((p + 1 : Nat) : Int) _ (by omega) (by omega) hL hx0 hx1 hA (by omega) rfl (Q : Int) ((Q * 2 ^ (b + 1) : Nat) : Int) (rr : Int) ((2 ^ b : Nat) : Int) (by omega) (by omega) (by omega) (by omega) ?_ ?_ ?_ ?_ (by omega) HW w
      · rw [hby]; exact hQi
      · rw [hby, hQm]; exact wrap_small _ (by omega) (by omega)
      · rw [wrap_small _ (by omega) (by omega)]; omega
      · rw [hby, Nat.add_sub_cancel, hhi]; exact wrap_small _ (by omega) (by omega)
  · -- a small one
    by_cases hle : -149 ≤ x
    · -- exact
      obtain ⟨d, hd⟩ : ∃ d : Nat, (d : Int) = x + 149 := ⟨(x + 149).toNat, by omega⟩
      have hR2 : gn * 2 ^ d < 16777216 := by
        refine Nat.lt_of_lt_of_le (Nat.mul_lt_mul_of_pos_right hi (Nat.two_pow_pos _)) ?_
        rw [← Nat.pow_add, show (16777216 : Nat) = 2 ^ 24 from rfl]
        exact Nat.pow_le_pow_right (by omega) (by omega)
      have hgp := gp_eq
      have hV : gn * 2 ^ a = gn * 2 ^ d * 2 ^ gp := by rw [Nat.mul_assoc, ← Nat.pow_add, show d + gp = a from by omega]
      refine ⟨gn * 2 ^ d, -149, gp, by omega, by omega, by omega, Or.inl rfl, hR2, by rw [hV]; exact Nat.le_refl _, ?_, fun w => ?_⟩
      · rw [hV]; exact Nat.mul_lt_mul_of_pos_right (Nat.lt_succ_self _) (Nat.two_pow_pos _)
      · rw [tk_zero _ _ _ _ _ hV]
        have hsh : (gn : Int) * 2 ^ (x + 149).toNat = ((gn * 2 ^ d : Nat) : Int) := by
          rw [show (x + 149).toNat = d from by omega]; push_cast; rfl
        exact rnar_exactB s c x gn k _ (by omega) (by omega) hL hx0 hx1 hA (by omega) _ (by rw [hsh]; exact wrap_small _ (by omega) (by omega)) w
    · obtain ⟨b, hb⟩ : ∃ b : Nat, (b : Int) + 1 = -149 - x := ⟨(-149 - x - 1).toNat, by omega⟩
      have hdm := Nat.div_add_mod gn (2 ^ (b + 1))
      have hpb : 0 < 2 ^ (b + 1) := Nat.two_pow_pos _
      have hmod := Nat.mod_lt gn hpb
      have hq2 : gn / 2 ^ (b + 1) < 16777216 := by
        rw [Nat.div_lt_iff_lt_mul hpb]
        refine Nat.lt_of_lt_of_le hi ?_
        rw [show (16777216 : Nat) = 2 ^ 24 from rfl, ← Nat.pow_add]
        exact Nat.pow_le_pow_right (by omega) (by omega)
      obtain ⟨Q, hQ⟩ : ∃ Q, gn / 2 ^ (b + 1) = Q := ⟨_, rfl⟩
      obtain ⟨rr, hrr⟩ : ∃ rr, gn % 2 ^ (b + 1) = rr := ⟨_, rfl⟩
      have hgQ : gn = Q * 2 ^ (b + 1) + rr := by rw [hQ, hrr, Nat.mul_comm] at hdm; omega
      have hQi : (gn : Int) / 2 ^ (b + 1) = (Q : Int) := by rw [← hQ]; norm_cast
      have hQm : (Q : Int) * 2 ^ (b + 1) = ((Q * 2 ^ (b + 1) : Nat) : Int) := by norm_cast
      have hhi : (2 : Int) ^ b = ((2 ^ b : Nat) : Int) := by norm_cast
      rw [hrr] at hmod
      obtain ⟨c0, c1, c2, c3, c4⟩ := cmpR gn Q rr b a hgQ hmod
      rw [hQ] at hq2
      refine ⟨Q, -149, a + (b + 1), by omega, by omega, by omega, Or.inl rfl, hq2, c3, c4, fun w => ?_⟩
      have hQW : Q * 2 ^ (b + 1) ≤ gn := by omega
      have hb1 : 1 ≤ 2 ^ b := Nat.two_pow_pos _
      by_cases h60 : -149 - x ≤ 60
      · have hby : (-149 - x).toNat = b + 1 := by omega
        have hhf : (2 : Nat) ^ b < 18446744073709551616 := Nat.lt_of_lt_of_le (Nat.pow_lt_pow_right (by omega) (show b < 64 by omega)) (by decide)
        rw [← hup _ _ _ Q rr (2 ^ b) c0 c1 c2, Int.natCast_add]
        refine rn_allB s n t v c x gn k ((p + 1 : Nat) : Int) (by omega) (by omega) hL hx0 hx1 hA (Q : Int) ((Q * 2 ^ (b + 1) : Nat) : Int) (rr : Int) ((2 ^ b : Nat) : Int) (by omega) (by omega) (by omega) (by omega) ?_ ?_ ?_ ?_ (by omega) HW w
        · rw [hby]; exact hQi
        · rw [hby, hQm]; exact wrap_small _ (by omega) (by omega)
        · rw [wrap_small _ (by omega) (by omega)]; omega
        · rw [hby, Nat.add_sub_cancel, hhi]; exact wrap_small _ (by omega) (by omega)
      · -- far below
        have hbig : gn < 2 ^ b := by
          refine Nat.lt_of_lt_of_le hg ?_
          rw [show (9007199254740992 : Nat) = 2 ^ 53 from rfl]
          exact Nat.pow_le_pow_right (by omega) (by omega)
        have hbig2 : gn < 2 ^ (b + 1) := by rw [Nat.pow_succ]; omega
        have hQ0 : Q = 0 := by rw [← hQ]; exact Nat.div_eq_of_lt hbig2
        have hr0 : rr = gn := by rw [← hrr]; exact Nat.mod_eq_of_lt hbig2
        rw [← hup _ _ _ Q rr (2 ^ b) c0 c1 c2, hQ0, hr0]
        have hz : ((gn : Int) == 0) = false := bn (by omega)
        unfold upW
        rw [if_neg (by omega)]
        cases n
        · rw [if_neg (by decide)]
          cases v
          · exact rnar_farfB s t c x gn k _ (by omega) (by omega) hL hx0 hx1 hA (by omega) (by omega) hz HW w
          · exact rnar_fartB s t c x gn k _ (by omega) (by omega) hL hx0 hx1 hA (by omega) (by omega) hz HW w
        · rw [if_pos rfl, decide_eq_false (by omega), decide_eq_false (by omega)]
          exact rnar_farnB s t v c x gn k _ (by omega) (by omega) hL hx0 hx1 hA (by omega) (by omega) hz HW w
end Go.Proofs.Ytedknjiipmppgab
