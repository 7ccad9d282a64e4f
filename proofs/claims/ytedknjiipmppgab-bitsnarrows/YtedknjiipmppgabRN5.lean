/- The document's Narrow at every number and every mode. -/
import Derived.Test.YtedknjiipmppgabRN4
import Derived.Test.YtedknjiipmppgabW9
namespace Go.Proofs.Ytedknjiipmppgab
open Go.RowKit

theorem tk_par (V LO HI p q : Nat) (y : Int) (h : p % 2 = q % 2) : tkS V LO HI p y = tkS V LO HI q y := by unfold tkS; rw [h]
theorem tk_in (V LO HI q : Nat) : tkS V LO HI q 0 = false := by
  unfold tkS; split
  · rfl
  · rw [if_neg (by decide), if_neg (by decide), if_neg (by decide)]
theorem tk_far (V LO HI q : Nat) (y : Int) (hy : y = 0 ∨ y = 1 ∨ y = 2 ∨ y = 3) (h1 : LO < HI) (h2 : HI ≤ V) : tkS V LO HI q y = !(y == 0) := by
  rcases hy with rfl | rfl | rfl | rfl
  · exact tk_in V LO HI q
  · unfold tkS; rw [if_neg (by omega), if_pos rfl]; rfl
  · unfold tkS; rw [if_neg (by omega), if_neg (by decide), if_pos rfl, decide_eq_true (by omega)]; rfl
  · unfold tkS; rw [if_neg (by omega), if_neg (by decide), if_neg (by decide), if_pos rfl, decide_eq_true (by omega)]; rfl

theorem w32 (s : Bool) (r : Nat) : Ieee.single.word s r = if s then 2147483648 + r else r := by unfold Ieee.Format.word; rw [sSign]

theorem rnw_fin (s : Bool) (X gn : Nat) (c k x : Int) (h0 : 0 < gn) (hg : gn < 9007199254740992) (hx0 : -1074 ≤ x) (hx1 : x ≤ 971) (k0 : 0 ≤ k) (k4 : k ≤ 4)
    (c4 : (c == 4) = false) (c3 : (c == 3) = false) (c0 : (c == 0) = false)
    (H0 : ∀ w, Calls Try.prog 35 #[.float .f64 X] w fun r w' => r = .returned (.agg #[.bool s, .int .i64 c, .int .i64 x, .int .u64 (gn : Int)]) ∧ Below w.heap.size w w') :
    ∃ q, Floor (gn * 2 ^ (x + 1074).toNat) q ∧ ∀ w, Calls Try.prog 13 #[.float .f64 X, .int .i64 k] w fun r w' => r = .returned (.tuple #[.float .f32 (Ieee.single.word s (nr (gn * 2 ^ (x + 1074).toNat) q k s)), .int .i64 0]) ∧ Below w.heap.size w w' := by
  obtain ⟨Q, st, T, hT, s0, s1, hj, hQ, hlo, hhi, H1⟩ := rnarrow_is s c k x gn h0 hg hx0 hx1 k0 k4
  obtain ⟨n, t, v, HW, _, hnv⟩ := ways_is k s k0 k4
  generalize gn * 2 ^ (x + 1074).toNat = V at *
  obtain ⟨j, hjs⟩ : ∃ j : Nat, (j : Int) = st + 149 := ⟨(st + 149).toNat, by omega⟩
  have hTj : T = j + gp := by have := gp_eq; omega
  have hj2 : j = 0 ∨ 8388608 ≤ Q := by omega
  have v0 : val Ieee.single (j * 8388608 + Q) * 2 ^ gp = Q * 2 ^ T := by
    have := val_at Ieee.single j Q (by rw [sBin]; exact hj2) (by rw [sBin]; omega)
    rw [sBin] at this
    rw [this, Nat.mul_assoc, ← Nat.pow_add, hTj]
  have v1 : val Ieee.single (j * 8388608 + Q + 1) * 2 ^ gp = (Q + 1) * 2 ^ T := by
    have := val_at Ieee.single j (Q + 1) (by rw [sBin]; omega) (by rw [sBin]; omega)
    rw [sBin] at this
    rw [Nat.add_assoc, this, Nat.mul_assoc, ← Nat.pow_add, hTj]
  by_cases hb : st ≤ 104
  · have hR : j * 8388608 + Q ≤ 2139095039 := by omega
    refine ⟨j * 8388608 + Q, ⟨hR, by rw [v0]; exact hlo, Or.inr (by rw [v1]; exact hhi)⟩, ?_⟩
    unfold nr
    rw [v0, v1, tk_par V _ _ (j * 8388608 + Q) Q _ (by omega)]
    have hin := tk_in V (Q * 2 ^ T) ((Q + 1) * 2 ^ T) Q
    cases hu : tkS V (Q * 2 ^ T) ((Q + 1) * 2 ^ T) Q (wayS k s)
    · rw [hu] at H1
      simp only [Bool.toNat_false, Nat.add_zero] at H1 ⊢
      by_cases h1 : Q < 8388608
      · have hj0 : j = 0 := by omega
        cases s
        · have hw : Ieee.single.word false (j * 8388608 + Q) = (Q : Int).toNat := by rw [w32, if_neg (by decide)]; omega
          rw [hw]
          exact rnw_sub_f X k k0 k4 c x gn Q st c4 c3 c0 (by omega) s0 H0 H1 (bn (by omega)) (by omega) (by omega)
        · have hw : Ieee.single.word true (j * 8388608 + Q) = (2147483648 + (Q : Int)).toNat := by rw [w32, if_pos rfl]; omega
          rw [hw]
          exact rnw_sub_t X k k0 k4 c x gn Q st c4 c3 c0 (by omega) s0 H0 H1 (bn (by omega)) (by omega) (by omega)
      · cases s
        · have hw : Ieee.single.word false (j * 8388608 + Q) = ((st + 150) * 8388608 + (Q : Int) - 8388608).toNat := by rw [w32, if_neg (by decide)]; omega
          rw [hw]
          exact rnw_nrm_f X k k0 k4 c x gn Q st c4 c3 c0 (by omega) s0 H0 H1 (bn (by omega)) hb (by omega) (by omega)
        · have hw : Ieee.single.word true (j * 8388608 + Q) = (2147483648 + (st + 150) * 8388608 + (Q : Int) - 8388608).toNat := by rw [w32, if_pos rfl]; omega
          rw [hw]
          exact rnw_nrm_t X k k0 k4 c x gn Q st c4 c3 c0 (by omega) s0 H0 H1 (bn (by omega)) hb (by omega) (by omega)
    · rw [hu] at H1
      simp only [Bool.toNat_true] at H1 ⊢
      by_cases h1 : Q + 1 < 8388608
      · have hj0 : j = 0 := by omega
        cases s
        · have hw : Ieee.single.word false (j * 8388608 + Q + 1) = ((Q + 1 : Nat) : Int).toNat := by rw [w32, if_neg (by decide)]; omega
          rw [hw]
          exact rnw_sub_f X k k0 k4 c x gn ((Q + 1 : Nat) : Int) st c4 c3 c0 (by omega) s0 H0 H1 (bn (by omega)) (by omega) (by omega)
        · have hw : Ieee.single.word true (j * 8388608 + Q + 1) = (2147483648 + ((Q + 1 : Nat) : Int)).toNat := by rw [w32, if_pos rfl]; omega
          rw [hw]
          exact rnw_sub_t X k k0 k4 c x gn ((Q + 1 : Nat) : Int) st c4 c3 c0 (by omega) s0 H0 H1 (bn (by omega)) (by omega) (by omega)
      · by_cases h2 : Q + 1 = 16777216
        · rw [h2] at H1
          by_cases h3 : st + 1 ≤ 104
          · cases s
            · have hw : Ieee.single.word false (j * 8388608 + Q + 1) = ((st + 1 + 150) * 8388608).toNat := by rw [w32, if_neg (by decide)]; omega
              rw [hw]
              exact rnw_car_f X k k0 k4 c x gn _ st c4 c3 c0 (by omega) s0 H0 H1 rfl h3
            · have hw : Ieee.single.word true (j * 8388608 + Q + 1) = (2147483648 + (st + 1 + 150) * 8388608).toNat := by rw [w32, if_pos rfl]; omega
              rw [hw]
              exact rnw_car_t X k k0 k4 c x gn _ st c4 c3 c0 (by omega) s0 H0 H1 rfl h3
          · have hway : (n || v) = true := by
              rw [hnv]
              cases hz : (wayS k s == 0)
              · rfl
              · have hz2 : wayS k s = 0 := by simpa using hz
                rw [hz2, hin] at hu; cases hu
            have hr : j * 8388608 + Q + 1 = 2139095040 := by omega
            rw [hr]
            cases hn : n
            · rw [hn] at hway HW
              cases s
              · exact rnw_bigc_away_f X false t v k k0 k4 c x gn _ st c4 c3 c0 (by omega) s0 H0 H1 s1 rfl (by omega) rfl (by simpa using hway) HW
              · exact rnw_bigc_away_t X false t v k k0 k4 c x gn _ st c4 c3 c0 (by omega) s0 H0 H1 s1 rfl (by omega) rfl (by simpa using hway) HW
            · rw [hn] at HW
              cases s
              · exact rnw_bigc_near_f X true t v k k0 k4 c x gn _ st c4 c3 c0 (by omega) s0 H0 H1 s1 rfl (by omega) rfl HW
              · exact rnw_bigc_near_t X true t v k k0 k4 c x gn _ st c4 c3 c0 (by omega) s0 H0 H1 s1 rfl (by omega) rfl HW
        · cases s
          · have hw : Ieee.single.word false (j * 8388608 + Q + 1) = ((st + 150) * 8388608 + ((Q + 1 : Nat) : Int) - 8388608).toNat := by rw [w32, if_neg (by decide)]; omega
            rw [hw]
            exact rnw_nrm_f X k k0 k4 c x gn _ st c4 c3 c0 (by omega) s0 H0 H1 (bn (by omega)) hb (by omega) (by omega)
          · have hw : Ieee.single.word true (j * 8388608 + Q + 1) = (2147483648 + (st + 150) * 8388608 + ((Q + 1 : Nat) : Int) - 8388608).toNat := by rw [w32, if_pos rfl]; omega
            rw [hw]
            exact rnw_nrm_t X k k0 k4 c x gn _ st c4 c3 c0 (by omega) s0 H0 H1 (bn (by omega)) hb (by omega) (by omega)
  · -- beyond the greatest
    have hbig : val Ieee.single (2139095039 + 1) * 2 ^ gp ≤ V := by
      refine Nat.le_trans ?_ hlo
      rw [← v0]
      refine Nat.mul_le_mul_right _ ?_
      by_cases he : 2139095039 + 1 = j * 8388608 + Q
      · rw [he]; exact Nat.le_refl _
      · exact Nat.le_of_lt (val_lt Ieee.single (by omega))
    have hmx : val Ieee.single 2139095039 * 2 ^ gp < val Ieee.single (2139095039 + 1) * 2 ^ gp := Nat.mul_lt_mul_of_pos_right (val_lt_succ _ _) (Nat.two_pow_pos _)
    refine ⟨2139095039, ⟨Nat.le_refl _, by omega, Or.inl rfl⟩, ?_⟩
    unfold nr
    rw [tk_far V _ _ 2139095039 _ (wayS_in k s) hmx hbig, ← hnv]
    -- with or without a carry
    generalize hq : (Q + (tkS V (Q * 2 ^ T) ((Q + 1) * 2 ^ T) Q (wayS k s)).toNat : Nat) = q at H1
    have hqq : 0 ≤ (q : Int) := by omega
    cases hn : n
    · rw [hn] at HW
      cases hv : v
      · rw [hv] at HW
        by_cases hc : q = 16777216
        · cases s
          · exact rnw_bigc_stay_f X false t false k k0 k4 c x gn q st c4 c3 c0 hqq s0 H0 H1 s1 (bq (by omega)) (by omega) rfl rfl HW
          · exact rnw_bigc_stay_t X false t false k k0 k4 c x gn q st c4 c3 c0 hqq s0 H0 H1 s1 (bq (by omega)) (by omega) rfl rfl HW
        · cases s
          · exact rnw_big_stay_f X false t false k k0 k4 c x gn q st c4 c3 c0 hqq s0 H0 H1 s1 (bn (by omega)) (by omega) rfl rfl HW
          · exact rnw_big_stay_t X false t false k k0 k4 c x gn q st c4 c3 c0 hqq s0 H0 H1 s1 (bn (by omega)) (by omega) rfl rfl HW
      · rw [hv] at HW
        by_cases hc : q = 16777216
        · cases s
          · exact rnw_bigc_away_f X false t true k k0 k4 c x gn q st c4 c3 c0 hqq s0 H0 H1 s1 (bq (by omega)) (by omega) rfl rfl HW
          · exact rnw_bigc_away_t X false t true k k0 k4 c x gn q st c4 c3 c0 hqq s0 H0 H1 s1 (bq (by omega)) (by omega) rfl rfl HW
        · cases s
          · exact rnw_big_away_f X false t true k k0 k4 c x gn q st c4 c3 c0 hqq s0 H0 H1 s1 (bn (by omega)) (by omega) rfl rfl HW
          · exact rnw_big_away_t X false t true k k0 k4 c x gn q st c4 c3 c0 hqq s0 H0 H1 s1 (bn (by omega)) (by omega) rfl rfl HW
    · rw [hn] at HW
      rw [Bool.true_or]
      by_cases hc : q = 16777216
      · cases s
        · exact rnw_bigc_near_f X true t v k k0 k4 c x gn q st c4 c3 c0 hqq s0 H0 H1 s1 (bq (by omega)) (by omega) rfl HW
        · exact rnw_bigc_near_t X true t v k k0 k4 c x gn q st c4 c3 c0 hqq s0 H0 H1 s1 (bq (by omega)) (by omega) rfl HW
      · cases s
        · exact rnw_big_near_f X true t v k k0 k4 c x gn q st c4 c3 c0 hqq s0 H0 H1 s1 (bn (by omega)) (by omega) rfl HW
        · exact rnw_big_near_t X true t v k k0 k4 c x gn q st c4 c3 c0 hqq s0 H0 H1 s1 (bn (by omega)) (by omega) rfl HW
end Go.Proofs.Ytedknjiipmppgab
