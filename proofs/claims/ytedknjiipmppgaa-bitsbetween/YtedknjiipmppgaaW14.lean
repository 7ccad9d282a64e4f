/- What the document's Next, Less and Prev answer, at every number: the same as Next and Prev. -/
import Derived.Test.YtedknjiipmppgaaW13
namespace Go.Proofs.Ytedknjiipmppgaa
open Go.RowKit
attribute [local go_sem] f64bits f64frombits

theorem beqf {a b : Int} (h : a ≠ b) : (a == b) = false := beq_eq_false_iff_ne.2 h
theorem beqt {a b : Int} (h : a = b) : (a == b) = true := beq_iff_eq.2 h

theorem nx_odd (s : Bool) (e f : Nat) (h : odd e f = true) : nx s e f = 9221120237041090560 := if_pos (is_odd e f h)
theorem nx_top (e f : Nat) (h : odd e f = false) (he : e = 2047) : nx false e f = bw false e f := by
  unfold nx; rw [if_neg (not_odd e f h), if_pos ⟨rfl, he⟩]
theorem nx_zero (s : Bool) : nx s 0 0 = 1 := by
  unfold nx; rw [if_neg (by omega), if_neg (by omega), if_pos ⟨rfl, rfl⟩]
theorem nx_neg (e f : Nat) (h : odd e f = false) (hz : ¬ (e = 0 ∧ f = 0)) : nx true e f = bw true e f - 1 := by
  unfold nx; rw [if_neg (not_odd e f h), if_neg (by simp), if_neg hz, if_pos rfl]
theorem nx_pos (e f : Nat) (he : e < 2047) (hz : ¬ (e = 0 ∧ f = 0)) : nx false e f = bw false e f + 1 := by
  unfold nx; rw [if_neg (by omega), if_neg (by omega), if_neg hz, if_neg (by simp)]

theorem bw_dec0 (e : Nat) (he : 1 ≤ e) : bw true e 0 - 1 = bw true (e - 1) 4503599627370495 := by
  unfold bw; simp only [Bool.toNat_true]; omega
theorem bw_dec (s : Bool) (e f : Nat) (hf : 1 ≤ f) : bw s e f - 1 = bw s e (f - 1) := by
  unfold bw; omega
theorem bw_inc (s : Bool) (e f : Nat) : bw s e f + 1 = bw s e (f + 1) := by
  unfold bw; omega
theorem bw_inc0 (s : Bool) (e : Nat) : bw s e 4503599627370495 + 1 = bw s (e + 1) 0 := by
  unfold bw; omega

/-- the next of a number that is no NaN is no NaN. -/
theorem nx_bw (s : Bool) (e f : Nat) (he : e < 2048) (hf : f < 4503599627370496) (ho : odd e f = false) : ∃ t u v, u < 2048 ∧ v < 4503599627370496 ∧ odd u v = false ∧ nx s e f = bw t u v := by
  have h0 := not_odd e f ho
  by_cases hz : e = 0 ∧ f = 0
  · obtain ⟨rfl, rfl⟩ := hz
    exact ⟨false, 0, 1, by omega, by omega, odd_lt 0 1 (by omega), nx_zero s⟩
  · cases s
    · by_cases h1 : e = 2047
      · exact ⟨false, e, f, he, hf, ho, nx_top e f ho h1⟩
      · rw [nx_pos e f (by omega) hz]
        by_cases h2 : f = 4503599627370495
        · subst h2
          refine ⟨false, e + 1, 0, by omega, by omega, odd_zero _, bw_inc0 false e⟩
        · exact ⟨false, e, f + 1, he, by omega, odd_lt e _ (by omega), bw_inc false e f⟩
    · rw [nx_neg e f ho hz]
      by_cases h2 : f = 0
      · subst h2
        exact ⟨true, e - 1, 4503599627370495, by omega, by omega, odd_lt _ _ (by omega), bw_dec0 e (by omega)⟩
      · refine ⟨true, e, f - 1, he, by omega, odd_lt e _ (by omega), bw_dec true e f (by omega)⟩

theorem rsp_small (s : Bool) (f : Nat) (h0 : 0 < f) (hf : f < 4503599627370496) : ∀ w, Calls Try.prog 13 #[.float .f64 (bw s 0 f)] w fun r w' => r = .returned (.agg #[.bool s, .int .i64 1, .int .i64 (-1074), .int .u64 f]) ∧ Below w.heap.size w w' := by
  intro w; rw [← splitV_small s 0 f rfl (by simp; omega)]; exact rSplit_any s 0 f (by omega) hf w
theorem rsp_plain (s : Bool) (e f : Nat) (h0 : 0 < e) (he : e < 2047) (hf : f < 4503599627370496) : ∀ w, Calls Try.prog 13 #[.float .f64 (bw s e f)] w fun r w' => r = .returned (.agg #[.bool s, .int .i64 2, .int .i64 ((e : Int) - 1075), .int .u64 ((f : Int) + 4503599627370496)]) ∧ Below w.heap.size w w' := by
  intro w; rw [← splitV_plain s e f (by omega) (by omega)]; exact rSplit_any s e f (by omega) hf w
theorem rsp_nought (s : Bool) : ∀ w, Calls Try.prog 13 #[.float .f64 (bw s 0 0)] w fun r w' => r = .returned (.agg #[.bool s, .int .i64 0, .int .i64 (-1074), .int .u64 0]) ∧ Below w.heap.size w w' := by
  intro w; rw [← splitV_nought s 0 0 rfl (by simp)]; exact rSplit_any s 0 0 (by omega) (by omega) w
theorem rsp_odd (s : Bool) (e f : Nat) (he : e < 2048) (hf : f < 4503599627370496) (h : odd e f = true) : ∀ w, Calls Try.prog 13 #[.float .f64 (bw s e f)] w fun r w' => r = .returned (.agg #[.bool false, .int .i64 4, .int .i64 0, .int .u64 0]) ∧ Below w.heap.size w w' := by
  intro w; rw [← splitV_odd s e f (is_odd e f h).1 (by simp [(is_odd e f h).2])]; exact rSplit_any s e f he hf w

/-- Make, its fraction and power as whole numbers. -/
theorem mk_int (neg : Bool) (g x : Int) (e f : Nat) (hg0 : 0 ≤ g) (hg : g < 9007199254740992) (hx0 : -1074 ≤ x) (hx1 : x ≤ 971) (he : e < 2047) (hf : f < 4503599627370496)
    (hv : val Ieee.double (e * 4503599627370496 + f) = g.toNat * 2 ^ (x + 1074).toNat) :
    ∀ w, Calls Try.prog 40 #[.bool neg, .int .u64 g, .int .i64 x] w fun r w' => r = .returned (.tuple #[.float .f64 (bw neg e f), .bool true]) ∧ w' = w := by
  intro w
  have := make_is neg g.toNat x e f (by omega) hx0 hx1 he hf hv w
  rwa [Int.toNat_of_nonneg hg0] at this
theorem vp (e f : Nat) (g x : Int) (h0 : 0 < e) (hf : f < 4503599627370496) (hg : g = (f : Int) + 4503599627370496) (hx : x = (e : Int) - 1075) : val Ieee.double (e * 4503599627370496 + f) = g.toNat * 2 ^ (x + 1074).toNat := by
  have h1 : g.toNat = f + 4503599627370496 := by omega
  rw [h1, hx]; exact val_plain e f h0 hf
theorem vs (f : Nat) (g : Int) (hf : f < 4503599627370496) (hg : g = (f : Int)) : val Ieee.double (0 * 4503599627370496 + f) = g.toNat * 2 ^ ((-1074 : Int) + 1074).toNat := by
  have h1 : g.toNat = f := by omega
  rw [h1]; exact val_small f hf

theorem rnext_any (s : Bool) (e f : Nat) (he : e < 2048) (hf : f < 4503599627370496) (w : World) :
    Calls Try.prog 23 #[.float .f64 (bw s e f)] w fun r w' => r = .returned (.float .f64 (nx s e f)) ∧ Below w.heap.size w w' := by
  cases ho : odd e f
  · have h0 := not_odd e f ho
    by_cases hz : e = 0 ∧ f = 0
    · obtain ⟨rfl, rfl⟩ := hz
      rw [nx_zero]
      exact rn_zero _ _ s _ _ (rsp_nought s) (mk_int false 1 (-1074) 0 1 (by omega) (by omega) (by omega) (by omega) (by omega) (by omega) (vs 1 1 (by omega) rfl)) w
    · by_cases h7 : e = 2047
      · have hf0 : f = 0 := by omega
        subst h7 hf0
        cases s
        · rw [nx_top 2047 0 ho rfl]
          have hB := rBits_any false 2047 0 (by omega) (by omega)
          rw [cb_else false 2047 0 (by omega)] at hB
          exact rn_top _ _ _ _ (rSplit_end false) hB w
        · rw [nx_neg 2047 0 ho (by omega), bw_dec0 2047 (by omega)]
          exact rn_low _ _ _ _ (rSplit_end true) (mk_int true 9007199254740991 971 2046 4503599627370495 (by omega) (by omega) (by omega) (by omega) (by omega) (by omega) (vp 2046 4503599627370495 _ _ (by omega) (by omega) rfl rfl)) w
      · by_cases h8 : e = 0
        · subst h8
          cases s
          · rw [nx_pos 0 f (by omega) hz]
            by_cases h2 : f = 4503599627370495
            · subst h2
              rw [bw_inc0 false 0]
              exact rn_pos_in _ _ 1 (-1074) _ rfl rfl rfl (by omega) (by omega) (by omega) (by omega) rfl (rsp_small false 4503599627370495 (by omega) (by omega)) (mk_int false _ (-1074) 1 0 (by omega) (by omega) (by omega) (by omega) (by omega) (by omega) (vp 1 0 _ _ (by omega) (by omega) rfl rfl)) w
            · rw [bw_inc false 0 f]
              exact rn_pos_in _ _ 1 (-1074) _ rfl rfl rfl (by omega) (by omega) (by omega) (by omega) (beqf (by omega)) (rsp_small false f (by omega) hf) (mk_int false _ (-1074) 0 (f + 1) (by omega) (by omega) (by omega) (by omega) (by omega) (by omega) (vs (f + 1) _ (by omega) (by omega))) w
          · rw [nx_neg 0 f ho hz, bw_dec true 0 f (by omega)]
            exact rn_neg_in _ _ 1 (-1074) _ rfl rfl rfl (by omega) (by omega) (by omega) (by omega) (by omega) (beqf (by omega)) (rsp_small true f (by omega) hf) (mk_int true _ (-1074) 0 (f - 1) (by omega) (by omega) (by omega) (by omega) (by omega) (by omega) (vs (f - 1) _ (by omega) (by omega))) w
        · cases s
          · rw [nx_pos e f (by omega) hz]
            by_cases h2 : f = 4503599627370495
            · subst h2
              rw [bw_inc0 false e]
              by_cases h9 : e = 2046
              · subst h9
                exact rn_pos_top _ 2 _ rfl rfl rfl (by omega) (by omega) rfl (rsp_plain false 2046 4503599627370495 (by omega) (by omega) (by omega)) w
              · exact rn_pos_edge _ _ 2 ((e : Int) - 1075) _ rfl rfl rfl (by omega) (by omega) (by omega) (by omega) rfl (beqf (by omega)) (rsp_plain false e 4503599627370495 (by omega) (by omega) (by omega)) (mk_int false 4503599627370496 _ (e + 1) 0 (by omega) (by omega) (by omega) (by omega) (by omega) (by omega) (vp (e + 1) 0 _ _ (by omega) (by omega) rfl (by omega))) w
            · rw [bw_inc false e f]
              exact rn_pos_in _ _ 2 ((e : Int) - 1075) _ rfl rfl rfl (by omega) (by omega) (by omega) (by omega) (beqf (by omega)) (rsp_plain false e f (by omega) (by omega) hf) (mk_int false _ _ e (f + 1) (by omega) (by omega) (by omega) (by omega) (by omega) (by omega) (vp e (f + 1) _ _ (by omega) (by omega) (by omega) rfl)) w
          · rw [nx_neg e f ho hz]
            by_cases h2 : f = 0
            · subst h2
              rw [bw_dec0 e (by omega)]
              by_cases h9 : e = 1
              · subst h9
                exact rn_neg_least _ _ 2 _ rfl rfl rfl (by omega) (by omega) (by omega) rfl (rsp_plain true 1 0 (by omega) (by omega) (by omega)) (mk_int true _ (-1074) 0 4503599627370495 (by omega) (by omega) (by omega) (by omega) (by omega) (by omega) (vs 4503599627370495 _ (by omega) rfl)) w
              · exact rn_neg_edge _ _ 2 ((e : Int) - 1075) _ rfl rfl rfl (by omega) (by omega) (by omega) (by omega) rfl (by omega) (rsp_plain true e 0 (by omega) (by omega) (by omega)) (mk_int true 9007199254740991 _ (e - 1) 4503599627370495 (by omega) (by omega) (by omega) (by omega) (by omega) (by omega) (vp (e - 1) 4503599627370495 _ _ (by omega) (by omega) rfl (by omega))) w
            · rw [bw_dec true e f (by omega)]
              exact rn_neg_in _ _ 2 ((e : Int) - 1075) _ rfl rfl rfl (by omega) (by omega) (by omega) (by omega) (by omega) (beqf (by omega)) (rsp_plain true e f (by omega) (by omega) hf) (mk_int true _ _ e (f - 1) (by omega) (by omega) (by omega) (by omega) (by omega) (by omega) (vp e (f - 1) _ _ (by omega) (by omega) (by omega) rfl)) w
  · rw [nx_odd s e f ho]
    have hB := rBits_any s e f he hf
    rw [cb_odd s e f (is_odd e f ho)] at hB
    exact rn_odd _ _ false _ _ (rsp_odd s e f he hf ho) hB w
end Go.Proofs.Ytedknjiipmppgaa
