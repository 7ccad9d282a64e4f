/- The walk of BitsBetween, its cases put together: at any two numbers it returns true and changes nothing that was there. -/
import Derived.Test.YtedknjiipmppgaaW16
import Derived.Test.YtedknjiipmppgaaBtA
import Derived.Test.YtedknjiipmppgaaBtB
import Derived.Test.YtedknjiipmppgaaBtC
import Derived.Test.YtedknjiipmppgaaBtD
import Derived.Test.YtedknjiipmppgaaBtE
namespace Go.Proofs.Ytedknjiipmppgaa
open Go.RowKit

theorem lt_yes (s t : Bool) (e f u v : Nat) (he : e < 2048) (hf : f < 4503599627370496) (hu : u < 2048) (hv : v < 4503599627370496) (h1 : odd e f = false) (h2 : odd u v = false) (h : pl s e f < pl t u v) : (FloatKind.f64.format.order (bw s e f) (bw t u v) == some .lt) = true := by
  rw [lt_f64 s t e f u v he hf hu hv, h1, h2, decide_eq_true h]; rfl
theorem lt_not (s t : Bool) (e f u v : Nat) (he : e < 2048) (hf : f < 4503599627370496) (hu : u < 2048) (hv : v < 4503599627370496) (h : odd e f = true ∨ odd u v = true ∨ ¬ pl s e f < pl t u v) : (FloatKind.f64.format.order (bw s e f) (bw t u v) == some .lt) = false := by
  rw [lt_f64 s t e f u v he hf hu hv]
  rcases h with h | h | h
  · rw [h]; rfl
  · rw [h]; cases odd e f <;> rfl
  · rw [decide_eq_false h]; cases odd e f <;> cases odd u v <;> rfl
theorem le_yes (s t : Bool) (e f u v : Nat) (he : e < 2048) (hf : f < 4503599627370496) (hu : u < 2048) (hv : v < 4503599627370496) (h1 : odd e f = false) (h2 : odd u v = false) (h : pl s e f ≤ pl t u v) : (FloatKind.f64.format.order (bw s e f) (bw t u v) == some .lt || FloatKind.f64.format.order (bw s e f) (bw t u v) == some .eq) = true := by
  rw [lt_f64 s t e f u v he hf hu hv, eq_f64 s t e f u v he hf hu hv, h1, h2]
  by_cases h3 : pl s e f < pl t u v
  · rw [decide_eq_true h3]; rfl
  · rw [decide_eq_false h3, decide_eq_true (show pl s e f = pl t u v by omega)]; rfl
theorem eq_yes (s : Bool) (e f : Nat) (he : e < 2048) (hf : f < 4503599627370496) (h1 : odd e f = false) : (FloatKind.f64.format.order (bw s e f) (bw s e f) == some .eq) = true := by
  rw [eq_f64 s s e f e f he hf he hf, h1, decide_eq_true rfl]; rfl
theorem eq_not (s t : Bool) (e f u v : Nat) (he : e < 2048) (hf : f < 4503599627370496) (hu : u < 2048) (hv : v < 4503599627370496) (h : pl s e f ≠ pl t u v) : (FloatKind.f64.format.order (bw s e f) (bw t u v) == some .eq) = false := by
  rw [eq_f64 s t e f u v he hf hu hv, decide_eq_false h]; cases odd e f <;> cases odd u v <;> rfl
theorem pl_bd (s : Bool) (e f : Nat) (he : e < 2048) (hf : f < 4503599627370496) (h1 : odd e f = false) : -9218868437227405312 ≤ pl s e f ∧ pl s e f ≤ 9218868437227405312 := by
  have := not_odd e f h1
  unfold pl sg; cases s <;> simp only [if_true, Bool.false_eq_true, if_false] <;> omega

theorem between_all (s t : Bool) (e f u v : Nat) (he : e < 2048) (hf : f < 4503599627370496) (hu : u < 2048) (hv : v < 4503599627370496) (w : World) :
    Calls Try.prog 8 #[.float .f64 (bw s e f), .float .f64 (bw t u v)] w fun r w' => r = .returned (.bool true) ∧ Below w.heap.size w w' := by
  have ox := order_self s e f he hf
  cases ho : odd e f
  · rw [ho] at ox
    have h0 := not_odd e f ho
    obtain ⟨tn, un, vn, hun, hvn, hon, hN, hpl, hplT, hback⟩ := nx_pl s e f he hf ho
    obtain ⟨tp, up, vp, hup, hvp, hop, hP, hpl2, hplT2, hback2⟩ := nx_pl (!s) e f he hf ho
    have H1 := next_any s e f he hf
    rw [hN] at H1
    have H2 := prev_even s e f he hf ho tp up vp hup hvp hP
    have H3 := isInf_pos s e f he hf
    have H4 := isInf_neg s e f he hf
    have H5 := sign_any s e f he hf
    obtain ⟨U, H8, _, hU⟩ := ulps_alike s e f he hf
    have z1 := eq_zero s e f he hf
    have pn := pl_not tp up vp
    have ps := pl_not s e f
    have bx := pl_bd s e f he hf ho
    by_cases h7 : e = 2047
    · have hf0 : f = 0 := by omega
      subst h7 hf0
      have hU2 : U = 9218868437227405312 := by
        rcases hU with ⟨a, _⟩ | ⟨_, _, b⟩ | ⟨a, _⟩
        · rw [ho] at a; cases a
        · exact b
        · omega
      subst hU2
      have H9 : ∀ w, Calls Try.prog 28 #[.float .f64 9218868437227405312, .int .i64 1] w fun r w' => r = .returned (.bool true) ∧ w' = w := isInf_pos false 2047 0 (by omega) (by omega)
      have z1' : (FloatKind.f64.format.order (bw s 2047 0) 0 == some .eq) = false := z1
      have z2' := bne_of_beq z1'
      cases s
      · -- the top
        have eN : pl tn un vn = pl false 2047 0 := hplT ⟨rfl, rfl⟩
        have eP : pl (!tp) up vp = pl false 2047 0 - 1 := by rw [pn, hpl2 (by simp), ps]; omega
        have xn := lt_not false tn 2047 0 un vn he hf hun hvn (Or.inr (Or.inr (by omega)))
        have px := lt_yes (!tp) false up vp 2047 0 hup hvp he hf hop ho (by omega)
        have H7 := next_any (!tp) up vp hup hvp
        rw [hback2 (by simp) (by simp), Bool.not_not] at H7
        by_cases hy : odd u v = false ∧ pl t u v < pl false 2047 0
        · exact bt_top_gt _ _ _ _ _ 0 0 0 0 0 ox (lt_not _ _ _ _ _ _ he hf hu hv (Or.inr (Or.inr (by omega)))) (lt_yes _ _ _ _ _ _ hu hv he hf hy.1 ho hy.2) (le_yes _ _ _ _ _ _ hu hv hup hvp hy.1 hop (by omega)) xn px z1' z2' H1 H2 H3 H4 H7 H8 H9 w
        · refine bt_top_no _ _ _ _ _ 0 0 0 0 0 ox ?_ ?_ xn px z1' z2' H1 H2 H3 H4 H7 H8 H9 w
          · refine lt_not _ _ _ _ _ _ he hf hu hv ?_
            cases hq : odd u v
            · right; right
              have := pl_bd t u v hu hv hq
              have e2 : pl false 2047 0 = 9218868437227405312 := rfl
              omega
            · exact Or.inr (Or.inl rfl)
          · refine lt_not _ _ _ _ _ _ hu hv he hf ?_
            cases hq : odd u v
            · right; right; exact fun h => hy ⟨hq, h⟩
            · exact Or.inl rfl
      · -- the bottom
        have eN : pl tn un vn = pl true 2047 0 + 1 := hpl (by simp)
        have eP : pl (!tp) up vp = pl true 2047 0 := by rw [pn, hplT2 ⟨rfl, rfl⟩, ps]; omega
        have xn := lt_yes true tn 2047 0 un vn he hf hun hvn ho hon (by omega)
        have px := lt_not (!tp) true up vp 2047 0 hup hvp he hf (Or.inr (Or.inr (by omega)))
        have hb := hback (by simp) (by simp)
        have H6 := prev_even tn un vn hun hvn hon (!true) 2047 0 he hf hb
        rw [Bool.not_not] at H6
        by_cases hy : odd u v = false ∧ pl true 2047 0 < pl t u v
        · exact bt_low_lt _ _ _ _ _ 0 0 0 0 0 ox (lt_yes _ _ _ _ _ _ he hf hu hv ho hy.1 hy.2) (le_yes _ _ _ _ _ _ hun hvn hu hv hon hy.1 (by omega)) (lt_not _ _ _ _ _ _ hu hv he hf (Or.inr (Or.inr (by omega)))) xn px z1' z2' H1 H2 H3 H4 H6 H8 H9 w
        · refine bt_low_no _ _ _ _ _ 0 0 0 0 0 ox ?_ ?_ xn px z1' z2' H1 H2 H3 H4 H6 H8 H9 w
          · refine lt_not _ _ _ _ _ _ he hf hu hv ?_
            cases hq : odd u v
            · right; right; exact fun h => hy ⟨hq, h⟩
            · exact Or.inr (Or.inl rfl)
          · refine lt_not _ _ _ _ _ _ hu hv he hf ?_
            cases hq : odd u v
            · right; right
              have := pl_bd t u v hu hv hq
              have e2 : pl true 2047 0 = -9218868437227405312 := rfl
              omega
            · exact Or.inl rfl
    · -- finite
      have hfin : e < 2047 := by omega
      have eN : pl tn un vn = pl s e f + 1 := hpl (by omega)
      have eP : pl (!tp) up vp = pl s e f - 1 := by rw [pn, hpl2 (by omega), ps]; omega
      have xn := lt_yes s tn e f un vn he hf hun hvn ho hon (by omega)
      have px := lt_yes (!tp) s up vp e f hup hvp he hf hop ho (by omega)
      have b7 : (e == 2047) = false := beq_eq_false_iff_ne.2 h7
      rw [b7, Bool.false_and, Bool.and_false] at H3 H4
      obtain ⟨u', v', hu', hv', rfl, hval⟩ : ∃ u' v', u' < 2047 ∧ v' < 4503599627370496 ∧ U = bw false u' v' ∧ val Ieee.double (u' * 4503599627370496 + v') = 1 * 2 ^ (e - 1) := by
        rcases hU with ⟨a, _⟩ | ⟨_, a, _⟩ | ⟨_, b⟩
        · rw [ho] at a; cases a
        · exact absurd a h7
        · exact b
      have H10 := abs_any s e f he hf
      have H11 := next_any false e f he hf
      have hUU := eq_yes false u' v' (by omega) hv' (odd_lt u' v' (by omega))
      -- how y stands to x
      have hy : (odd u v = false ∧ pl s e f < pl t u v) ∨ (odd u v = false ∧ pl t u v < pl s e f) ∨ (odd u v = true ∨ pl t u v = pl s e f) := by
        cases hq : odd u v
        · rcases Int.lt_trichotomy (pl s e f) (pl t u v) with h | h | h
          · exact Or.inl ⟨rfl, h⟩
          · exact Or.inr (Or.inr (Or.inr h.symm))
          · exact Or.inr (Or.inl ⟨rfl, h⟩)
        · exact Or.inr (Or.inr (Or.inl rfl))
      by_cases hmax : e = 2046 ∧ f = 4503599627370495
      · obtain ⟨rfl, rfl⟩ := hmax
        have hM : nx false 2046 4503599627370495 = bw false 2047 0 := by rw [nx_pos _ _ (by omega) (by omega), bw_inc0]
        rw [hM] at H11
        have d1 : ∀ w, (binOp .sub 25 (.float .f64 (bw false 2047 0)) (.float .f64 (bw false 2046 4503599627370495))).run Try.prog w = .ok (.float .f64 (bw false 2047 0)) w := by
          intro w
          refine run_float_arith w .sub _ .f64 _ _ _ ?_
          show Ieee.double.sub _ _ = _
          rw [bw_word, bw_word]
          have := sub_inf_num Ieee.double dHs dHb false false (2046 * 4503599627370496 + 4503599627370495) (by rw [dInf]; omega)
          rw [dInf] at this
          exact this
        have d2 := eq_not false false 2047 0 u' v' (by omega) (by omega) (by omega) hv' (by unfold pl sg; simp only [Bool.false_eq_true, if_false]; omega)
        have H12 : ∀ w, Calls Try.prog 28 #[.float .f64 (bw false 2047 0), .int .i64 1] w fun r w' => r = .returned (.bool true) ∧ w' = w := isInf_pos false 2047 0 (by omega) (by omega)
        have hQ : nx (!false) 2046 4503599627370495 = bw true 2046 4503599627370494 := by
          rw [Bool.not_false, nx_neg _ _ (odd_lt _ _ (by omega)) (by omega), bw_dec _ _ _ (by omega)]
        have H13 := prev_even false 2046 4503599627370495 (by omega) (by omega) (odd_lt _ _ (by omega)) true 2046 4503599627370494 (by omega) (by omega) hQ
        rw [Bool.not_true] at H13
        have d3 : ∀ w, (binOp .sub 25 (.float .f64 (bw false 2046 4503599627370495)) (.float .f64 (bw false 2046 4503599627370494))).run Try.prog w = .ok (.float .f64 (bw false u' v')) w := by
          intro w
          refine run_float_arith w .sub _ .f64 _ _ _ ?_
          show Ieee.double.sub _ _ = _
          rw [bw_word false 2046 4503599627370495, bw_word false 2046 4503599627370494]
          exact step_sub (2046 * 4503599627370496 + 4503599627370494) u' v' (by omega) hu' hv' (by
            rw [hval, show (2046 * 4503599627370496 + 4503599627370494) / 4503599627370496 - 1 = 2046 - 1 from by omega])
        have H6 := prev_even tn un vn hun hvn hon (!s) 2046 4503599627370495 he hf (hback (by omega) (by omega))
        rw [Bool.not_not] at H6
        have H7 := next_any (!tp) up vp hup hvp
        rw [hback2 (by omega) (by omega), Bool.not_not] at H7
        have z1' : (FloatKind.f64.format.order (bw s 2046 4503599627370495) 0 == some .eq) = false := z1
        have z2' := bne_of_beq z1'
        rcases hy with ⟨q1, q2⟩ | ⟨q1, q2⟩ | q
        · exact bt_max_lt _ _ _ _ _ _ _ _ _ _ ox (lt_yes _ _ _ _ _ _ he hf hu hv ho q1 q2) (le_yes _ _ _ _ _ _ hun hvn hu hv hon q1 (by omega)) (lt_not _ _ _ _ _ _ hu hv he hf (Or.inr (Or.inr (by omega)))) xn px z1' z2' H1 H2 H3 H4 H6 H7 H8 H10 H11 d1 d2 H12 H13 d3 hUU w
        · exact bt_max_gt _ _ _ _ _ _ _ _ _ _ ox (lt_not _ _ _ _ _ _ he hf hu hv (Or.inr (Or.inr (by omega)))) (lt_yes _ _ _ _ _ _ hu hv he hf q1 ho q2) (le_yes _ _ _ _ _ _ hu hv hup hvp q1 hop (by omega)) xn px z1' z2' H1 H2 H3 H4 H6 H7 H8 H10 H11 d1 d2 H12 H13 d3 hUU w
        · exact bt_max_no _ _ _ _ _ _ _ _ _ _ ox (lt_not _ _ _ _ _ _ he hf hu hv (by rcases q with q | q; exact Or.inr (Or.inl q); exact Or.inr (Or.inr (by omega)))) (lt_not _ _ _ _ _ _ hu hv he hf (by rcases q with q | q; exact Or.inl q; exact Or.inr (Or.inr (by omega)))) xn px z1' z2' H1 H2 H3 H4 H6 H7 H8 H10 H11 d1 d2 H12 H13 d3 hUU w
      · have hM : nx false e f = Ieee.double.word false (e * 4503599627370496 + f + 1) := by
          by_cases hz : e = 0 ∧ f = 0
          · obtain ⟨rfl, rfl⟩ := hz; rw [nx_zero]; rfl
          · rw [nx_pos e f hfin hz, bw_word]; unfold Ieee.Format.word; simp
        rw [hM] at H11
        have d1 : ∀ w, (binOp .sub 25 (.float .f64 (Ieee.double.word false (e * 4503599627370496 + f + 1))) (.float .f64 (bw false e f))).run Try.prog w = .ok (.float .f64 (bw false u' v')) w := by
          intro w
          refine run_float_arith w .sub _ .f64 _ _ _ ?_
          show Ieee.double.sub _ _ = _
          rw [bw_word false e f]
          exact step_sub (e * 4503599627370496 + f) u' v' (by omega) hu' hv' (by
            rw [hval, show (e * 4503599627370496 + f) / 4503599627370496 - 1 = e - 1 from by omega])
        by_cases hz : e = 0 ∧ f = 0
        · obtain ⟨rfl, rfl⟩ := hz
          have z1' : (FloatKind.f64.format.order (bw s 0 0) 0 == some .eq) = true := z1
          have z2' := bne_of_beq z1'
          cases s
          · have H6 := prev_even tn un vn hun hvn hon (!false) 0 0 he hf (hback (by omega) (by simp))
            rw [Bool.not_not] at H6
            rcases hy with ⟨q1, q2⟩ | ⟨q1, q2⟩ | q
            · exact bt_pz_lt _ _ _ _ _ _ _ _ 0 0 ox (lt_yes _ _ _ _ _ _ he hf hu hv ho q1 q2) (le_yes _ _ _ _ _ _ hun hvn hu hv hon q1 (by omega)) (lt_not _ _ _ _ _ _ hu hv he hf (Or.inr (Or.inr (by omega)))) xn px z1' z2' H1 H2 H3 H4 H5 H6 H8 H10 H11 d1 hUU w
            · exact bt_pz_gt _ _ _ _ _ _ _ _ 0 0 ox (lt_not _ _ _ _ _ _ he hf hu hv (Or.inr (Or.inr (by omega)))) (lt_yes _ _ _ _ _ _ hu hv he hf q1 ho q2) (le_yes _ _ _ _ _ _ hu hv hup hvp q1 hop (by omega)) xn px z1' z2' H1 H2 H3 H4 H5 H6 H8 H10 H11 d1 hUU w
            · exact bt_pz_no _ _ _ _ _ _ _ _ 0 0 ox (lt_not _ _ _ _ _ _ he hf hu hv (by rcases q with q | q; exact Or.inr (Or.inl q); exact Or.inr (Or.inr (by omega)))) (lt_not _ _ _ _ _ _ hu hv he hf (by rcases q with q | q; exact Or.inl q; exact Or.inr (Or.inr (by omega)))) xn px z1' z2' H1 H2 H3 H4 H5 H6 H8 H10 H11 d1 hUU w
          · have H7 := next_any (!tp) up vp hup hvp
            rw [hback2 (by omega) (by simp), Bool.not_not] at H7
            rcases hy with ⟨q1, q2⟩ | ⟨q1, q2⟩ | q
            · exact bt_nz_lt _ _ _ _ _ _ _ _ 0 0 ox (lt_yes _ _ _ _ _ _ he hf hu hv ho q1 q2) (le_yes _ _ _ _ _ _ hun hvn hu hv hon q1 (by omega)) (lt_not _ _ _ _ _ _ hu hv he hf (Or.inr (Or.inr (by omega)))) xn px z1' z2' H1 H2 H3 H4 H5 H7 H8 H10 H11 d1 hUU w
            · exact bt_nz_gt _ _ _ _ _ _ _ _ 0 0 ox (lt_not _ _ _ _ _ _ he hf hu hv (Or.inr (Or.inr (by omega)))) (lt_yes _ _ _ _ _ _ hu hv he hf q1 ho q2) (le_yes _ _ _ _ _ _ hu hv hup hvp q1 hop (by omega)) xn px z1' z2' H1 H2 H3 H4 H5 H7 H8 H10 H11 d1 hUU w
            · exact bt_nz_no _ _ _ _ _ _ _ _ 0 0 ox (lt_not _ _ _ _ _ _ he hf hu hv (by rcases q with q | q; exact Or.inr (Or.inl q); exact Or.inr (Or.inr (by omega)))) (lt_not _ _ _ _ _ _ hu hv he hf (by rcases q with q | q; exact Or.inl q; exact Or.inr (Or.inr (by omega)))) xn px z1' z2' H1 H2 H3 H4 H5 H7 H8 H10 H11 d1 hUU w
        · have z1' : (FloatKind.f64.format.order (bw s e f) 0 == some .eq) = false := by
            rw [z1, Bool.eq_false_iff]; simpa using hz
          have z2' := bne_of_beq z1'
          have H6 := prev_even tn un vn hun hvn hon (!s) e f he hf (hback (by omega) (by omega))
          rw [Bool.not_not] at H6
          have H7 := next_any (!tp) up vp hup hvp
          rw [hback2 (by omega) (by omega), Bool.not_not] at H7
          rcases hy with ⟨q1, q2⟩ | ⟨q1, q2⟩ | q
          · exact bt_fin_lt _ _ _ _ _ _ _ _ 0 0 ox (lt_yes _ _ _ _ _ _ he hf hu hv ho q1 q2) (le_yes _ _ _ _ _ _ hun hvn hu hv hon q1 (by omega)) (lt_not _ _ _ _ _ _ hu hv he hf (Or.inr (Or.inr (by omega)))) xn px z1' z2' H1 H2 H3 H4 H6 H7 H8 H10 H11 d1 hUU w
          · exact bt_fin_gt _ _ _ _ _ _ _ _ 0 0 ox (lt_not _ _ _ _ _ _ he hf hu hv (Or.inr (Or.inr (by omega)))) (lt_yes _ _ _ _ _ _ hu hv he hf q1 ho q2) (le_yes _ _ _ _ _ _ hu hv hup hvp q1 hop (by omega)) xn px z1' z2' H1 H2 H3 H4 H6 H7 H8 H10 H11 d1 hUU w
          · exact bt_fin_no _ _ _ _ _ _ _ _ 0 0 ox (lt_not _ _ _ _ _ _ he hf hu hv (by rcases q with q | q; exact Or.inr (Or.inl q); exact Or.inr (Or.inr (by omega)))) (lt_not _ _ _ _ _ _ hu hv he hf (by rcases q with q | q; exact Or.inl q; exact Or.inr (Or.inr (by omega)))) xn px z1' z2' H1 H2 H3 H4 H6 H7 H8 H10 H11 d1 hUU w
  · rw [ho] at ox
    exact bt_odd _ _ ox (next_odd s e f he hf ho) (prev_odd s e f he hf ho) (ulp_odd s e f he hf ho) w

theorem between_wf64 {b : Nat} (h : (Lit.float .f64 b).wf = true) : b < 18446744073709551616 := by
  simpa [Lit.wf] using h

theorem walk_BitsBetween (a b : Nat) (ha : (Lit.float .f64 a).wf = true) (hb : (Lit.float .f64 b).wf = true) (w : World) :
    Calls Try.prog 8 #[.float .f64 a, .float .f64 b] w fun r w' => r = .returned (.bool true) ∧ Below w.heap.size w w' := by
  obtain ⟨s, e, f, he, hf, rfl⟩ := bw_of a (between_wf64 ha)
  obtain ⟨t, u, v, hu, hv, rfl⟩ := bw_of b (between_wf64 hb)
  exact between_all s t e f u v he hf hu hv w
end Go.Proofs.Ytedknjiipmppgaa
