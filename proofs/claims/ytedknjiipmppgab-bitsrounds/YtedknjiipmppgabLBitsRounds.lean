/- The walk of BitsRounds, its cases put together: at any number it returns true and changes nothing that was there. -/
import Derived.Test.YtedknjiipmppgabR3
import Derived.Test.YtedknjiipmppgabRdN
import Derived.Test.YtedknjiipmppgabRdS
import Derived.Test.YtedknjiipmppgabRdpl
import Derived.Test.YtedknjiipmppgabRdph
import Derived.Test.YtedknjiipmppgabRdnl
import Derived.Test.YtedknjiipmppgabRdnh
namespace Go.Proofs.Ytedknjiipmppgab
open Go.RowKit

theorem bne_b {a b : Option Ordering} {c : Bool} (h : (a == b) = c) : (a != b) = !c := by rw [← h]; rfl

/-- where all modes answer one number, which is x. -/
theorem rd_same_all (X Y : Nat) (hx : (FloatKind.f64.format.order X X == some .eq) = true)
    (N : ∀ k : Int, 0 ≤ k → k ≤ 4 → ∀ w, Calls Try.prog 12 #[.float .f64 X, .int .i64 k] w fun r w' => r = .returned (.tuple #[.float .f32 Y, .int .i64 0]) ∧ Below w.heap.size w w')
    (D : ∀ w, Calls Try.prog 15 #[.float .f32 Y] w fun r w' => r = .returned (.float .f64 X) ∧ w' = w) (w : World) :
    Calls Try.prog 7 #[.float .f64 X] w fun r w' => r = .returned (.bool true) ∧ Below w.heap.size w w' := by
  have l : (FloatKind.f64.format.order X X == some .lt || FloatKind.f64.format.order X X == some .eq) = true := by rw [hx, Bool.or_true]
  exact rd_same X Y Y Y Y Y X X X X X (N 0 (by omega) (by omega)) D (N 1 (by omega) (by omega)) D (N 2 (by omega) (by omega)) D (N 3 (by omega) (by omega)) D (N 4 (by omega) (by omega)) D (bne_b hx) l l hx hx hx hx hx w

theorem tk_mid2 (V LO HI q : Nat) (h : V ≠ LO) : (LO + HI < 2 * V → tkS V LO HI q 2 = true) ∧ (2 * V < LO + HI → tkS V LO HI q 2 = false) := by
  constructor
  · intro h1; unfold tkS; rw [if_neg h, if_neg (by decide), if_pos rfl, decide_eq_true h1]; rfl
  · intro h1; unfold tkS; rw [if_neg h, if_neg (by decide), if_pos rfl, decide_eq_false (by omega), decide_eq_false (by omega)]; rfl
theorem tk_mid3 (V LO HI q : Nat) (h : V ≠ LO) : (LO + HI < 2 * V → tkS V LO HI q 3 = true) ∧ (2 * V < LO + HI → tkS V LO HI q 3 = false) := by
  constructor
  · intro h1; unfold tkS; rw [if_neg h, if_neg (by decide), if_neg (by decide), if_pos rfl, decide_eq_true (by omega)]
  · intro h1; unfold tkS; rw [if_neg h, if_neg (by decide), if_neg (by decide), if_pos rfl, decide_eq_false (by omega)]
theorem tk_out (V LO HI q : Nat) (h : V ≠ LO) : tkS V LO HI q 1 = true := by unfold tkS; rw [if_neg h, if_pos rfl]
theorem tk_inn (V LO HI q : Nat) : tkS V LO HI q 0 = false := by
  unfold tkS; split
  · rfl
  · rw [if_neg (by decide), if_neg (by decide), if_neg (by decide)]

theorem w32x (s : Bool) (r : Nat) : Ieee.single.word s r = if s then 2147483648 + r else r := by unfold Ieee.Format.word; rw [sSign]

/-- the outer neighbour is not the inner one; x lies between. -/
theorem out_facts (s : Bool) (e f q e0 f0 e1 f1 : Nat) (he : e < 2047) (hf : f < 4503599627370496) (he0 : e0 < 2047) (hf0 : f0 < 4503599627370496) (he1 : e1 < 2047) (hf1 : f1 < 4503599627370496)
    (h0 : val Ieee.double (e0 * 4503599627370496 + f0) = val Ieee.single q * 2 ^ gp) (h1 : val Ieee.double (e1 * 4503599627370496 + f1) = val Ieee.single (q + 1) * 2 ^ gp)
    (hV : q = 2139095039 ∨ val Ieee.double (e * 4503599627370496 + f) < val Ieee.single (q + 1) * 2 ^ gp) :
    (FloatKind.f64.format.order (outB s q e1 f1) (outB s q e1 f1) == some .eq) = true ∧
    (FloatKind.f64.format.order (bw s e0 f0) (outB s q e1 f1) == some .eq) = false ∧ (FloatKind.f64.format.order (outB s q e1 f1) (bw s e0 f0) == some .eq) = false ∧
    (if s then (FloatKind.f64.format.order (outB s q e1 f1) (bw s e f) == some .lt) = true else (FloatKind.f64.format.order (bw s e f) (outB s q e1 f1) == some .lt) = true) := by
  have hlt : val Ieee.double (e0 * 4503599627370496 + f0) < val Ieee.double (e1 * 4503599627370496 + f1) := by
    rw [h0, h1]; exact Nat.mul_lt_mul_of_pos_right (val_lt_succ _ _) (Nat.two_pow_pos _)
  unfold outB
  by_cases h : q = 2139095039
  · rw [if_pos h]
    have ho : odd 2047 0 = false := rfl
    refine ⟨self_eq s 2047 0 (by omega) (by omega) ho, ?_, ?_, ?_⟩
    · rw [eq_f64 s s e0 f0 2047 0 (by omega) hf0 (by omega) (by omega), decide_eq_false (by unfold pl sg; cases s <;> simp <;> omega)]
      cases odd e0 f0 <;> rfl
    · rw [eq_f64 s s 2047 0 e0 f0 (by omega) (by omega) (by omega) hf0, decide_eq_false (by unfold pl sg; cases s <;> simp <;> omega)]
      cases odd e0 f0 <;> rfl
    · cases s
      · rw [if_neg (by decide), lt_f64 false false e f 2047 0 (by omega) hf (by omega) (by omega), odd_lt e f he, ho, decide_eq_true (by unfold pl sg; simp; omega)]; rfl
      · rw [if_pos rfl, lt_f64 true true 2047 0 e f (by omega) (by omega) (by omega) hf, odd_lt e f he, ho, decide_eq_true (by unfold pl sg; simp; omega)]; rfl
  · rw [if_neg h]
    refine ⟨self_eq s e1 f1 (by omega) hf1 (odd_lt _ _ (by omega)), ?_, ?_, ?_⟩
    · rw [eq_sv s e0 f0 e1 f1 he0 hf0 he1 hf1]; exact decide_eq_false (Nat.ne_of_lt hlt)
    · rw [eq_sv s e1 f1 e0 f0 he1 hf1 he0 hf0]; exact decide_eq_false (Nat.ne_of_gt hlt)
    · have hV2 : val Ieee.double (e * 4503599627370496 + f) < val Ieee.double (e1 * 4503599627370496 + f1) := by
        rw [h1]; rcases hV with hV | hV
        · exact absurd hV h
        · exact hV
      cases s
      · rw [if_neg (by decide), lt_sv false e f e1 f1 he hf he1 hf1, if_neg (by decide)]; exact decide_eq_true hV2
      · rw [if_pos rfl, lt_sv true e1 f1 e f he1 hf1 he hf, if_pos rfl]; exact decide_eq_true hV2

/-- between two neighbours, above nought. -/
theorem rd_p_all (e f q : Nat) (he : e < 2047) (hf : f < 4503599627370496) (hp : 0 < e * 4503599627370496 + f) (hq : Floor (val Ieee.double (e * 4503599627370496 + f)) q) (hV : val Ieee.double (e * 4503599627370496 + f) ≠ val Ieee.single q * 2 ^ gp) (w : World) :
    Calls Try.prog 7 #[.float .f64 (bw false e f)] w fun r w' => r = .returned (.bool true) ∧ Below w.heap.size w w' := by
  have hqb := hq.1
  obtain ⟨e0, f0, he0, hf0, h0⟩ := up_exists q (by omega)
  obtain ⟨e1, f1, he1, hf1, h1⟩ := up_exists (q + 1) (by omega)
  have ho := odd_lt e f he
  have ox := order_self false e f (by omega) hf
  rw [ho] at ox
  obtain ⟨fOO, fIO, fOI, fX⟩ := out_facts false e f q e0 f0 e1 f1 he hf he0 hf0 he1 hf1 h0 h1 hq.2.2
  have fII := self_eq false e0 f0 (by omega) hf0 (odd_lt _ _ (by omega))
  have hzz : (e == 0 && f == 0) = false := by
    rw [Bool.eq_false_iff]; simp; omega
  have xz := lt_zero false e f (by omega) hf ho hzz
  have DI := wid_is false q e0 f0 hqb he0 hf0 h0
  have DO := wid_out false q e1 f1 hqb he1 hf1 h1
  have N0 := narrow_fin false e f q 0 he hf hp (by omega) (by omega) hq
  have N1 := narrow_fin false e f q 1 he hf hp (by omega) (by omega) hq
  have N2 := narrow_fin false e f q 2 he hf hp (by omega) (by omega) hq
  have N3 := narrow_fin false e f q 3 he hf hp (by omega) (by omega) hq
  have N4 := narrow_fin false e f q 4 he hf hp (by omega) (by omega) hq
  have k2 := tk_mid2 _ _ (val Ieee.single (q + 1) * 2 ^ gp) q hV
  have k3 := tk_mid3 _ _ (val Ieee.single (q + 1) * 2 ^ gp) q hV
  have HN0 := near_p e f q e0 f0 e1 f1 _ he hf hqb he0 hf0 he1 hf1 h0 h1 k2.1 k2.2
  have HN4 := near_p e f q e0 f0 e1 f1 _ he hf hqb he0 hf0 he1 hf1 h0 h1 k3.1 k3.2
  have hlt0 : val Ieee.double (e0 * 4503599627370496 + f0) < val Ieee.double (e * 4503599627370496 + f) := by
    rw [h0]; exact Nat.lt_of_le_of_ne hq.2.1 (Ne.symm hV)
  have fx0 : (FloatKind.f64.format.order (bw false e0 f0) (bw false e f) == some .lt) = true := by
    rw [lt_sv false e0 f0 e f he0 hf0 he hf, if_neg (by decide)]; exact decide_eq_true hlt0
  rw [if_neg (by decide)] at fX
  have t1 : nr (val Ieee.double (e * 4503599627370496 + f)) q 1 false = q := by unfold nr; rw [show wayS 1 false = 0 from rfl, tk_inn]; rfl
  have t2 : nr (val Ieee.double (e * 4503599627370496 + f)) q 2 false = q + 1 := by unfold nr; rw [show wayS 2 false = 1 from rfl, tk_out _ _ _ _ hV]; rfl
  have t3 : nr (val Ieee.double (e * 4503599627370496 + f)) q 3 false = q := by unfold nr; rw [show wayS 3 false = 0 from rfl, tk_inn]; rfl
  rw [t1] at N1
  rw [t2] at N2
  rw [t3] at N3
  have hy0 : Ieee.single.word false q = q := by rw [w32x]; rfl
  have hy1 : Ieee.single.word false (q + 1) = q + 1 := by rw [w32x]; rfl
  unfold nr at N0 N4
  rw [show wayS 0 false = 2 from rfl] at N0
  rw [show wayS 4 false = 3 from rfl] at N4
  cases ht0 : tkS (val Ieee.double (e * 4503599627370496 + f)) (val Ieee.single q * 2 ^ gp) (val Ieee.single (q + 1) * 2 ^ gp) q 2 <;> cases ht4 : tkS (val Ieee.double (e * 4503599627370496 + f)) (val Ieee.single q * 2 ^ gp) (val Ieee.single (q + 1) * 2 ^ gp) q 3
  · rw [ht0] at N0 HN0
    rw [ht4] at N4 HN4
    exact rd_pll (bw false e f) (Ieee.single.word false q) (Ieee.single.word false q) (Ieee.single.word false (q + 1)) (Ieee.single.word false q) (Ieee.single.word false q) (bw false e0 f0) (bw false e0 f0) (outB false q e1 f1) (bw false e0 f0) (bw false e0 f0) N0 DI N1 DI N2 DO N3 DI N4 DI ox (by rw [fx0]; rfl) (by rw [fX]; rfl) fIO (by rw [hy1]; omega) (by rw [hy0]; omega) (beq_iff_eq.2 (by rw [hy0, hy1]; omega)) xz fII (bne_b fII) (bne_b fII) (bne_b fOI) (bne_b fOO) (bne_b fII) (bne_b fII) HN0 HN4 w
  · rw [ht0] at N0 HN0
    rw [ht4] at N4 HN4
    exact rd_plh (bw false e f) (Ieee.single.word false q) (Ieee.single.word false q) (Ieee.single.word false (q + 1)) (Ieee.single.word false q) (Ieee.single.word false (q + 1)) (bw false e0 f0) (bw false e0 f0) (outB false q e1 f1) (bw false e0 f0) (outB false q e1 f1) N0 DI N1 DI N2 DO N3 DI N4 DO ox (by rw [fx0]; rfl) (by rw [fX]; rfl) fIO (by rw [hy1]; omega) (by rw [hy0]; omega) (beq_iff_eq.2 (by rw [hy0, hy1]; omega)) xz fII (bne_b fII) (bne_b fII) (bne_b fOI) (bne_b fOO) (bne_b fII) (bne_b fOI) (bne_b fOO) HN0 HN4 w
  · rw [ht0] at N0 HN0
    rw [ht4] at N4 HN4
    exact rd_phl (bw false e f) (Ieee.single.word false (q + 1)) (Ieee.single.word false q) (Ieee.single.word false (q + 1)) (Ieee.single.word false q) (Ieee.single.word false q) (outB false q e1 f1) (bw false e0 f0) (outB false q e1 f1) (bw false e0 f0) (bw false e0 f0) N0 DO N1 DI N2 DO N3 DI N4 DI ox (by rw [fx0]; rfl) (by rw [fX]; rfl) fIO (by rw [hy1]; omega) (by rw [hy0]; omega) (beq_iff_eq.2 (by rw [hy0, hy1]; omega)) xz fII (bne_b fOI) (bne_b fOO) (bne_b fII) (bne_b fOI) (bne_b fOO) (bne_b fII) (bne_b fII) HN0 HN4 w
  · rw [ht0] at N0 HN0
    rw [ht4] at N4 HN4
    exact rd_phh (bw false e f) (Ieee.single.word false (q + 1)) (Ieee.single.word false q) (Ieee.single.word false (q + 1)) (Ieee.single.word false q) (Ieee.single.word false (q + 1)) (outB false q e1 f1) (bw false e0 f0) (outB false q e1 f1) (bw false e0 f0) (outB false q e1 f1) N0 DO N1 DI N2 DO N3 DI N4 DO ox (by rw [fx0]; rfl) (by rw [fX]; rfl) fIO (by rw [hy1]; omega) (by rw [hy0]; omega) (beq_iff_eq.2 (by rw [hy0, hy1]; omega)) xz fII (bne_b fOI) (bne_b fOO) (bne_b fII) (bne_b fOI) (bne_b fOO) (bne_b fII) (bne_b fOI) (bne_b fOO) HN0 HN4 w

/-- between two neighbours, below nought. -/
theorem rd_n_all (e f q : Nat) (he : e < 2047) (hf : f < 4503599627370496) (hp : 0 < e * 4503599627370496 + f) (hq : Floor (val Ieee.double (e * 4503599627370496 + f)) q) (hV : val Ieee.double (e * 4503599627370496 + f) ≠ val Ieee.single q * 2 ^ gp) (w : World) :
    Calls Try.prog 7 #[.float .f64 (bw true e f)] w fun r w' => r = .returned (.bool true) ∧ Below w.heap.size w w' := by
  have hqb := hq.1
  obtain ⟨e0, f0, he0, hf0, h0⟩ := up_exists q (by omega)
  obtain ⟨e1, f1, he1, hf1, h1⟩ := up_exists (q + 1) (by omega)
  have ho := odd_lt e f he
  have ox := order_self true e f (by omega) hf
  rw [ho] at ox
  obtain ⟨fOO, fIO, fOI, fX⟩ := out_facts true e f q e0 f0 e1 f1 he hf he0 hf0 he1 hf1 h0 h1 hq.2.2
  have fII := self_eq true e0 f0 (by omega) hf0 (odd_lt _ _ (by omega))
  have hzz : (e == 0 && f == 0) = false := by
    rw [Bool.eq_false_iff]; simp; omega
  have xz := lt_zero true e f (by omega) hf ho hzz
  have DI := wid_is true q e0 f0 hqb he0 hf0 h0
  have DO := wid_out true q e1 f1 hqb he1 hf1 h1
  have N0 := narrow_fin true e f q 0 he hf hp (by omega) (by omega) hq
  have N1 := narrow_fin true e f q 1 he hf hp (by omega) (by omega) hq
  have N2 := narrow_fin true e f q 2 he hf hp (by omega) (by omega) hq
  have N3 := narrow_fin true e f q 3 he hf hp (by omega) (by omega) hq
  have N4 := narrow_fin true e f q 4 he hf hp (by omega) (by omega) hq
  have k2 := tk_mid2 _ _ (val Ieee.single (q + 1) * 2 ^ gp) q hV
  have k3 := tk_mid3 _ _ (val Ieee.single (q + 1) * 2 ^ gp) q hV
  have HN0 := near_m e f q e0 f0 e1 f1 _ he hf hqb he0 hf0 he1 hf1 h0 h1 k2.1 k2.2
  have HN4 := near_m e f q e0 f0 e1 f1 _ he hf hqb he0 hf0 he1 hf1 h0 h1 k3.1 k3.2
  have hlt0 : val Ieee.double (e0 * 4503599627370496 + f0) < val Ieee.double (e * 4503599627370496 + f) := by
    rw [h0]; exact Nat.lt_of_le_of_ne hq.2.1 (Ne.symm hV)
  have fx0 : (FloatKind.f64.format.order (bw true e f) (bw true e0 f0) == some .lt) = true := by
    rw [lt_sv true e f e0 f0 he hf he0 hf0, if_pos rfl]; exact decide_eq_true hlt0
  rw [if_pos rfl] at fX
  have t1 : nr (val Ieee.double (e * 4503599627370496 + f)) q 1 true = q := by unfold nr; rw [show wayS 1 true = 0 from rfl, tk_inn]; rfl
  have t2 : nr (val Ieee.double (e * 4503599627370496 + f)) q 2 true = q := by unfold nr; rw [show wayS 2 true = 0 from rfl, tk_inn]; rfl
  have t3 : nr (val Ieee.double (e * 4503599627370496 + f)) q 3 true = q + 1 := by unfold nr; rw [show wayS 3 true = 1 from rfl, tk_out _ _ _ _ hV]; rfl
  rw [t1] at N1
  rw [t2] at N2
  rw [t3] at N3
  have hy0 : Ieee.single.word true q = 2147483648 + q := by rw [w32x]; rfl
  have hy1 : Ieee.single.word true (q + 1) = 2147483648 + (q + 1) := by rw [w32x]; rfl
  unfold nr at N0 N4
  rw [show wayS 0 true = 2 from rfl] at N0
  rw [show wayS 4 true = 3 from rfl] at N4
  cases ht0 : tkS (val Ieee.double (e * 4503599627370496 + f)) (val Ieee.single q * 2 ^ gp) (val Ieee.single (q + 1) * 2 ^ gp) q 2 <;> cases ht4 : tkS (val Ieee.double (e * 4503599627370496 + f)) (val Ieee.single q * 2 ^ gp) (val Ieee.single (q + 1) * 2 ^ gp) q 3
  · rw [ht0] at N0 HN0
    rw [ht4] at N4 HN4
    exact rd_nhh (bw true e f) (Ieee.single.word true q) (Ieee.single.word true q) (Ieee.single.word true q) (Ieee.single.word true (q + 1)) (Ieee.single.word true q) (bw true e0 f0) (bw true e0 f0) (bw true e0 f0) (outB true q e1 f1) (bw true e0 f0) N0 DI N1 DI N2 DI N3 DO N4 DI ox (by rw [fX]; rfl) (by rw [fx0]; rfl) fOI (by rw [hy0]; omega) (by rw [hy1]; omega) (beq_eq_false_iff_ne.2 (by rw [hy0, hy1]; omega)) (beq_iff_eq.2 (by rw [hy0, hy1]; omega)) xz fII (bne_b fIO) (bne_b fII) (bne_b fIO) (bne_b fII) (bne_b fIO) (bne_b fII) (bne_b fOO) (bne_b fIO) (bne_b fII) HN0 HN4 w
  · rw [ht0] at N0 HN0
    rw [ht4] at N4 HN4
    exact rd_nhl (bw true e f) (Ieee.single.word true q) (Ieee.single.word true q) (Ieee.single.word true q) (Ieee.single.word true (q + 1)) (Ieee.single.word true (q + 1)) (bw true e0 f0) (bw true e0 f0) (bw true e0 f0) (outB true q e1 f1) (outB true q e1 f1) N0 DI N1 DI N2 DI N3 DO N4 DO ox (by rw [fX]; rfl) (by rw [fx0]; rfl) fOI (by rw [hy0]; omega) (by rw [hy1]; omega) (beq_eq_false_iff_ne.2 (by rw [hy0, hy1]; omega)) (beq_iff_eq.2 (by rw [hy0, hy1]; omega)) xz fII (bne_b fIO) (bne_b fII) (bne_b fIO) (bne_b fII) (bne_b fIO) (bne_b fII) (bne_b fOO) (bne_b fOO) HN0 HN4 w
  · rw [ht0] at N0 HN0
    rw [ht4] at N4 HN4
    exact rd_nlh (bw true e f) (Ieee.single.word true (q + 1)) (Ieee.single.word true q) (Ieee.single.word true q) (Ieee.single.word true (q + 1)) (Ieee.single.word true q) (outB true q e1 f1) (bw true e0 f0) (bw true e0 f0) (outB true q e1 f1) (bw true e0 f0) N0 DO N1 DI N2 DI N3 DO N4 DI ox (by rw [fX]; rfl) (by rw [fx0]; rfl) fOI (by rw [hy0]; omega) (by rw [hy1]; omega) (beq_eq_false_iff_ne.2 (by rw [hy0, hy1]; omega)) (beq_iff_eq.2 (by rw [hy0, hy1]; omega)) xz fII (bne_b fOO) (bne_b fIO) (bne_b fII) (bne_b fIO) (bne_b fII) (bne_b fOO) (bne_b fIO) (bne_b fII) HN0 HN4 w
  · rw [ht0] at N0 HN0
    rw [ht4] at N4 HN4
    exact rd_nll (bw true e f) (Ieee.single.word true (q + 1)) (Ieee.single.word true q) (Ieee.single.word true q) (Ieee.single.word true (q + 1)) (Ieee.single.word true (q + 1)) (outB true q e1 f1) (bw true e0 f0) (bw true e0 f0) (outB true q e1 f1) (outB true q e1 f1) N0 DO N1 DI N2 DI N3 DO N4 DO ox (by rw [fX]; rfl) (by rw [fx0]; rfl) fOI (by rw [hy0]; omega) (by rw [hy1]; omega) (beq_eq_false_iff_ne.2 (by rw [hy0, hy1]; omega)) (beq_iff_eq.2 (by rw [hy0, hy1]; omega)) xz fII (bne_b fOO) (bne_b fIO) (bne_b fII) (bne_b fIO) (bne_b fII) (bne_b fOO) (bne_b fOO) HN0 HN4 w

theorem rounds_all (s : Bool) (e f : Nat) (he : e < 2048) (hf : f < 4503599627370496) (w : World) :
    Calls Try.prog 7 #[.float .f64 (bw s e f)] w fun r w' => r = .returned (.bool true) ∧ Below w.heap.size w w' := by
  cases ho : odd e f
  · have hno := not_odd e f ho
    have hx := self_eq s e f he hf ho
    by_cases h7 : e = 2047
    · have hf0 : f = 0 := by omega
      subst h7 hf0
      exact rd_same_all _ _ hx (fun k k0 k4 => narrow_end s k k0 k4) (wid_end s) w
    · by_cases hz : e * 4503599627370496 + f = 0
      · have he0 : e = 0 := by omega
        have hf0 : f = 0 := by omega
        subst he0 hf0
        exact rd_same_all _ _ hx (fun k k0 k4 => narrow_zero s k k0 k4) (wid_is s 0 0 0 (by omega) (by omega) (by omega) (by rw [val_zero, val_zero, Nat.zero_mul])) w
      · obtain ⟨q, hq, _⟩ := inner_is e f (by omega) hf (by omega)
        by_cases hV : val Ieee.double (e * 4503599627370496 + f) = val Ieee.single q * 2 ^ gp
        · refine rd_same_all _ (Ieee.single.word s q) hx (fun k k0 k4 => ?_) (wid_is s q e f hq.1 (by omega) hf hV) w
          exact narrow_back s q e f k hq.1 (by omega) hf hV k0 k4
        · cases s
          · exact rd_p_all e f q (by omega) hf (by omega) hq hV w
          · exact rd_n_all e f q (by omega) hf (by omega) hq hV w
  · have ox := order_self s e f he hf
    rw [ho] at ox
    have ow : (FloatKind.f64.format.order 9221120237041090560 9221120237041090560 != some .eq) = true := order_self false 2047 2251799813685248 (by omega) (by omega)
    have D : ∀ w, Calls Try.prog 15 #[.float .f32 2143289344] w fun r w' => r = .returned (.float .f64 9221120237041090560) ∧ w' = w := widen_odd false 255 4194304 (by omega) rfl
    have N := fun k k0 k4 => narrow_odd s e f k he hf ho k0 k4
    exact rd_nan _ _ _ _ _ _ _ _ _ _ _ (N 0 (by omega) (by omega)) D (N 1 (by omega) (by omega)) D (N 2 (by omega) (by omega)) D (N 3 (by omega) (by omega)) D (N 4 (by omega) (by omega)) D ox ow ow ow ow ow w

theorem rounds_wf64 {b : Nat} (h : (Lit.float .f64 b).wf = true) : b < 18446744073709551616 := by
  simpa [Lit.wf] using h

theorem walk_BitsRounds (a : Nat) (ha : (Lit.float .f64 a).wf = true) (w : World) :
    Calls Try.prog 7 #[.float .f64 a] w fun r w' => r = .returned (.bool true) ∧ Below w.heap.size w w' := by
  obtain ⟨s, e, f, he, hf, rfl⟩ := bw_of a (rounds_wf64 ha)
  exact rounds_all s e f he hf w
end Go.Proofs.Ytedknjiipmppgab
