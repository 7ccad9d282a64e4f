/- Rows of numbers: what with and merged do to a row, in plain terms. -/
import Derived.Test.YteoednbmhiblfaaDoorH12x
import Derived.Test.YteoednbmhiblfaaDoorD24x
import Derived.Test.YteoednbmhiblfaaDoorN1x
import Derived.Test.YteoednbmhiblfaaDoorD7x
namespace Go.Proofs.YteoednbmhiblfaaDoor
open Go.RowKit
set_option linter.unusedVariables false
set_option maxRecDepth 20000
set_option linter.unusedSimpArgs false

/-- Is it a nought? -/
def noW (x : Nat) : Bool := magW x == 0
def andN (x : Nat) : List Nat := if noW x then [] else [x]
/-- The row with x in its sum. -/
def withL : List Nat → Nat → List Nat
  | [], x => andN x
  | y :: ys, x => andN (sumP x y).2 ++ withL ys (sumP x y).1
def fvL : List Nat → Int
  | [] => 0
  | x :: xs => fvW x + fvL xs
def avL : List Nat → Nat
  | [] => 0
  | x :: xs => (fvW x).natAbs + avL xs
def FinL (L : List Nat) : Prop := ∀ x ∈ L, Wd x ∧ finW x

theorem FinL.nil : FinL [] := fun x h => by simp at h
theorem FinL.head {x : Nat} {L : List Nat} (h : FinL (x :: L)) : Wd x ∧ finW x := h x (by simp)
theorem FinL.tail {x : Nat} {L : List Nat} (h : FinL (x :: L)) : FinL L := fun y hy => h y (by simp [hy])
theorem FinL.append {A B : List Nat} (h : FinL A) (k : FinL B) : FinL (A ++ B) := fun x hx => by
  rcases List.mem_append.1 hx with q | q
  · exact h x q
  · exact k x q
theorem fvL_append (A B : List Nat) : fvL (A ++ B) = fvL A + fvL B := by
  induction A with
  | nil => simp [fvL]
  | cons x A ih => simp only [List.cons_append, fvL, ih]; omega
theorem avL_append (A B : List Nat) : avL (A ++ B) = avL A + avL B := by
  induction A with
  | nil => simp [avL]
  | cons x A ih => simp only [List.cons_append, avL, ih]; omega
theorem vK_zero : vK 0 = 0 := by
  have := vK_word 0 0 (.inl rfl) (by omega)
  simpa using this
theorem fv_no {x : Nat} (h : noW x = true) : fvW x = 0 := by
  have e : magW x = 0 := by simpa [noW] using h
  unfold fvW
  rw [e, vK_zero]
  cases negW x <;> rfl
theorem andN_ok (x : Nat) (h : Wd x ∧ finW x) : FinL (andN x) ∧ fvL (andN x) = fvW x ∧ avL (andN x) ≤ (fvW x).natAbs ∧ (andN x).length ≤ 1 := by
  unfold andN
  cases hn : noW x
  · rw [if_neg (by decide)]
    refine ⟨fun y hy => ?_, by simp [fvL], by simp [avL], by simp⟩
    simp at hy; subst hy; exact h
  · rw [if_pos rfl]
    exact ⟨FinL.nil, by rw [fv_no hn]; rfl, by simp [avL], by simp⟩

/-- A step's growth: both together are at most a little greater than what was put together. -/
theorem sum_grows {a b : Nat} (ha : Wd a ∧ finW a) (hb : Wd b ∧ finW b) {G : Nat} (hab : (fvW a).natAbs + (fvW b).natAbs ≤ 4503599627370496 * G) (hG : 4503599627370496 * G ≤ QQ) :
    TwoP (sumP a b) (fvW a + fvW b) ∧ (fvW (sumP a b).1).natAbs + (fvW (sumP a b).2).natAbs ≤ (fvW a).natAbs + (fvW b).natAbs + G := by
  have t := sum_two ha.1 hb.1 ha.2 hb.2 (by omega) (by omega)
  refine ⟨t, ?_⟩
  have r := (pl_fin ha.1 hb.1 ha.2 hb.2 (by have := Q_pos; omega)).2.rel
  have e := t.val
  have e1 : (sumP a b).1 = plW a b := rfl
  rw [e1] at e ⊢
  generalize fvW (plW a b) = s at *
  generalize fvW (sumP a b).2 = l at *
  generalize fvW a = x at *
  generalize fvW b = y at *
  have e2 : s - (x + y) = -l := by omega
  rw [e2] at r
  have e3 : (-l).natAbs = l.natAbs := Int.natAbs_neg l
  rw [e3] at r
  omega

theorem with_ok (G : Nat) (hG : 4503599627370496 * G ≤ QQ) : ∀ (L : List Nat) (x : Nat), FinL L → Wd x ∧ finW x → avL L + (fvW x).natAbs + L.length * G ≤ 4503599627370496 * G →
    FinL (withL L x) ∧ fvL (withL L x) = fvL L + fvW x ∧ avL (withL L x) ≤ avL L + (fvW x).natAbs + L.length * G ∧ (withL L x).length ≤ L.length + 1 := by
  intro L
  induction L with
  | nil =>
    intro x _ hx _
    obtain ⟨h1, h2, h3, h4⟩ := andN_ok x hx
    refine ⟨h1, ?_, ?_, ?_⟩
    · show fvL (andN x) = _
      rw [h2]; simp [fvL]
    · show avL (andN x) ≤ _
      simp [avL]; omega
    · show (andN x).length ≤ _
      simp; omega
  | cons y ys ih =>
    intro x hL hx hb
    have hy := hL.head
    simp only [avL, List.length_cons] at hb
    rw [Nat.add_mul, Nat.one_mul] at hb
    obtain ⟨t, hg⟩ := sum_grows hx hy (G := G) (by omega) hG
    obtain ⟨h1, h2, h3, h4⟩ := ih (sumP x y).1 hL.tail ⟨t.w1, t.f1⟩ (by omega)
    obtain ⟨k1, k2, k3, k4⟩ := andN_ok (sumP x y).2 ⟨t.w2, t.f2⟩
    show FinL (andN (sumP x y).2 ++ withL ys (sumP x y).1) ∧ fvL (andN (sumP x y).2 ++ withL ys (sumP x y).1) = _ ∧ avL (andN (sumP x y).2 ++ withL ys (sumP x y).1) ≤ _ ∧ (andN (sumP x y).2 ++ withL ys (sumP x y).1).length ≤ _
    refine ⟨k1.append h1, ?_, ?_, ?_⟩
    · rw [fvL_append, k2, h2]
      have := t.val
      simp only [fvL]
      omega
    · rw [avL_append]
      simp only [avL, List.length_cons]
      rw [Nat.add_mul, Nat.one_mul]
      omega
    · rw [List.length_append, List.length_cons]
      omega

/-- The unit of growth: 2^926. -/
def EG : Nat := 2000
theorem exG : ∃ q : Nat, q = 2 ^ EG := ⟨_, rfl⟩
noncomputable def GG : Nat := Classical.choose exG
theorem G_eq : GG = 2 ^ EG := Classical.choose_spec exG
theorem G_Q : 4503599627370496 * GG ≤ QQ := by
  rw [G_eq, Q_eq, show (4503599627370496 : Nat) = 2 ^ 52 by decide, ← Nat.pow_add]
  exact Nat.pow_le_pow_right (by decide) (by decide)

theorem dist4 (a b c d G : Nat) : (a + b + c + d) * G = (a + c) * G + b * G + d * G := by
  rw [Nat.add_mul, Nat.add_mul, Nat.add_mul, Nat.add_mul]; omega
/-- What a row is: its sum; at most n numbers; c steps that it grew by. -/
structure Rk (L : List Nat) (V : Int) (n c : Nat) : Prop where
  fin : FinL L
  val : fvL L = V
  len : L.length ≤ n
  size : avL L ≤ (n * 17179869184 + c) * GG
theorem Rk.nil : Rk [] 0 0 0 := ⟨FinL.nil, rfl, by simp, by simp [avL]⟩
theorem Rk.with {L : List Nat} {V : Int} {n c : Nat} (h : Rk L V n c) {x : Nat} (hx : Wd x ∧ finW x) (hs : (fvW x).natAbs ≤ 17179869184 * GG) (hb : n * 17179869184 + 17179869184 + c + n ≤ 4503599627370496) :
    Rk (withL L x) (V + fvW x) (n + 1) (c + n) := by
  have e1 : L.length * GG ≤ n * GG := Nat.mul_le_mul_right _ h.len
  have e2 : (n * 17179869184 + 17179869184 + c + n) * GG ≤ 4503599627370496 * GG := Nat.mul_le_mul_right _ hb
  have e3 : (n * 17179869184 + 17179869184 + c + n) * GG = (n * 17179869184 + c) * GG + 17179869184 * GG + n * GG := dist4 _ _ _ _ _
  have hsz := h.size
  obtain ⟨h1, h2, h3, h4⟩ := with_ok GG G_Q L x h.fin hx (by omega)
  refine ⟨h1, by rw [h2, h.val], by have := h.len; omega, ?_⟩
  have e4 : ((n + 1) * 17179869184 + (c + n)) * GG = (n * 17179869184 + c) * GG + 17179869184 * GG + n * GG := by rw [Nat.add_mul n 1, Nat.one_mul, ← Nat.add_assoc]; exact dist4 _ _ _ _ _
  rw [e4]
  omega
end Go.Proofs.YteoednbmhiblfaaDoor

/- Numbers' forms against powers of two, and against one another. -/
namespace Go.Proofs.YteoednbmhiblfaaDoor
open Go.RowKit J
set_option linter.unusedVariables false
set_option maxRecDepth 20000
set_option linter.unusedSimpArgs false

/-- A value's size. -/
theorem fo_abs {n : Bool} {X : Nat} {e z L H : Int} (h : Fo (some (n, X, e)) z L H) : X * 2 ^ (e - -2097152).toNat = z.natAbs * SS := by
  obtain ⟨F, hv, _⟩ := h.frm
  unfold zv at hv
  simp only at hv
  have := congrArg Int.natAbs hv
  rw [Int.natAbs_mul, Int.natAbs_mul, Int.natAbs_natCast, Int.natAbs_natCast] at this
  rw [← this]
  unfold sg1; cases n <;> simp
theorem fo_zero {n : Bool} {X : Nat} {e z L H : Int} (h : Fo (some (n, X, e)) z L H) : X = 0 ↔ z = 0 := by
  have a := fo_abs h
  have hS := S_pos
  constructor
  · intro hX
    rw [hX, Nat.zero_mul] at a
    rcases Nat.mul_eq_zero.1 a.symm with q | q <;> omega
  · intro hz
    rw [hz, Int.natAbs_zero, Nat.zero_mul] at a
    rcases Nat.mul_eq_zero.1 a with q | q
    · exact q
    · have := Nat.two_pow_pos (e - -2097152).toNat; omega
end Go.Proofs.YteoednbmhiblfaaDoor

/- Exact sums as dyads, by value. -/
namespace Go.Proofs.YteoednbmhiblfaaDoor
open Go.RowKit
set_option linter.unusedVariables false
set_option maxRecDepth 20000
set_option linter.unusedSimpArgs false

/-- The form of V times 2^-1074. -/
def fo8 (V : Int) : Option (Bool × Nat × Int) := mkS (decide (V < 0)) V.natAbs (-1074)
theorem sg1_abs (V : Int) : sg1 (decide (V < 0)) * (V.natAbs : Int) = V := by
  unfold sg1
  by_cases h : V < 0
  · rw [decide_eq_true h, if_pos rfl]; omega
  · rw [decide_eq_false h, if_neg (by decide)]; omega
theorem fo8_fo (V : Int) (m : Nat) (hm : m ≤ 200000) (hV : V.natAbs < 2 ^ m) : Fo (fo8 V) (V * (UU : Int)) (-1074) ((m : Int) - 1074) := by
  by_cases h0 : V = 0
  · subst h0
    refine ⟨⟨false, 0, 0, ?_, ?_, ?_, .inl rfl⟩⟩
    · unfold fo8; exact mkS_zero _ _
    · exact mkS_frm (mkS_zero false 0)
    · rw [zv_zero _ rfl]; simp
  · obtain ⟨X, e, h1, h2, h3, h4⟩ := mkS_sz (decide (V < 0)) V.natAbs (-1074) (-1074) ((m : Int) - 1074) (by omega) (by omega) (by have := blLe hV; omega) (by omega) (by omega) (by omega)
    refine ⟨⟨_, X, e, h1, mkS_frm h1, ?_, .inr ⟨h3, h4⟩⟩⟩
    rw [zv_mkS h1 (-2097152) (.inr (by omega))]
    have e1 : (2 : Nat) ^ ((-1074 : Int) - -2097152).toNat = UU * SS := US _ (by decide)
    rw [e1, Int.natCast_mul, Int.natCast_mul, ← Int.mul_assoc, sg1_abs, Int.mul_assoc]
theorem fo8_one {o : Option (Bool × Nat × Int)} {V L H : Int} (h : Fo o (V * (UU : Int)) L H) (m : Nat) (hm : m ≤ 200000) (hV : V.natAbs < 2 ^ m) : o = fo8 V := by
  obtain ⟨n, X, e, rfl, F1, z1, _⟩ := h.ex
  obtain ⟨n', X', e', h2, F2, z2, _⟩ := (fo8_fo V m hm hV).ex
  rw [h2]
  obtain ⟨rfl, rfl, rfl⟩ := zv_inj F1 F2 (-2097152) (by omega) (by rw [z1, z2])
  rfl
theorem fo8_frm (V : Int) (m : Nat) (hm : m ≤ 200000) (hV : V.natAbs < 2 ^ m) : ∃ n X e, fo8 V = some (n, X, e) ∧ Frm n X e ∧ (X = 0 ↔ V = 0) ∧ (V ≠ 0 → n = decide (V < 0)) ∧ -1074 ≤ e ∧ e ≤ 200000 := by
  have h := fo8_fo V m hm hV
  obtain ⟨n, X, e, h1, F, z, hb⟩ := h.ex
  have hz := fo_zero (h1 ▸ h)
  have hU := U_pos
  have hz2 : X = 0 ↔ V = 0 := by
    rw [hz]
    constructor
    · intro q
      rcases Int.mul_eq_zero.1 q with q | q
      · exact q
      · omega
    · intro q; rw [q]; simp
  refine ⟨n, X, e, h1, F, hz2, fun hV0 => ?_, ?_⟩
  · have := (round_fo (h1 ▸ h) (fun q => by rcases Int.mul_eq_zero.1 q with q | q; exact hV0 q; omega)).2.1
    rw [this, decide_eq_decide]
    constructor
    · intro q
      by_cases q2 : V < 0
      · exact q2
      · have := Int.mul_nonneg (show 0 ≤ V by omega) (show (0 : Int) ≤ UU by omega); omega
    · intro q; exact Int.mul_neg_of_neg_of_pos q (by omega)
  · rcases hb with q | ⟨q1, q2⟩
    · rcases F.odd with q3 | ⟨_, _, q3⟩
      · omega
      · omega
    · constructor
      · exact q1
      · omega
theorem fo8_self (V : Int) (m : Nat) (hm : m ≤ 200000) (hV : V.natAbs < 2 ^ m) : mkS (dN (fo8 V)) (dX (fo8 V)) (dE (fo8 V)) = fo8 V := by
  obtain ⟨n, X, e, h1, F, _⟩ := fo8_frm V m hm hV
  rw [h1]
  exact mkS_idem F
/-- What Of says of a number. -/
theorem top_fv {x : Nat} (hx : Wd x) (fx : finW x) (m : Nat) (hm : m = 2098) : (fvW x).natAbs < 2 ^ m := by
  unfold fvW
  rw [sg_abs]
  have := top_v (magW x) fx 2045 rfl
  obtain ⟨a, ha⟩ : ∃ a, a = 2045 := ⟨_, rfl⟩
  have h2 := top_v (magW x) fx a ha
  rw [show m = 53 + a by omega, Nat.pow_add]
  exact h2
theorem of_fo8 {x : Nat} (hx : Wd x) (fx : finW x) : ofK (negW x) (magW x) = fo8 (fvW x) := by
  obtain ⟨n, X, e, h1, h2, _⟩ := of_fo (negW x) (magW x) fx
  rw [h1]
  exact fo8_one h2 2098 (by omega) (top_fv hx fx 2098 rfl)
end Go.Proofs.YteoednbmhiblfaaDoor

/- Whole numbers: what is made of an int, what Exact answers, what is held to be the same. -/
namespace Go.Proofs.YteoednbmhiblfaaDoor
open Go.RowKit J
set_option linter.unusedVariables false
set_option maxRecDepth 20000
set_option linter.unusedSimpArgs false

theorem int_whole (k : Int) (h0 : -9007199254740992 ≤ k) (h1 : k ≤ 9007199254740992) : Wh (floatOfInt .f64 k) k := by
  have e0 : floatOfInt .f64 k = Ieee.double.nearest (decide (k < 0)) k.natAbs 0 := rfl
  by_cases hz : k = 0
  · subst hz
    have : floatOfInt .f64 0 = 0 := by decide
    rw [this]
    exact wh_zero
  · obtain ⟨R, hR, hN⟩ := nearest_ne (decide (k < 0)) k.natAbs B.LP 0 (by omega)
    rw [B.dLP, show -(B.LP : Int) + (B.LP : Int) - ((0 : Nat) : Int) = 0 by omega, ← e0, B.dInf, ← wd_word] at hR
    rw [Nat.pow_zero] at hN
    have hV : (k * ((2 ^ 1074 : Nat) : Int)).natAbs = k.natAbs * 2 ^ B.LP := by
      rw [Int.natAbs_mul, Int.natAbs_natCast, show B.LP = 1074 from rfl]
    rw [← hV] at hN
    have hf := ne_fin hN (whole_small k h0 h1)
    rw [Nat.min_eq_left (by omega)] at hR
    have hr : IsRn (k * ((2 ^ 1074 : Nat) : Int)) (B.sg (decide (k < 0)) (vK R)) := ne_rn hN (fun _ => by
      obtain ⟨e, he⟩ : ∃ e, e = 1074 := ⟨_, rfl⟩
      rw [← he, decide_eq_decide]
      have := Nat.two_pow_pos e
      generalize 2 ^ e = K at *
      constructor
      · intro h; exact Int.mul_neg_of_neg_of_pos h (by omega)
      · intro h; apply Int.lt_of_not_ge; intro h2; have := Int.mul_nonneg h2 (show (0 : Int) ≤ K by omega); omega)
    have hv := hr.own (isF_whole k h0 h1)
    obtain ⟨k1, k2⟩ := fv_wd (decide (k < 0)) R hf
    rw [hR]
    exact ⟨(magW_wd _ R (by omega)).2.2, k1, by rw [k2, hv]⟩
/-- The same value: held to be the same. -/
theorem same_order {x y : Nat} {k : Int} (hx : Wh x k) (hy : Wh y k) : sK (negW x) (magW x) = sK (negW y) (magW y) := by
  have e : fvW x = fvW y := by rw [hx.2.2, hy.2.2]
  have z : ∀ K, vK K = 0 ↔ K = 0 := fun K => by
    constructor
    · intro h
      rcases Nat.eq_zero_or_pos K with h0 | h0
      · exact h0
      · have := vK_lt.2 h0
        rw [show vK 0 = 0 from B.val_zero _] at this
        omega
    · intro h; rw [h]; exact B.val_zero _
  have inj : ∀ K L, vK K = vK L → K = L := fun K L h => by
    rcases Nat.lt_trichotomy K L with c | c | c
    · have := vK_lt.2 c; omega
    · exact c
    · have := vK_lt.2 c; omega
  unfold fvW B.sg at e
  unfold sK
  have z1 := z (magW x)
  have z2 := z (magW y)
  have ij := inj (magW x) (magW y)
  cases hn : negW x <;> cases hm : negW y <;> simp only [hn, hm, Bool.false_eq_true, if_false, if_true] at e ⊢
  · rw [ij (by omega)]
  · have : magW x = 0 := z1.1 (by omega)
    have : magW y = 0 := z2.1 (by omega)
    simp_all
  · have : magW x = 0 := z1.1 (by omega)
    have : magW y = 0 := z2.1 (by omega)
    simp_all
  · rw [ij (by omega)]
theorem eq_order {x y : Nat} (hx : x < 18446744073709551616) (hy : y < 18446744073709551616) (fx : magW x ≤ 9218868437227405312) (fy : magW y ≤ 9218868437227405312) (h : sK (negW x) (magW x) = sK (negW y) (magW y)) : (FloatKind.f64.format.order x y == some .eq) = true := by
  have e := eq64 (negW x) (negW y) (magW x) (magW y) fx fy
  rw [← wd_of x hx, ← wd_of y hy] at e
  rw [e, decide_eq_true h]
theorem Wh.eq {x y : Nat} {k : Int} (hx : Wh x k) (hy : Wh y k) : (FloatKind.f64.format.order x y == some .eq) = true :=
  eq_order hx.1 hy.1 (Nat.le_of_lt hx.2.1) (Nat.le_of_lt hy.2.1) (same_order hx hy)

theorem pw52 (f a L : Nat) (h : 52 + a = L) : f * 4503599627370496 * 2 ^ a = f * 2 ^ L := by
  rw [Nat.mul_assoc, ← h, Nat.pow_add]
theorem pw52b (f a b L : Nat) (h : 52 + a = b + L) : f * 4503599627370496 * 2 ^ a = f * 2 ^ b * 2 ^ L := by
  rw [pw52 f a (b + L) h, Nat.pow_add, Nat.mul_assoc]
theorem sg_mul (n : Bool) (P K : Nat) : (if n then -((P * K : Nat) : Int) else ((P * K : Nat) : Int)) = (if n then -(P : Int) else (P : Int)) * (K : Int) := by
  cases n <;> simp [Int.neg_mul]
/-- A product with one. -/
theorem pT_fv {x : Nat} (hx : x < 18446744073709551616) (fx : finW x) : pT x 4607182418800017408 = fvW x * ((2 ^ 1074 : Nat) : Int) ∧ (pK x 4607182418800017408 = 0 ∨ pK x 4607182418800017408 = 4 ∨ pK x 4607182418800017408 = 5) := by
  obtain ⟨L, hL⟩ : ∃ L, L = 1074 := ⟨_, rfl⟩
  have hm : magW x = eW x * 4503599627370496 + fW x := by unfold magW eW fW; omega
  have he : eW x < 2047 := by have h : magW x < 9218868437227405312 := fx; omega
  have hf : fW x < 4503599627370496 := Nat.mod_lt _ (by decide)
  have hng : (!ngW x == ngW 4607182418800017408) = negW x := by
    have h1 : ngW x = negW x := by unfold ngW B.ng; rw [if_neg (by omega)]; rfl
    rw [h1, show ngW 4607182418800017408 = false by decide]
    cases negW x <;> rfl
  have hc1 : clW 4607182418800017408 = 2 := by decide
  have hf1 : frW 4607182418800017408 = 4503599627370496 := by decide
  have hx1 : xpW 4607182418800017408 = -52 := by decide
  unfold pT pK
  rw [hng, hc1, hf1, hx1]
  by_cases h0 : eW x = 0
  · have hfr : frW x = fW x := by unfold frW B.fr; rw [if_neg (by omega), if_pos h0]; simp
    have hxp : xpW x = -1074 := by unfold xpW B.xp; rw [if_neg (by omega), if_pos h0]
    have hv : vK (magW x) = fW x := by
      have := vK_word 0 (fW x) (.inl rfl) (by omega)
      rw [hm, h0]
      simpa using this
    by_cases hz : fW x = 0
    · have hcl : clW x = 0 := by unfold clW B.cls; rw [if_neg (by omega), if_pos h0, if_pos hz]
      rw [hcl]
      have hpk : pk (max 0 2) (min 0 2) (negW x) = 4 ∨ pk (max 0 2) (min 0 2) (negW x) = 5 := by
        cases negW x
        · exact .inr (by decide)
        · exact .inl (by decide)
      refine ⟨?_, .inr hpk⟩
      rw [pv7_no (by rcases hpk with h | h <;> rw [h] <;> decide)]
      unfold fvW B.sg
      rw [hv, hz, ← hL]
      generalize 2 ^ L = K
      cases negW x <;> simp
    · have hcl : clW x = 1 := by unfold clW B.cls; rw [if_neg (by omega), if_pos h0, if_neg hz]
      rw [hcl]
      have hpk : pk (max 1 2) (min 1 2) (negW x) = 0 := by cases negW x <;> decide
      refine ⟨?_, .inl hpk⟩
      rw [pv7_yes hpk, hfr, hxp, ← hL]
      obtain ⟨a, ha⟩ : ∃ a, a = ((-1074 : Int) + -52 + 2148).toNat := ⟨_, rfl⟩
      have ha2 : a = 1022 := by rw [ha]; rfl
      rw [← ha]
      unfold fvW B.sg sgn7
      rw [hv]
      have e : fW x * 4503599627370496 * 2 ^ a = fW x * 2 ^ L := pw52 _ a L (by omega)
      rw [e]
      generalize 2 ^ L = K
      exact sg_mul _ _ _
  · have hfr : frW x = fW x + 4503599627370496 := by unfold frW B.fr; rw [if_neg (by omega), if_neg h0]; omega
    have hxp : xpW x = (eW x : Int) - 1075 := by unfold xpW B.xp; rw [if_neg (by omega), if_neg h0]
    have hv : vK (magW x) = (fW x + 4503599627370496) * 2 ^ (eW x - 1) := by
      have := vK_word (eW x - 1) (fW x + 4503599627370496) (.inr (by omega)) (by omega)
      rw [← this, hm, show eW x * 4503599627370496 + fW x = (eW x - 1) * 4503599627370496 + (fW x + 4503599627370496) by omega]
    have hcl : clW x = 2 := by unfold clW B.cls; rw [if_neg (by omega), if_neg h0]
    rw [hcl]
    have hpk : pk (max 2 2) (min 2 2) (negW x) = 0 := by cases negW x <;> decide
    refine ⟨?_, .inl hpk⟩
    rw [pv7_yes hpk, hfr, hxp, ← hL]
    unfold fvW B.sg sgn7
    rw [hv]
    obtain ⟨a, ha⟩ : ∃ a, a = ((eW x : Int) - 1075 + -52 + 2148).toNat := ⟨_, rfl⟩
    obtain ⟨b, hb⟩ : ∃ b, b = eW x - 1 := ⟨_, rfl⟩
    rw [← ha, ← hb]
    have e : (fW x + 4503599627370496) * 4503599627370496 * 2 ^ a = (fW x + 4503599627370496) * 2 ^ b * 2 ^ L := pw52b _ a b L (by omega)
    rw [e]
    generalize (fW x + 4503599627370496) * 2 ^ b = P
    generalize 2 ^ L = K
    exact sg_mul _ _ _
end Go.Proofs.YteoednbmhiblfaaDoor

/- Whole numbers: what Exact answers. -/
namespace Go.Proofs.YteoednbmhiblfaaDoor
open Go.RowKit J
set_option linter.unusedVariables false
set_option maxRecDepth 20000
set_option linter.unusedSimpArgs false

theorem mkS_shift (n : Bool) (X k : Nat) : ∀ e : Int, mkS n (X * 2 ^ k) e = mkS n X (e + k) := by
  induction k with
  | zero => intro e; simp
  | succ k ih =>
    intro e
    rw [show X * 2 ^ (k + 1) = 2 * (X * 2 ^ k) by rw [Nat.pow_succ, ← Nat.mul_assoc, Nat.mul_comm], mkS_double7, ih]
    congr 1
    omega
theorem vS_whole (l : List Nat) (hl : Wl l) : vS l = wS l * ((2 ^ 1074 : Nat) : Int) * ((2 ^ 1074 : Nat) : Int) := by
  obtain ⟨P, hP⟩ : ∃ P : Int, P = ((2 ^ 1074 : Nat) : Int) := ⟨_, rfl⟩
  rw [← hP]
  have key : ∀ (l : List Nat) (a : Int), Wl l → l.foldl (fun v x => v + pT x 4607182418800017408) a = a + wS l * P * P := by
    intro l
    induction l with
    | nil => intro a _; simp [wS]
    | cons x l ih =>
      intro a h
      obtain ⟨hx, hl'⟩ := h.cons
      simp only [List.foldl_cons, wS]
      rw [ih _ hl', (pT_fv hx.1 hx.2.1).1, hx.2.2, ← hP]
      rw [Int.add_mul, Int.add_mul]
      omega
  have := key l 0 hl
  rw [Int.zero_add] at this
  exact this
theorem sS_whole (l : List Nat) (hl : Wl l) : (sS l).n = 0 ∧ (sS l).u = 0 ∧ (sS l).d = 0 := by
  have key : ∀ (l : List Nat) (s : Sp), Wl l → s.n = 0 ∧ s.u = 0 ∧ s.d = 0 → (l.foldl (fun s x => s.cnt (pK x 4607182418800017408) 1) s).n = 0 ∧ (l.foldl (fun s x => s.cnt (pK x 4607182418800017408) 1) s).u = 0 ∧ (l.foldl (fun s x => s.cnt (pK x 4607182418800017408) 1) s).d = 0 := by
    intro l
    induction l with
    | nil => intro s _ h; exact h
    | cons x l ih =>
      intro s h hs
      obtain ⟨hx, hl'⟩ := h.cons
      simp only [List.foldl_cons]
      refine ih _ hl' ?_
      rcases (pT_fv hx.1 hx.2.1).2 with e | e | e <;> rw [e] <;> simpa [Sp.cnt] using hs
  exact key l _ hl ⟨rfl, rfl, rfl⟩
theorem rd_whole (k : Int) (s : Sp) (w : Nat) (hs : s.n = 0 ∧ s.u = 0 ∧ s.d = 0) (hw : Wh w k) : ∃ z, rd7 (k * ((2 ^ 1074 : Nat) : Int) * ((2 ^ 1074 : Nat) : Int)) s 1 0 0 = (z, 0) ∧ (FloatKind.f64.format.order z w == some .eq) = true := by
  have hvd : ∀ ok : Bool, (vd ok s.n s.u s.d 0 0).2 = false := by
    intro ok
    rw [hs.1, hs.2.1, hs.2.2]
    cases ok <;> decide
  obtain ⟨L, hL⟩ : ∃ L, L = 1074 := ⟨_, rfl⟩
  have hF := hw.2.2
  rw [← hL] at hF ⊢
  have hp := Nat.two_pow_pos L
  by_cases hk : k = 0
  · have hV : k * ((2 ^ L : Nat) : Int) * ((2 ^ L : Nat) : Int) = 0 := by rw [hk]; simp
    rw [hV]
    have hnt : nt (snd s.n s.u s.d s.m s.p s.a) s.n s.u s.d s.m s.p s.a 1 = 0 ∨ nt (snd s.n s.u s.d s.m s.p s.a) s.n s.u s.d s.m s.p s.a 1 = 9223372036854775808 := by
      unfold nt
      split
      · exact .inl rfl
      · split
        · exact .inl rfl
        · split
          · exact .inr rfl
          · split
            · exact .inl rfl
            · exact .inl (by rw [if_neg (by decide)])
    have e : rd7 0 s 1 0 0 = (nt (snd s.n s.u s.d s.m s.p s.a) s.n s.u s.d s.m s.p s.a 1, 0) := by
      unfold rd7 ahd
      rw [hvd]
      simp
    refine ⟨_, e, ?_⟩
    have hw0 : Wh w 0 := by rw [← hk]; exact hw
    rcases hnt with h | h <;> rw [h]
    · exact wh_zero.eq hw0
    · refine eq_order (by decide) hw.1 (by decide) (Nat.le_of_lt hw.2.1) ?_
      rw [← same_order wh_zero hw0]
      decide
  · have hV : k * ((2 ^ L : Nat) : Int) * ((2 ^ L : Nat) : Int) ≠ 0 := by
      intro h
      rcases Int.mul_eq_zero.1 h with h | h
      · rcases Int.mul_eq_zero.1 h with h | h <;> omega
      · omega
    rw [← hF] at hV ⊢
    have ho := of_fo8 hw.1 hw.2.1
    have hex : exV (fvW w * ((2 ^ L : Nat) : Int)) = fo8 (fvW w) := by
      unfold exV fo8
      have e1 : decide (fvW w * ((2 ^ L : Nat) : Int) < 0) = decide (fvW w < 0) := by
        rw [decide_eq_decide]
        generalize 2 ^ L = K at *
        constructor
        · intro h; apply Int.lt_of_not_ge; intro h2; have := Int.mul_nonneg h2 (show (0 : Int) ≤ K by omega); omega
        · intro h; exact Int.mul_neg_of_neg_of_pos h (by omega)
      rw [e1, Int.natAbs_mul, Int.natAbs_natCast, mkS_shift, hL]
      rfl
    obtain ⟨z, hz⟩ : ∃ z, z = 2098 := ⟨_, rfl⟩
    have hlt := top_fv hw.1 hw.2.1 z hz
    have hsf := fo8_self (fvW w) z (by omega) hlt
    obtain ⟨n, X, e, h1, _⟩ := fo8_frm (fvW w) z (by omega) hlt
    have hn := near_own 1 (negW w) (magW w) hw.2.1 (ho.trans h1)
    have hr : rd7 (fvW w * ((2 ^ L : Nat) : Int)) s 1 0 0 = (wd64 (rS n X) (rW 1 n X e), 0) := by
      have ea : ahd (fvW w * ((2 ^ L : Nat) : Int)) s 1 0 0 = (0, false, 0) := by
        unfold ahd
        rw [hvd, if_neg (by decide), if_neg hV]
      unfold rd7
      rw [ea, hex, hsf, h1, rndS_form 1 n X e (by decide) (by decide)]
      rfl
    refine ⟨_, hr, ?_⟩
    have hle : rW 1 n X e ≤ 9218868437227405312 := by
      have h2 := hw.2.1
      unfold sK at hn
      have h3 : magW w < 9218868437227405312 := h2
      cases h5 : rS n X <;> cases h6 : negW w <;> simp only [h5, h6, Bool.false_eq_true, if_false, if_true] at hn <;> omega
    obtain ⟨m1, m2, m3⟩ := magW_wd (rS n X) (rW 1 n X e) (by omega)
    refine eq_order m3 hw.1 (by rw [m1]; exact hle) (Nat.le_of_lt hw.2.1) ?_
    rw [m1, m2]
    exact hn
end Go.Proofs.YteoednbmhiblfaaDoor

/- SumsWhole: the law's walk. -/
namespace Go.Proofs.YteoednbmhiblfaaDoor
open Go.RowKit J
set_option linter.unusedVariables false
set_option maxRecDepth 20000
set_option linter.unusedSimpArgs false
attribute [local go_sem] st_float

/-- The word of an int, cut to 36 bits. -/
def iw (z : Int) : Nat := floatOfInt .f64 (Int.tmod z 68719476736)
theorem tm_bd (z : Int) : -68719476736 < Int.tmod z 68719476736 ∧ Int.tmod z 68719476736 < 68719476736 := by
  have h := Int.natAbs_tmod z 68719476736
  have h2 := Nat.mod_lt z.natAbs (show (68719476736 : Int).natAbs > 0 by decide)
  have h3 : (68719476736 : Int).natAbs = 68719476736 := rfl
  rw [h3] at h h2
  omega
theorem iw_wh (z : Int) : Wh (iw z) (Int.tmod z 68719476736) := by
  have := tm_bd z
  exact int_whole _ (by omega) (by omega)
def iL (ks : List Int) (k : Nat) : List Nat := (ks.take k).map iw
theorem iL_succ (ks : List Int) (k : Nat) (h : k < ks.length) : iL ks (k + 1) = iL ks k ++ [iw (ks.getD k 0)] := by
  unfold iL
  rw [List.take_succ_eq_append_getElem h, List.map_append, List.getD_eq_getElem?_getD, List.getElem?_eq_getElem h]; rfl
theorem iL_len (ks : List Int) (k : Nat) (h : k ≤ ks.length) : (iL ks k).length = k := by unfold iL; rw [List.length_map, List.length_take]; omega
theorem iL_wl (ks : List Int) (k : Nat) : Wl (iL ks k) := fun x hx => by
  obtain ⟨z, _, rfl⟩ := List.mem_map.1 hx
  have h := iw_wh z
  rw [h.wv]; exact h
theorem iL_w64 (ks : List Int) (k : Nat) : W64 (iL ks k) := fun x hx => (iL_wl ks k x hx).1
theorem iL_wT (ks : List Int) : ∀ k, k ≤ ks.length → wT (iL ks k) ≤ ((k * 68719476736 : Nat) : Int)
  | 0, _ => by simp [iL, wT]
  | k + 1, h => by
    have ih := iL_wT ks k (by omega)
    have hb := tm_bd (ks.getD k 0)
    rw [iL_succ ks k h, wT_app]
    simp only [wT, (iw_wh (ks.getD k 0)).wv]
    omega
theorem iL_wS (ks : List Int) (k : Nat) (h : k < ks.length) : wS (iL ks (k + 1)) = wS (iL ks k) + Int.tmod (ks.getD k 0) 68719476736 := by
  rw [iL_succ ks k h, wS_app]
  simp only [wS, (iw_wh (ks.getD k 0)).wv]
  omega

set_option maxHeartbeats 8000000 in
theorem walk2_SumsWhole (a : Option Addr) (n c : Nat) (ks : List Int) (size : Int) (w : World) (hT : Tab w) (hC : CameI w a n c ks) (hs : (Lit.int .i64 size).wf = true) (hm : n ≤ 17592186043904) :
    Calls Tryd.prog 4 #[.slice a n c, .int .i64 size] w fun r w' => r = .returned (.bool true) ∧ Below w.heap.size w w' := by
  obtain ⟨hlen, hcap, hwf, hrd, _⟩ := hC
  have HL := hid (live10 w hT)
  have HT := Aside.intro hT
  obtain ⟨N, hN⟩ : ∃ N, N = min n 65536 := ⟨_, rfl⟩
  have HX : Aside (n = ks.length ∧ Is7 w.heap.size w a ks ∧ N ≤ 65536 ∧ N ≤ n ∧ (N < n → N = 65536)) := ⟨hlen, hrd, by omega, by omega, by omega⟩
  have hNb : N < 4611686018427387904 := by omega
  have hnb : n < 4611686018427387904 := by omega
  clear hlen hcap hwf hrd hT hN hm
  go_enter Tryd.func4, Tryd.ntmps4
  go_wp2_with fail
  refine HL.out.mono ?_
  rintro r u0 ⟨rfl, hb⟩
  have B0 := Aside.intro hb
  clear hb HL
  go_wp2
  go_loopg [8, 6, 7] N (fun gk i q v wr => ∃ (k : Nat) (W : Int) (v0 : Value), gk + k = N ∧ i = .int .i64 (k : Nat) ∧ q = .int .i64 W ∧ v = v0 ∧ Aside (W = wS (iL ks k) ∧ wr.ownsRow w.heap.size 24 1 v0 (iL ks k).length ((iL ks k).map Fw10) ∧ Below w.heap.size w wr))
  case atStart => exact ⟨0, 0, _, by omega, by simp, by simp, rfl, by simp [iL, wS], World.ownsRow_nil u0 w.heap.size 24 1, B0.out⟩
  case round =>
    obtain ⟨k, W, v, hgk, rfl, rfl, hv, HA⟩ := hrel
    have hv' := hv.symm
    clear hv
    subst hv'
    have hWb : -4503599627370496 ≤ W ∧ W ≤ 4503599627370496 := by
      have p := wT_pos (iL ks k)
      have q := iL_wT ks k (by have := HX.out; omega)
      have e := HA.out.1
      have := HX.out.2.2.1
      omega
    obtain ⟨hW0, hW1⟩ := hWb
    by_cases hk : k < N
    · have hkn : k < n := by have := HX.out; omega
      have hk6 : decide ((k : Int) < 65536) = true := by have := HX.out; simp; omega
      obtain ⟨b, off, rfl, hc⟩ := HX.out.2.1.at HA.out.2.2 k (by rw [← HX.out.1]; exact hkn)
      obtain ⟨z, hz⟩ : ∃ z, z = ks.getD k 0 := ⟨_, rfl⟩
      rw [← hz] at hc
      obtain ⟨t, ht⟩ : ∃ t, t = Int.tmod z 68719476736 := ⟨_, rfl⟩
      have htb := tm_bd z
      rw [← ht] at htb
      obtain ⟨hb0, hb1⟩ := htb
      obtain ⟨x, hx⟩ : ∃ x, x = floatOfInt .f64 t := ⟨_, rfl⟩
      have HZ := Aside.intro (And.intro (show iL ks (k + 1) = iL ks k ++ [x] by rw [iL_succ ks k (by rw [← HX.out.1]; exact hkn), ← hz, hx, ht]; rfl) (show wS (iL ks (k + 1)) = W + t by rw [iL_wS ks k (by rw [← HX.out.1]; exact hkn), ← hz, ← ht, ← HA.out.1]))
      have HK : Aside ((iL ks k).length ≤ 1000000) := by rw [iL_len ks k (by rw [← HX.out.1]; omega)]; have := HX.out.2.2.1; exact Aside.intro (by omega)
      obtain ⟨v', w', r1, r2, r3, r4⟩ := append10 w.heap.size v (iL ks k) x wr HA.out.2.1 HA.out.2.2.size HK.out
      have HR := Aside.intro r1
      have HN := Aside.intro (And.intro r2 (HA.out.2.2.trans r3))
      have ht2 := ht.symm
      have hx2 := hx.symm
      have hwz : IntKind.i64.wrap t = t := by rw [IntKind.wrap_i64]; omega
      clear r1 r2 r3 r4 hz ht hx
      go_wp2_with (at_builtin; refine wpList_append10 rfl (.tmp 34) (.tmp 37) 23 rfl _ _ rfl rfl _ _ HR.out ?_)
      go_roundg (gk - 1)
      case measure => omega
      case rel =>
        clear ht2 hx2 hwz
        refine ⟨k + 1, W + t, _, by omega, by first | rfl | simp, by first | rfl | simp, rfl, HZ.out.2.symm, ?_, HN.out.2⟩
        rw [HZ.out.1]; exact HN.out.1
    · obtain rfl : N = k := by omega
      obtain ⟨a2, c2, hv2, hc2, hF2⟩ := own_fs10 HA.out.2.1 rfl
      have hll : (iL ks N).length = N := iL_len ks N (by rw [← HX.out.1]; exact HX.out.2.2.2.1)
      rw [hll] at hv2 hc2
      subst hv2
      have hwl := iL_wl ks N
      have hw64 := iL_w64 ks N
      have hwt : wT (iL ks N) ≤ 4503599627370496 := by
        have := iL_wT ks N (by rw [← HX.out.1]; exact HX.out.2.2.2.1)
        have := HX.out.2.2.1
        omega
      obtain ⟨L, hL⟩ : ∃ L, L = iL ks N := ⟨_, rfl⟩
      have eW := HA.out.1
      rw [← hL] at hF2 hll hwl hw64 hwt eW
      have hN6 := HX.out.2.2.1
      obtain ⟨Y, hY⟩ : ∃ Y, Y = floatOfInt .f64 W := ⟨_, rfl⟩
      have hYw : Wh Y W := by rw [hY]; exact int_whole W (by omega) (by omega)
      obtain ⟨z, hz, oz⟩ := rd_whole W (sS L) Y (sS_whole L hwl) hYw
      have hFs : ∀ u : World, Below wr.heap.size wr u → Fs u.heap.size u a2 L := fun u hb => (hF2.below hb).mono hb.size
      have HE := hid (fun (u : World) (hb : Below wr.heap.size wr u) => Exact10 L a2 N c2 1 0 0 u hll.symm (hFs u hb) hw64 ((HT.out.belows HA.out.2.2).belows hb) (by decide) (by decide) (by decide) hN6 (by decide) (by decide))
      rw [vS_whole L hwl, ← eW, hz] at HE
      have wr1 := run_whole L hwl hwt
      have wr2 := hv_whole L.length L (Nat.le_refl _) hwl hwt
      have wr3 := kahan_whole L hwl hwt
      have wr4 := neu_whole L hwl hwt
      rw [← eW] at wr1 wr2 wr3 wr4
      have o1 := wr1.eq hYw
      have o2 := wr2.eq hYw
      have o3 := wr3.eq hYw
      have o4 := wr4.eq hYw
      have H1 := hid (fun (u : World) (hb : Below wr.heap.size wr u) => Running10 L a2 N c2 u hll.symm (hFs u hb) hw64 hc2 (by omega))
      have H2 := hid (fun (u : World) (hb : Below wr.heap.size wr u) => Halving10 L a2 N c2 u hll.symm (hFs u hb) hw64 (by omega))
      have H3 := hid (fun (u : World) (hb : Below wr.heap.size wr u) => Kahan10 L a2 N c2 u hll.symm (hFs u hb) hw64 (by omega))
      have H4 := hid (fun (u : World) (hb : Below wr.heap.size wr u) => Neumaier10 L a2 N c2 u hll.symm (hFs u hb) hw64 (by omega))
      obtain ⟨v1, hv1⟩ : ∃ v, v = runF L := ⟨_, rfl⟩
      obtain ⟨v2, hv2⟩ : ∃ v, v = hvF L := ⟨_, rfl⟩
      obtain ⟨v3, hv3⟩ : ∃ v, v = (kaF L).1 := ⟨_, rfl⟩
      obtain ⟨v4, hv4⟩ : ∃ v, v = plF (neF L).1 (neF L).2 := ⟨_, rfl⟩
      rw [← hv1] at H1 o1
      rw [← hv2] at H2 o2
      rw [← hv3] at H3 o3
      rw [← hv4] at H4 o4
      have key : ∃ (X : Nat) (E : Int), Hid (∀ u : World, Below wr.heap.size wr u → Calls Tryd.prog 13 #[.slice a2 N c2, .int .i64 size] u fun r w' => r = .returned (.tuple #[.float .f64 X, .int .i64 E]) ∧ Below u.heap.size u w') ∧ ((E = 0 ∧ 1 ≤ size ∧ size ≤ 65536 ∧ (FloatKind.f64.format.order X Y == some .eq) = true) ∨ (E = 1 ∧ size < 1) ∨ (E = 1 ∧ 1 ≤ size ∧ 65536 < size)) := by
        by_cases h1 : size < 1 ∨ 65536 < size
        · refine ⟨0, 1, fun u _ => Blocked10_arg a2 N c2 size u h1, .inr ?_⟩
          by_cases h2 : size < 1
          · exact .inl ⟨rfl, h2⟩
          · exact .inr ⟨rfl, by omega, by omega⟩
        · obtain ⟨s, rfl⟩ : ∃ s : Nat, size = (s : Int) := ⟨size.toNat, by omega⟩
          refine ⟨blF s L, 0, fun u hb => Blocked10 L a2 N c2 s u hll.symm (hFs u hb) hw64 hc2 hN6 (by omega) (by omega), .inl ⟨rfl, by omega, by omega, ?_⟩⟩
          have := bl_whole s L (by omega) hwl hwt
          rw [← eW] at this
          exact this.eq hYw
      obtain ⟨X, E, HBl, hcase⟩ := key
      have hex : n ≤ N ∨ (N < n ∧ N = 65536) := by have := HX.out; omega
      have q0 : (FloatKind.f64.format.order z Y != some .eq) = false := by rw [bne, oz]; rfl
      have HF := Aside.intro HA.out.2.2
      have hY2 := hY.symm
      clear hv1 hv2 hv3 hv4 hF2 hll hwl hw64 hwt hL eW hYw hz oz hFs wr1 wr2 wr3 wr4 hc2 hN6 HA hY HX HT
      have hcs : (E = 0 ∧ decide (1 ≤ size) = true ∧ decide (size ≤ 65536) = true ∧ (FloatKind.f64.format.order X Y != some .eq) = false) ∨ (E = 1 ∧ decide (1 ≤ size) = false) ∨ (E = 1 ∧ decide (1 ≤ size) = true ∧ decide (size ≤ 65536) = false) := by
        rcases hcase with ⟨h1, h2, h3, h4⟩ | ⟨h1, h2⟩ | ⟨h1, h2, h3⟩
        · exact .inl ⟨h1, by simpa using h2, by simpa using h3, by rw [bne, h4]; rfl⟩
        · exact .inr (.inl ⟨h1, by simp; omega⟩)
        · exact .inr (.inr ⟨h1, by simpa using h2, by simp; omega⟩)
      have HCS := Aside.intro hcs
      clear hcase hcs
      rcases hex with hex | ⟨hex, hex2⟩
      all_goals (
        try have hk6 : decide ((N : Int) < 65536) = false := by rw [hex2]; decide
        try clear hex2
        go_wp2_with fail
        with_reducible refine (HE.out _ (Below.refl _ _)).mono ?_
        rintro r y1 ⟨rfl, hb⟩
        have BB := Aside.intro hb
        clear hb HE
        go_wp2_with fail
        with_reducible refine (HBl.out _ BB.out).mono ?_
        rintro r y2 ⟨rfl, hb⟩
        have BB := Aside.intro (BB.out.trans (hb.mono BB.out.size))
        clear hb HBl
        rcases HCS.out with ⟨rfl, d1, d2, d3⟩ | ⟨rfl, d1⟩ | ⟨rfl, d1, d2⟩
        all_goals (
          clear HCS
          go_wp2_with fail
          with_reducible refine (H1.out _ BB.out).mono ?_
          rintro r y3 ⟨rfl, hb⟩
          have BB := Aside.intro (BB.out.trans (hb.mono BB.out.size))
          clear hb H1
          go_wp2_with fail
          with_reducible refine (H2.out _ BB.out).mono ?_
          rintro r y4 ⟨rfl, hb⟩
          have BB := Aside.intro (BB.out.trans (hb.mono BB.out.size))
          clear hb H2
          go_wp2_with fail
          with_reducible refine (H3.out _ BB.out).mono ?_
          rintro r y5 ⟨rfl, hb⟩
          have BB := Aside.intro (BB.out.trans (hb.mono BB.out.size))
          clear hb H3
          go_wp2_with fail
          with_reducible refine (H4.out _ BB.out).mono ?_
          rintro r y6 ⟨rfl, hb⟩
          have BB := Aside.intro (BB.out.trans (hb.mono BB.out.size))
          clear hb H4
          go_wp2
          go_ret
          exact ⟨rfl, HF.out.trans (BB.out.mono HF.out.size)⟩))
end Go.Proofs.YteoednbmhiblfaaDoor

