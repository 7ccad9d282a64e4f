/- What each call of the package and of the document answers, as a plain function of the numbers' bits. -/
import Derived.Test.YthilnddhehbjiabD39x
import Derived.Test.YthilnddhehbjiabJ4x
import Derived.Test.YthilnddhehbjiabJ6x
import Derived.KernelRfl
import Derived.Test.YthilnddhehbjiabBIeeex
namespace Go.Proofs.Ythilnddhehbjiab
open Go.RowKit J
set_option linter.unusedVariables false
set_option maxRecDepth 20000

abbrev Wd (x : Nat) : Prop := x < 18446744073709551616
theorem odd_wd : Wd oddW := by unfold Wd oddW; decide
theorem ar_wd (op : BinOp) (ho : op = .add ∨ op = .sub ∨ op = .mul) (x y : Nat) : Wd (arW op x y) := by
  unfold arW
  cases h : floatBits op .f64 x y with
  | none => exact odd_wd
  | some z => exact (bits_fin ho h).2
def plW (x y : Nat) : Nat := arW .add x y
def miW (x y : Nat) : Nat := arW .sub x y
def tiW (x y : Nat) : Nat := arW .mul x y
theorem pl_wd (x y : Nat) : Wd (plW x y) := ar_wd .add (.inl rfl) x y
theorem mi_wd (x y : Nat) : Wd (miW x y) := ar_wd .sub (.inr (.inl rfl)) x y
theorem ti_wd (x y : Nat) : Wd (tiW x y) := ar_wd .mul (.inr (.inr rfl)) x y
def quickP (a b : Nat) : Nat × Nat := (plW a b, miW b (miW (plW a b) a))
def sumP (a b : Nat) : Nat × Nat := (plW a b, plW (miW a (miW (plW a b) (miW (plW a b) a))) (miW b (miW (plW a b) a)))
def halfP (a : Nat) : Nat × Nat := (plW (tiW 4728779608772575232 a) (miW a (tiW 4728779608772575232 a)), miW a (plW (tiW 4728779608772575232 a) (miW a (tiW 4728779608772575232 a))))
def prodP (a b : Nat) : Nat × Nat := (tiW a b, plW (plW (plW (miW (tiW (halfP a).1 (halfP b).1) (tiW a b)) (tiW (halfP a).1 (halfP b).2)) (tiW (halfP a).2 (halfP b).1)) (tiW (halfP a).2 (halfP b).2))
def addY (a b c d : Nat) : Nat := plW (sumP b d).2 (quickP (sumP a c).1 (plW (sumP a c).2 (sumP b d).1)).2
def addP (a b c d : Nat) : Nat × Nat := quickP (quickP (sumP a c).1 (plW (sumP a c).2 (sumP b d).1)).1 (addY a b c d)
def mulP (a b c d : Nat) : Nat × Nat := quickP (prodP a c).1 (plW (prodP a c).2 (plW (tiW a d) (tiW b c)))

theorem Quick_all (a b : Nat) (w : World) : Calls Try.prog 18 #[.float .f64 a, .float .f64 b] w fun r w' => r = .returned (.agg #[.float .f64 (quickP a b).1, .float .f64 (quickP a b).2]) ∧ Below w.heap.size w w' :=
  Quick_core a b _ _ _ w (hid fun u => step_plus _ _ u) (hid fun u => step_minus _ _ u) (hid fun u => step_minus _ _ u)
theorem Sum_all (a b : Nat) (w : World) : Calls Try.prog 12 #[.float .f64 a, .float .f64 b] w fun r w' => r = .returned (.agg #[.float .f64 (sumP a b).1, .float .f64 (sumP a b).2]) ∧ Below w.heap.size w w' :=
  Sum_core a b _ _ _ _ _ _ w (hid fun u => step_plus _ _ u) (hid fun u => step_minus _ _ u) (hid fun u => step_minus _ _ u) (hid fun u => step_minus _ _ u) (hid fun u => step_minus _ _ u) (hid fun u => step_plus _ _ u)
theorem Halves_all (a : Nat) (w : World) : Calls Try.prog 13 #[.float .f64 a] w fun r w' => r = .returned (.agg #[.float .f64 (halfP a).1, .float .f64 (halfP a).2]) ∧ Below w.heap.size w w' :=
  Halves_core a _ _ _ _ w (hid fun u => step_times _ _ u) (hid fun u => step_minus _ _ u) (hid fun u => step_plus _ _ u) (hid fun u => step_minus _ _ u)
theorem Product_all (a b : Nat) (w : World) : Calls Try.prog 14 #[.float .f64 a, .float .f64 b] w fun r w' => r = .returned (.agg #[.float .f64 (prodP a b).1, .float .f64 (prodP a b).2]) ∧ Below w.heap.size w w' :=
  Product_core a b _ _ _ _ _ _ _ _ _ _ _ _ _ w (hid fun u => step_times _ _ u) (hid fun u => Halves_all a  u) (hid fun u => Halves_all b  u) (hid fun u => step_times _ _ u) (hid fun u => step_minus _ _ u) (hid fun u => step_times _ _ u) (hid fun u => step_plus _ _ u) (hid fun u => step_times _ _ u) (hid fun u => step_plus _ _ u) (hid fun u => step_times _ _ u) (hid fun u => step_plus _ _ u)
theorem Add_all (a b c d : Nat) (w : World) : Calls Try.prog 22 #[.agg #[.float .f64 a, .float .f64 b], .agg #[.float .f64 c, .float .f64 d]] w fun r w' => r = .returned (.agg #[.float .f64 (addP a b c d).1, .float .f64 (addP a b c d).2]) ∧ Below w.heap.size w w' :=
  Add_core a b c d _ _ _ _ _ _ _ _ _ _ w (hid fun u => Sum_all _ _  u) (hid fun u => Sum_all _ _  u) (hid fun u => step_plus _ _ u) (hid fun u => Quick_all _ _  u) (hid fun u => step_plus _ _ u) (hid fun u => Quick_all _ _  u)
theorem Mul_all (a b c d : Nat) (w : World) : Calls Try.prog 24 #[.agg #[.float .f64 a, .float .f64 b], .agg #[.float .f64 c, .float .f64 d]] w fun r w' => r = .returned (.agg #[.float .f64 (mulP a b c d).1, .float .f64 (mulP a b c d).2]) ∧ Below w.heap.size w w' :=
  Mul_core a b c d _ _ _ _ _ _ _ _ w (hid fun u => Product_all _ _  u) (hid fun u => step_times _ _ u) (hid fun u => step_times _ _ u) (hid fun u => step_plus _ _ u) (hid fun u => step_plus _ _ u) (hid fun u => Quick_all _ _  u)
theorem Value_all (a b : Nat) (w : World) : Calls Try.prog 27 #[.agg #[.float .f64 a, .float .f64 b]] w fun r w' => r = .returned (.float .f64 (plW a b)) ∧ Below w.heap.size w w' :=
  Value_core a b _ w (hid fun u => step_plus _ _ u)
theorem rQuick_all (a b : Nat) (ha : Wd a) (hb : Wd b) (w : World) : Calls Try.prog 19 #[.float .f64 a, .float .f64 b] w fun r w' => r = .returned (.agg #[.float .f64 (quickP a b).1, .float .f64 (quickP a b).2]) ∧ Below w.heap.size w w' :=
  rQuick_core a b _ _ _ w (hid fun u => sPlus_any _ _ ha hb u) (hid fun u => sMinus_any _ _ (pl_wd _ _) ha u) (hid fun u => sMinus_any _ _ hb (mi_wd _ _) u)
theorem rSum_all (a b : Nat) (ha : Wd a) (hb : Wd b) (w : World) : Calls Try.prog 17 #[.float .f64 a, .float .f64 b] w fun r w' => r = .returned (.agg #[.float .f64 (sumP a b).1, .float .f64 (sumP a b).2]) ∧ Below w.heap.size w w' :=
  rSum_core a b _ _ _ _ _ _ w (hid fun u => sPlus_any _ _ ha hb u) (hid fun u => sMinus_any _ _ (pl_wd _ _) ha u) (hid fun u => sMinus_any _ _ (pl_wd _ _) (mi_wd _ _) u) (hid fun u => sMinus_any _ _ ha (mi_wd _ _) u) (hid fun u => sMinus_any _ _ hb (mi_wd _ _) u) (hid fun u => sPlus_any _ _ (mi_wd _ _) (mi_wd _ _) u)
theorem rHalves_all (a : Nat) (ha : Wd a) (w : World) : Calls Try.prog 20 #[.float .f64 a] w fun r w' => r = .returned (.agg #[.float .f64 (halfP a).1, .float .f64 (halfP a).2]) ∧ Below w.heap.size w w' :=
  rHalves_core a _ _ _ _ w (hid fun u => sTimes_any _ _ (by decide) ha u) (hid fun u => sMinus_any _ _ ha (ti_wd _ _) u) (hid fun u => sPlus_any _ _ (ti_wd _ _) (mi_wd _ _) u) (hid fun u => sMinus_any _ _ ha (pl_wd _ _) u)
theorem rProduct_all (a b : Nat) (ha : Wd a) (hb : Wd b) (w : World) : Calls Try.prog 21 #[.float .f64 a, .float .f64 b] w fun r w' => r = .returned (.agg #[.float .f64 (prodP a b).1, .float .f64 (prodP a b).2]) ∧ Below w.heap.size w w' :=
  rProduct_core a b _ _ _ _ _ _ _ _ _ _ _ _ _ w (hid fun u => sTimes_any _ _ ha hb u) (hid fun u => rHalves_all a ha u) (hid fun u => rHalves_all b hb u) (hid fun u => sTimes_any _ _ (pl_wd _ _) (pl_wd _ _) u) (hid fun u => sMinus_any _ _ (ti_wd _ _) (ti_wd _ _) u) (hid fun u => sTimes_any _ _ (pl_wd _ _) (mi_wd _ _) u) (hid fun u => sPlus_any _ _ (mi_wd _ _) (ti_wd _ _) u) (hid fun u => sTimes_any _ _ (mi_wd _ _) (pl_wd _ _) u) (hid fun u => sPlus_any _ _ (pl_wd _ _) (ti_wd _ _) u) (hid fun u => sTimes_any _ _ (mi_wd _ _) (mi_wd _ _) u) (hid fun u => sPlus_any _ _ (pl_wd _ _) (ti_wd _ _) u)
theorem rAdd_all (a b c d : Nat) (ha : Wd a) (hb : Wd b) (hc : Wd c) (hd : Wd d) (w : World) : Calls Try.prog 23 #[.agg #[.float .f64 a, .float .f64 b], .agg #[.float .f64 c, .float .f64 d]] w fun r w' => r = .returned (.agg #[.float .f64 (addP a b c d).1, .float .f64 (addP a b c d).2]) ∧ Below w.heap.size w w' :=
  rAdd_core a b c d _ _ _ _ _ _ _ _ _ _ w (hid fun u => rSum_all _ _ ha hc u) (hid fun u => rSum_all _ _ hb hd u) (hid fun u => sPlus_any _ _ (pl_wd _ _) (pl_wd _ _) u) (hid fun u => rQuick_all _ _ (pl_wd _ _) (pl_wd _ _) u) (hid fun u => sPlus_any _ _ (pl_wd _ _) (mi_wd _ _) u) (hid fun u => rQuick_all _ _ (pl_wd _ _) (pl_wd _ _) u)
theorem rMul_all (a b c d : Nat) (ha : Wd a) (hb : Wd b) (hc : Wd c) (hd : Wd d) (w : World) : Calls Try.prog 25 #[.agg #[.float .f64 a, .float .f64 b], .agg #[.float .f64 c, .float .f64 d]] w fun r w' => r = .returned (.agg #[.float .f64 (mulP a b c d).1, .float .f64 (mulP a b c d).2]) ∧ Below w.heap.size w w' :=
  rMul_core a b c d _ _ _ _ _ _ _ _ w (hid fun u => rProduct_all _ _ ha hc u) (hid fun u => sTimes_any _ _ ha hd u) (hid fun u => sTimes_any _ _ hb hc u) (hid fun u => sPlus_any _ _ (ti_wd _ _) (ti_wd _ _) u) (hid fun u => sPlus_any _ _ (pl_wd _ _) (pl_wd _ _) u) (hid fun u => rQuick_all _ _ (ti_wd _ _) (pl_wd _ _) u)
theorem rValue_all (a b : Nat) (ha : Wd a) (hb : Wd b) (w : World) : Calls Try.prog 28 #[.agg #[.float .f64 a, .float .f64 b]] w fun r w' => r = .returned (.float .f64 (plW a b)) ∧ Below w.heap.size w w' :=
  rValue_core a b _ w (hid fun u => sPlus_any _ _ ha hb u)
end Go.Proofs.Ythilnddhehbjiab

/- Steps of finite numbers by their values (whole numbers of units of 2^-1074): what is rounded is the nearest. -/
namespace Go.Proofs.Ythilnddhehbjiab
open Go.RowKit J
set_option linter.unusedVariables false
set_option maxRecDepth 20000

/-- A finite word; its value. -/
abbrev finW (x : Nat) : Prop := magW x < 9218868437227405312
def fvW (x : Nat) : Int := B.sg (negW x) (vK (magW x))
/-- Two to the power of 1022, in those units: 2^2096. -/
def EQ : Nat := 2096
theorem exQ : ∃ q : Nat, q = 2 ^ EQ := ⟨_, rfl⟩
noncomputable def QQ : Nat := Classical.choose exQ
theorem Q_eq : QQ = 2 ^ EQ := Classical.choose_spec exQ
theorem Q_pos : 0 < QQ := by rw [Q_eq]; exact Nat.two_pow_pos _

theorem sg_abs (s : Bool) (v : Nat) : (B.sg s v).natAbs = v := absSg s v
theorem vK_F (K : Nat) : ∃ m k : Nat, vK K = m * 2 ^ k ∧ m ≤ 9007199254740992 := by
  show ∃ m k, B.val Ieee.double K = m * 2 ^ k ∧ m ≤ 9007199254740992
  unfold B.val
  rw [B.dBin]
  split
  · exact ⟨K, 0, by simp, by omega⟩
  · exact ⟨_, _, rfl, by omega⟩
theorem fv_F (x : Nat) : IsF (fvW x) := by
  obtain ⟨m, k, h1, h2⟩ := vK_F (magW x)
  unfold fvW B.sg
  rw [h1]
  cases negW x
  · exact ⟨(m : Int), k, by simp, by omega, by omega⟩
  · exact ⟨-(m : Int), k, by simp [Int.neg_mul], by omega, by omega⟩
theorem F_vK {f : Int} (h : IsF f) : ∃ L, vK L = f.natAbs := by
  by_cases hs : f.natAbs ≤ 9007199254740992
  · refine ⟨f.natAbs, ?_⟩
    have := vK_word 0 f.natAbs (.inl rfl) hs
    simpa using this
  · obtain ⟨k, h1, h2, h3⟩ := h.placed
    have h2' : 2 ^ (52 + k) ≤ f.natAbs := by
      rcases h2 with rfl | h2
      · omega
      · exact h2
    obtain ⟨q, hq⟩ := h3
    have hf : f.natAbs = q.natAbs * 2 ^ k := by rw [hq, Int.natAbs_mul, natAbs_p2, Nat.mul_comm]
    rw [hf] at h1 h2' ⊢
    rw [Nat.pow_add] at h1 h2'
    have a1 := Nat.lt_of_mul_lt_mul_right h1
    have a2 := Nat.le_of_mul_le_mul_right h2' (Nat.two_pow_pos _)
    exact ⟨_, vK_word k q.natAbs (.inr (by omega)) (by omega)⟩

/-- The nearest rung is the nearest. -/
theorem ne_near {R V L : Nat} (h : NE R V 1) : ((vK R : Int) - V).natAbs ≤ ((vK L : Int) - V).natAbs := by
  have u : 2 * V ≤ vK R + vK (R + 1) := by have := h.up; rw [Nat.mul_one] at this; exact this
  rcases Nat.lt_trichotomy L R with c | c | c
  · have d : vK (R - 1) + vK R ≤ 2 * V := by have := h.dn (by omega); rw [Nat.mul_one] at this; exact this
    have m1 : vK L ≤ vK (R - 1) := vmono (by omega)
    have m2 : vK (R - 1) < vK R := vK_lt.2 (by omega)
    omega
  · rw [c]; omega
  · have m1 : vK (R + 1) ≤ vK L := vmono (by omega)
    have m2 : vK R < vK (R + 1) := vK_lt.2 (by omega)
    omega
theorem ne_rn {R : Nat} {T : Int} (h : NE R T.natAbs 1) {s : Bool} (hs : T ≠ 0 → s = decide (T < 0)) : IsRn T (B.sg s (vK R)) := by
  have hF : IsF (B.sg s (vK R)) := by
    obtain ⟨m, k, h1, h2⟩ := vK_F R
    unfold B.sg
    rw [h1]
    cases s
    · exact ⟨(m : Int), k, by simp, by omega, by omega⟩
    · exact ⟨-(m : Int), k, by simp [Int.neg_mul], by omega, by omega⟩
  refine ⟨hF, fun f hf => ?_⟩
  obtain ⟨L, hL⟩ := F_vK hf
  have n := ne_near (L := L) h
  by_cases hT : T = 0
  · subst hT
    have : NE 0 (0 : Int).natAbs 1 := NEf.own (by decide) (by rw [B.val_zero]; rfl)
    rw [h.one this (by decide), show vK 0 = 0 from B.val_zero _]
    unfold B.sg
    cases s <;> simp
  · have e := hs hT
    unfold B.sg
    by_cases hn : T < 0
    · rw [decide_eq_true hn] at e; subst e
      simp only [if_true]
      omega
    · rw [decide_eq_false hn] at e; subst e
      simp only [Bool.false_eq_true, if_false]
      omega
theorem top_half (K : Nat) (h : 9218868437227405311 ≤ K) : 2 * QQ < vK K := by
  obtain ⟨c, hc⟩ : ∃ c : Nat, c = 2045 := ⟨_, rfl⟩
  have h1 := vK_word c 4503599627370496 (.inr (by omega)) (by omega)
  have h2 : c * 4503599627370496 + 4503599627370496 < K := by rw [hc]; omega
  have h3 := vK_lt.2 h2
  rw [h1] at h3
  have h4 : 2 * QQ = 4503599627370496 * 2 ^ c := by
    have a1 : EQ + 1 = 52 + c := by rw [hc]; unfold EQ; rfl
    have a2 : 2 * 2 ^ EQ = 2 ^ (EQ + 1) := by rw [Nat.pow_succ, Nat.mul_comm]
    rw [Q_eq, a2, a1, Nat.pow_add]
  omega
theorem ne_fin {R V : Nat} (h : NE R V 1) (hV : V ≤ 3 * QQ) : R < 9218868437227405312 := by
  apply Nat.lt_of_not_le; intro hh
  have d : vK (R - 1) + vK R ≤ 2 * V := by have := h.dn (by omega); rw [Nat.mul_one] at this; exact this
  have a1 := top_half (R - 1) (by omega)
  obtain ⟨c, hc⟩ : ∃ c : Nat, c = 2045 := ⟨_, rfl⟩
  have h1 := vK_word c 9007199254740992 (.inr (by omega)) (by omega)
  have h2 : c * 4503599627370496 + 9007199254740992 ≤ R := by rw [hc]; omega
  have h3 : vK (c * 4503599627370496 + 9007199254740992) ≤ vK R := vmono h2
  rw [h1] at h3
  have h4 : 4 * QQ = 9007199254740992 * 2 ^ c := by
    have a1 : EQ + 2 = 53 + c := by rw [hc]; unfold EQ; rfl
    have a2 : 4 * 2 ^ EQ = 2 ^ (EQ + 2) := by rw [Nat.pow_add, Nat.mul_comm]
    rw [Q_eq, a2, a1, Nat.pow_add]
  omega

theorem fv_wd (s : Bool) (K : Nat) (h : K < 9218868437227405312) : finW (wd64 s K) ∧ fvW (wd64 s K) = B.sg s (vK K) := by
  obtain ⟨h1, h2, _⟩ := magW_wd s K (by omega)
  unfold fvW
  rw [h1, h2]
  exact ⟨by unfold finW; rw [h1]; exact h, rfl⟩
/-- A sum. -/
theorem pl_fin {x y : Nat} (hx : Wd x) (hy : Wd y) (fx : finW x) (fy : finW y) (hT : (fvW x + fvW y).natAbs ≤ 3 * QQ) : finW (plW x y) ∧ IsRn (fvW x + fvW y) (fvW (plW x y)) := by
  obtain ⟨R, hR, hA⟩ := add_wd (negW x) (negW y) (magW x) (magW y) fx fy
  rw [← wd_of x hx, ← wd_of y hy] at hA
  have e : plW x y = wd64 (if fvW x + fvW y = 0 then negW x && negW y else decide (fvW x + fvW y < 0)) (min R 9218868437227405312) := by
    show (Ieee.double.add x y).getD oddW = _
    rw [hA]; rfl
  have hf := ne_fin hR hT
  rw [Nat.min_eq_left (by omega)] at e
  obtain ⟨k1, k2⟩ := fv_wd (if fvW x + fvW y = 0 then negW x && negW y else decide (fvW x + fvW y < 0)) R hf
  rw [e]
  refine ⟨k1, ?_⟩
  rw [k2]
  exact ne_rn (T := fvW x + fvW y) hR (fun h => if_neg h)
theorem fv_turn {y : Nat} (hy : Wd y) (fy : finW y) : finW (turnW y) ∧ fvW (turnW y) = -fvW y := by
  have hm : magW y < 9223372036854775808 := Nat.mod_lt _ (by decide)
  have e : turnW y = wd64 (!negW y) (magW y) := by rw [← turn_wd _ _ hm, ← wd_of y hy]
  rw [e]
  obtain ⟨k1, k2⟩ := fv_wd (!negW y) (magW y) fy
  refine ⟨k1, ?_⟩
  rw [k2]
  unfold fvW B.sg
  cases negW y <;> simp
/-- A difference. -/
theorem mi_fin {x y : Nat} (hx : Wd x) (hy : Wd y) (fx : finW x) (fy : finW y) (hT : (fvW x - fvW y).natAbs ≤ 3 * QQ) : finW (miW x y) ∧ IsRn (fvW x - fvW y) (fvW (miW x y)) := by
  obtain ⟨k1, k2⟩ := fv_turn hy fy
  have e : miW x y = plW x (turnW y) := sub_turn x y hy
  have := pl_fin hx (turn_lt y hy) fx k1 (by rw [k2]; rwa [Int.sub_eq_add_neg] at hT)
  rw [e, Int.sub_eq_add_neg, ← k2]
  exact this
/-- A product that is whole in those units. -/
theorem ti_fin {x y : Nat} (hx : Wd x) (hy : Wd y) (fx : finW x) (fy : finW y) {P : Int} (hP : fvW x * fvW y = P * (UU : Int)) (hT : P.natAbs ≤ 3 * QQ) : finW (tiW x y) ∧ IsRn P (fvW (tiW x y)) := by
  obtain ⟨R, hR, hA⟩ := mul_wd EU rfl (negW x) (negW y) (magW x) (magW y) fx fy
  rw [← wd_of x hx, ← wd_of y hy] at hA
  rw [← U_eq] at hR
  have hU := U_pos
  have e : tiW x y = wd64 (negW x != negW y) (min R 9218868437227405312) := by
    show (Ieee.double.mul x y).getD oddW = _
    rw [hA]; rfl
  have ha : vK (magW x) * vK (magW y) = P.natAbs * UU := by
    have := congrArg Int.natAbs hP
    rw [Int.natAbs_mul, Int.natAbs_mul, Int.natAbs_natCast] at this
    unfold fvW at this
    rw [sg_abs, sg_abs] at this
    exact this
  have hR1 : NE R P.natAbs 1 := by
    rw [ha] at hR
    refine NEf.unscale hU ?_
    rw [Nat.one_mul]; exact hR
  have hf := ne_fin hR1 hT
  rw [Nat.min_eq_left (by omega)] at e
  obtain ⟨k1, k2⟩ := fv_wd (negW x != negW y) R hf
  rw [e]
  refine ⟨k1, ?_⟩
  rw [k2]
  refine ne_rn hR1 (fun h => ?_)
  -- the sign
  have hv : (0 : Int) < (vK (magW x) : Int) * (vK (magW y) : Int) := by
    rw [← Int.natCast_mul, ha]
    have := Nat.mul_pos (show 0 < P.natAbs by omega) hU
    omega
  have hlt : P < 0 ↔ fvW x * fvW y < 0 := by
    rw [hP]
    constructor
    · intro h1; exact Int.mul_neg_of_neg_of_pos h1 (by omega)
    · intro h1; apply Int.lt_of_not_ge; intro h2; have := Int.mul_nonneg h2 (show (0 : Int) ≤ UU by omega); omega
  have hd : decide (P < 0) = decide (fvW x * fvW y < 0) := decide_eq_decide.2 hlt
  rw [hd]
  unfold fvW B.sg
  cases negW x <;> cases negW y <;> simp [Int.neg_mul, Int.mul_neg] <;> omega
end Go.Proofs.Ythilnddhehbjiab

/- P5.6 by words: Sum, Quick, Halves, Product of finite numbers. -/
namespace Go.Proofs.Ythilnddhehbjiab
open Go.RowKit J
set_option linter.unusedVariables false
set_option maxRecDepth 20000

theorem two_Q : 2 * QQ = 2 ^ (EQ + 1) := by rw [Q_eq, Nat.pow_succ, Nat.mul_comm]
theorem rn_2Q {V s : Int} (h : IsRn V s) (hV : V.natAbs ≤ 2 * QQ) : s.natAbs ≤ 2 * QQ := by
  rw [two_Q] at hV ⊢; exact h.abs_le hV

/-- What came of a call: two finite numbers, and their sum. -/
structure Two (p : Nat × Nat) (V : Int) : Prop where
  w1 : Wd p.1
  w2 : Wd p.2
  f1 : finW p.1
  f2 : finW p.2
  val : fvW p.1 + fvW p.2 = V

theorem quick_two {a b : Nat} (ha : Wd a) (hb : Wd b) (fa : finW a) (fb : finW b) (la : (fvW a).natAbs ≤ QQ) (lb : (fvW b).natAbs ≤ QQ) (hab : (fvW b).natAbs ≤ (fvW a).natAbs) : Two (quickP a b) (fvW a + fvW b) := by
  have hQ := Q_pos
  obtain ⟨f1, r1⟩ := pl_fin ha hb fa fb (by omega)
  have n1 := r1.near _ (fv_F a)
  have s1 := rn_2Q r1 (by omega)
  obtain ⟨f2, r2⟩ := mi_fin (pl_wd a b) ha f1 fa (by omega)
  have s2 := rn_2Q r2 (by omega)
  obtain ⟨f3, r3⟩ := mi_fin hb (mi_wd _ _) fb f2 (by omega)
  exact ⟨pl_wd _ _, mi_wd _ _, f1, f3, quick_just (fv_F a) (fv_F b) hab r1 r2 r3⟩

theorem tiny {V s : Int} {Q : Nat} (h : 4503599627370496 * 2 * (s - V).natAbs ≤ V.natAbs) (hV : V.natAbs ≤ 4 * Q) : -(Q : Int) ≤ 64 * (s - V) ∧ 64 * (s - V) ≤ Q := by omega
theorem sum_bound {A C H T G V X : Int} {Q : Nat} (t1 : -(Q : Int) ≤ 64 * (H - (A + C)) ∧ 64 * (H - (A + C)) ≤ Q) (t2 : -(Q : Int) ≤ 64 * (T - (H - A)) ∧ 64 * (T - (H - A)) ≤ Q) (t3 : -(Q : Int) ≤ 64 * (G - (H - T)) ∧ 64 * (G - (H - T)) ≤ Q)
    (e4 : 4503599627370496 * 2 * (V - (A - G)).natAbs ≤ (A - G).natAbs) (e5 : 4503599627370496 * 2 * (X - (C - T)).natAbs ≤ (C - T).natAbs) : (V + X).natAbs ≤ 3 * Q := by
  have k3 : (A - G).natAbs ≤ 4 * Q := by omega
  have k4 : (C - T).natAbs ≤ 4 * Q := by omega
  have t4 := tiny e4 k3
  have t5 := tiny e5 k4
  clear e4 e5 k3 k4
  omega
theorem sum_two {a b : Nat} (ha : Wd a) (hb : Wd b) (fa : finW a) (fb : finW b) (la : (fvW a).natAbs ≤ QQ) (lb : (fvW b).natAbs ≤ QQ) : Two (sumP a b) (fvW a + fvW b) := by
  have hQ := Q_pos
  obtain ⟨f1, r1⟩ := pl_fin ha hb fa fb (by omega)
  have n1 := r1.near _ (fv_F a)
  have s1 := rn_2Q r1 (by omega)
  have t1 := Aside.intro (tiny (Q := QQ) r1.rel (by omega))
  obtain ⟨f2, r2⟩ := mi_fin (pl_wd a b) ha f1 fa (by omega)
  have s2 := rn_2Q r2 (by omega)
  have t2 := Aside.intro (tiny (Q := QQ) r2.rel (by omega))
  have n2 := r2.near _ (fv_F (plW a b))
  clear n1
  obtain ⟨f3, r3⟩ := mi_fin (pl_wd a b) (mi_wd (plW a b) a) f1 f2 (by omega)
  have s3 := rn_2Q r3 (by omega)
  have t3 := Aside.intro (tiny (Q := QQ) r3.rel (by omega))
  clear n2
  obtain ⟨f4, r4⟩ := mi_fin ha (mi_wd (plW a b) (miW (plW a b) a)) fa f3 (by omega)
  obtain ⟨f5, r5⟩ := mi_fin hb (mi_wd (plW a b) a) fb f2 (by omega)
  obtain ⟨f6, r6⟩ := pl_fin (mi_wd a (miW (plW a b) (miW (plW a b) a))) (mi_wd b (miW (plW a b) a)) f4 f5 (sum_bound t1.out t2.out t3.out r4.rel r5.rel)
  exact ⟨pl_wd _ _, pl_wd _ _, f1, f6, sum_just (fv_F a) (fv_F b) r1 r2 r3 r4 r5 r6⟩

theorem c27_fin : finW 4728779608772575232 ∧ Wd 4728779608772575232 := by constructor <;> decide
theorem c27_val : fvW 4728779608772575232 = 134217729 * (UU : Int) := by
  have h1 : negW 4728779608772575232 = false := by decide
  obtain ⟨c, hc⟩ : ∃ c : Nat, c = 1049 := ⟨_, rfl⟩
  have h2 : magW 4728779608772575232 = c * 4503599627370496 + 4503599660924928 := by rw [hc]; decide
  unfold fvW
  rw [h1, h2, vK_word c 4503599660924928 (.inr (by decide)) (by decide)]
  have h3 : UU = 33554432 * 2 ^ c := by
    have a1 : EU = 25 + c := by rw [hc]; unfold EU; rfl
    rw [U_eq, a1, Nat.pow_add]
  unfold B.sg
  simp only [Bool.false_eq_true, if_false]
  rw [h3]
  generalize (2 : Nat) ^ c = q
  omega

/-- P5.6: Halves. -/
theorem half_two {a : Nat} (ha : Wd a) (fa : finW a) (la : 134217728 * (fvW a).natAbs ≤ QQ) : Two (halfP a) (fvW a) ∧ ∃ g k, Hv (fvW a) (fvW (halfP a).1) (fvW (halfP a).2) g k := by
  have hQ := Q_pos
  obtain ⟨c1, c2⟩ := c27_fin
  have c3 := c27_val
  obtain ⟨f1, r1⟩ := ti_fin (P := 134217729 * fvW a) c2 ha c1 fa (by rw [c3, Int.mul_right_comm]) (by omega)
  have e1 := r1.rel
  obtain ⟨f2, r2⟩ := mi_fin ha (ti_wd 4728779608772575232 a) fa f1 (by omega)
  have e2 := r2.rel
  obtain ⟨f3, r3⟩ := pl_fin (ti_wd 4728779608772575232 a) (mi_wd a (tiW 4728779608772575232 a)) f1 f2 (by omega)
  have e3 := r3.rel
  obtain ⟨f4, r4⟩ := mi_fin ha (pl_wd (tiW 4728779608772575232 a) (miW a (tiW 4728779608772575232 a))) fa f3 (by omega)
  obtain ⟨g, k, H⟩ := halves_just (fv_F a) r1 r2 r3 r4
  exact ⟨⟨pl_wd _ _, mi_wd _ _, f3, f4, H.sum⟩, g, k, H⟩

theorem hv_small {a hi lo : Int} {g k : Nat} (h : Hv a hi lo g k) : hi.natAbs ≤ 2 * a.natAbs ∧ 2 * lo.natAbs ≤ a.natAbs := by
  have hb := h.hb
  have lb := h.lb
  have hs := h.sum
  rcases h.low with hl | ⟨h1, h2⟩
  · have e1 : 2 ^ (26 + (g + k)) = 2 * 2 ^ (25 + (g + k)) := by rw [show 26 + (g + k) = 25 + (g + k) + 1 by omega, Nat.pow_succ, Nat.mul_comm]
    have e2 : 2 ^ (25 + (g + k)) = 33554432 * 2 ^ (g + k) := by rw [Nat.pow_add]
    omega
  · subst h1; subst h2
    simp at lb
    omega

/-- P5.6: Product, by values. -/
theorem prod_vals {a b : Int} {ah al bh bl : Int} {g k h l : Nat} (Ha : Hv a ah al g k) (Hb : Hv b bh bl h l) (hT : a * b ≠ 0) {e : Nat} (he : e = 1179) (hlow : 2 ^ e ≤ (a * b).natAbs) :
    ∃ n x y z t : Int, ∃ N : Nat, a * b = (x + y + z + t) * (UU : Int) ∧ ah * bh = x * (UU : Int) ∧ ah * bl = y * (UU : Int) ∧ al * bh = z * (UU : Int) ∧ al * bl = t * (UU : Int) ∧
      (2 : Int) ^ (N + g + h) ∣ x ∧ (2 : Int) ^ (N + g) ∣ y ∧ (2 : Int) ^ (N + h) ∣ z ∧ (2 : Int) ^ N ∣ t ∧
      x.natAbs ≤ 2 ^ (52 + (N + g + h)) ∧ 2 * y.natAbs ≤ 67108864 * 2 ^ (N + g + h) ∧ 2 * z.natAbs ≤ 67108864 * 2 ^ (N + g + h) ∧ 4 * t.natAbs ≤ 2 ^ (N + g + h) ∧
      (x + y + z + t).natAbs ≤ 2 ^ (52 + (N + g + h)) ∧ (1 ≤ g → 1 ≤ h → 2 ^ (50 + (N + g + h)) ≤ (x + y + z + t).natAbs) ∧ (g = 0 → z = 0 ∧ t = 0) ∧ (h = 0 → y = 0 ∧ t = 0) := by
  obtain ⟨A, hA⟩ := Ha.hd
  obtain ⟨A2, hA2⟩ := Ha.ld
  obtain ⟨C, hC⟩ := Hb.hd
  obtain ⟨C2, hC2⟩ := Hb.ld
  have g27 := Ha.g27
  have h27 := Hb.g27
  -- the places together
  have hkl : EU ≤ k + l := by
    have h1 : (a * b).natAbs < 2 ^ (26 + (g + k)) * 2 ^ (26 + (h + l)) := by
      rw [Int.natAbs_mul]; exact Nat.mul_lt_mul'' Ha.high Hb.high
    rw [← Nat.pow_add] at h1
    have h2 := (Nat.pow_lt_pow_iff_right (by decide : 1 < 2)).1 (Nat.lt_of_le_of_lt hlow h1)
    have : EU = 1074 := rfl
    omega
  obtain ⟨N, hN⟩ : ∃ N, k + l = EU + N := ⟨k + l - EU, by omega⟩
  have pU : ∀ i j : Nat, (2 : Int) ^ (i + k) * 2 ^ (j + l) = 2 ^ (N + i + j) * (UU : Int) := by
    intro i j
    rw [U_eq, p2c, ← Int.pow_add, ← Int.pow_add]
    congr 1; omega
  have n2 : ∀ m, ((2 : Int) ^ m).natAbs = 2 ^ m := natAbs_p2
  -- sizes
  have sA : A.natAbs ≤ 67108864 := by
    have := Ha.hb
    rw [hA, Int.natAbs_mul, n2, show 26 + (g + k) = (g + k) + 26 by omega, Nat.pow_add _ _ 26] at this
    exact Nat.le_of_mul_le_mul_left this (Nat.two_pow_pos _)
  have sC : C.natAbs ≤ 67108864 := by
    have := Hb.hb
    rw [hC, Int.natAbs_mul, n2, show 26 + (h + l) = (h + l) + 26 by omega, Nat.pow_add _ _ 26] at this
    exact Nat.le_of_mul_le_mul_left this (Nat.two_pow_pos _)
  have sA2 : 2 * A2.natAbs ≤ 2 ^ g := by
    have := Ha.lb
    rw [hA2, Int.natAbs_mul, n2, Nat.pow_add, Nat.mul_left_comm, Nat.mul_comm (2 ^ g)] at this
    exact Nat.le_of_mul_le_mul_left this (Nat.two_pow_pos _)
  have sC2 : 2 * C2.natAbs ≤ 2 ^ h := by
    have := Hb.lb
    rw [hC2, Int.natAbs_mul, n2, Nat.pow_add, Nat.mul_left_comm, Nat.mul_comm (2 ^ h)] at this
    exact Nat.le_of_mul_le_mul_left this (Nat.two_pow_pos _)
  have q0 := pU g h
  have q1 := pU g 0
  have q2 := pU 0 h
  have q3 := pU 0 0
  simp only [Nat.zero_add, Nat.add_zero] at q1 q2 q3
  have ex : ah * bh = A * C * 2 ^ (N + g + h) * (UU : Int) := by rw [hA, hC, Int.mul_assoc (A * C), ← q0]; simp only [Int.mul_assoc, Int.mul_left_comm, Int.mul_comm]
  have ey : ah * bl = A * C2 * 2 ^ (N + g) * (UU : Int) := by rw [hA, hC2, Int.mul_assoc (A * C2), ← q1]; simp only [Int.mul_assoc, Int.mul_left_comm, Int.mul_comm]
  have ez : al * bh = A2 * C * 2 ^ (N + h) * (UU : Int) := by rw [hA2, hC, Int.mul_assoc (A2 * C), ← q2]; simp only [Int.mul_assoc, Int.mul_left_comm, Int.mul_comm]
  have et : al * bl = A2 * C2 * 2 ^ N * (UU : Int) := by rw [hA2, hC2, Int.mul_assoc (A2 * C2), ← q3]; simp only [Int.mul_assoc, Int.mul_left_comm, Int.mul_comm]
  have eT : a * b = (A * C * 2 ^ (N + g + h) + A * C2 * 2 ^ (N + g) + A2 * C * 2 ^ (N + h) + A2 * C2 * 2 ^ N) * (UU : Int) := by
    rw [Int.add_mul, Int.add_mul, Int.add_mul, ← ex, ← ey, ← ez, ← et, ← Ha.sum, ← Hb.sum, Int.add_mul, Int.mul_add, Int.mul_add]; omega
  have hU := U_pos
  have aT : (a * b).natAbs = (A * C * 2 ^ (N + g + h) + A * C2 * 2 ^ (N + g) + A2 * C * 2 ^ (N + h) + A2 * C2 * 2 ^ N).natAbs * UU := by rw [eT, Int.natAbs_mul, Int.natAbs_natCast]
  have pw3 : ∀ i : Nat, 2 ^ (i + (N + g + h)) * UU = 2 ^ (i + (g + k) + (h + l)) := by
    intro i; rw [U_eq, ← Nat.pow_add]; congr 1; omega
  refine ⟨0, A * C * 2 ^ (N + g + h), A * C2 * 2 ^ (N + g), A2 * C * 2 ^ (N + h), A2 * C2 * 2 ^ N, N, eT, ex, ey, ez, et, Int.dvd_mul_left _ _, Int.dvd_mul_left _ _, Int.dvd_mul_left _ _, Int.dvd_mul_left _ _, ?_, ?_, ?_, ?_, ?_, ?_, ?_, ?_⟩
  · rw [Int.natAbs_mul, Int.natAbs_mul, n2, Nat.pow_add 2 52]
    exact Nat.mul_le_mul_right _ (Nat.le_trans (Nat.mul_le_mul sA sC) (by decide))
  · rw [Int.natAbs_mul, Int.natAbs_mul, n2, Nat.pow_add 2 (N + g) h]
    have := Nat.mul_le_mul sA sC2
    have := Nat.mul_le_mul_right (2 ^ (N + g)) this
    rw [Nat.mul_comm (2 ^ (N + g)) (2 ^ h), ← Nat.mul_assoc 67108864]
    refine Nat.le_trans (Nat.le_of_eq ?_) this
    simp only [Nat.mul_assoc, Nat.mul_left_comm, Nat.mul_comm]
  · rw [Int.natAbs_mul, Int.natAbs_mul, n2, show N + g + h = N + h + g by omega, Nat.pow_add 2 (N + h) g]
    have := Nat.mul_le_mul sC sA2
    have := Nat.mul_le_mul_right (2 ^ (N + h)) this
    rw [Nat.mul_comm (2 ^ (N + h)) (2 ^ g), ← Nat.mul_assoc 67108864]
    refine Nat.le_trans (Nat.le_of_eq ?_) this
    simp only [Nat.mul_assoc, Nat.mul_left_comm, Nat.mul_comm]
  · rw [Int.natAbs_mul, Int.natAbs_mul, n2, Nat.add_assoc, Nat.pow_add 2 N, Nat.pow_add 2 g]
    have := Nat.mul_le_mul sA2 sC2
    have := Nat.mul_le_mul_left (2 ^ N) this
    refine Nat.le_trans (Nat.le_of_eq ?_) this
    rw [show (4 : Nat) = 2 * 2 from rfl]
    simp only [Nat.mul_assoc, Nat.mul_left_comm, Nat.mul_comm]
  · apply Nat.le_of_mul_le_mul_right _ hU
    rw [← aT, pw3, Int.natAbs_mul, show 52 + (g + k) + (h + l) = (26 + (g + k)) + (26 + (h + l)) by omega, Nat.pow_add]
    exact Nat.mul_le_mul (Nat.le_of_lt Ha.high) (Nat.le_of_lt Hb.high)
  · intro g1 h1
    apply Nat.le_of_mul_le_mul_right _ hU
    rw [← aT, pw3, Int.natAbs_mul, show 50 + (g + k) + (h + l) = (25 + (g + k)) + (25 + (h + l)) by omega, Nat.pow_add]
    exact Nat.mul_le_mul (by rcases Ha.low with q | q; exact q; omega) (by rcases Hb.low with q | q; exact q; omega)
  · intro g0
    have : A2 = 0 := by rw [g0] at sA2; simp at sA2; omega
    rw [this]; simp
  · intro h0
    have : C2 = 0 := by rw [h0] at sC2; simp at sC2; omega
    rw [this]; simp
end Go.Proofs.Ythilnddhehbjiab

/- P5.6 by words: Product. -/
namespace Go.Proofs.Ythilnddhehbjiab
open Go.RowKit J
set_option linter.unusedVariables false
set_option maxRecDepth 20000
set_option linter.unusedSimpArgs false

theorem mulAbs {a b c d : Int} {m n : Nat} (h1 : a.natAbs ≤ m * c.natAbs) (h2 : b.natAbs ≤ n * d.natAbs) : (a * b).natAbs ≤ m * n * (c * d).natAbs := by
  rw [Int.natAbs_mul, Int.natAbs_mul]
  refine Nat.le_trans (Nat.mul_le_mul h1 h2) (Nat.le_of_eq ?_)
  simp only [Nat.mul_assoc, Nat.mul_left_comm, Nat.mul_comm]
theorem unUU {x P : Int} {T X : Int} {m : Nat} (hx : X = x * (UU : Int)) (hP : T = P * (UU : Int)) (h : X.natAbs ≤ m * T.natAbs) : x.natAbs ≤ m * P.natAbs := by
  rw [hx, hP, Int.natAbs_mul, Int.natAbs_mul, Int.natAbs_natCast, ← Nat.mul_assoc] at h
  exact Nat.le_of_mul_le_mul_right h U_pos
theorem p_bound1 {P s x y z t : Int} {Q : Nat} (eP : P = x + y + z + t) (hs : (s - P).natAbs ≤ P.natAbs) (bP : 2 * P.natAbs ≤ Q) (by' : y.natAbs ≤ P.natAbs) (bz : z.natAbs ≤ P.natAbs) (bt : t.natAbs ≤ P.natAbs) : (x - s).natAbs ≤ 3 * Q := by omega
theorem p_bound2 {P s x y z t p1 : Int} {Q : Nat} (eP : P = x + y + z + t) (hs : (s - P).natAbs ≤ P.natAbs) (bP : 2 * P.natAbs ≤ Q) (bz : z.natAbs ≤ P.natAbs) (bt : t.natAbs ≤ P.natAbs) (e1 : -(Q : Int) ≤ 64 * (p1 - (x - s)) ∧ 64 * (p1 - (x - s)) ≤ Q) : (p1 + y).natAbs ≤ 3 * Q := by omega
theorem p_bound3 {P s x y z t p1 p2 : Int} {Q : Nat} (eP : P = x + y + z + t) (hs : (s - P).natAbs ≤ P.natAbs) (bP : 2 * P.natAbs ≤ Q) (bt : t.natAbs ≤ P.natAbs) (e1 : -(Q : Int) ≤ 64 * (p1 - (x - s)) ∧ 64 * (p1 - (x - s)) ≤ Q) (e2 : -(Q : Int) ≤ 64 * (p2 - (p1 + y)) ∧ 64 * (p2 - (p1 + y)) ≤ Q) : (p2 + z).natAbs ≤ 3 * Q := by omega
theorem p_bound4 {P s x y z t p1 p2 p3 : Int} {Q : Nat} (eP : P = x + y + z + t) (hs : (s - P).natAbs ≤ P.natAbs) (bP : 2 * P.natAbs ≤ Q) (e1 : -(Q : Int) ≤ 64 * (p1 - (x - s)) ∧ 64 * (p1 - (x - s)) ≤ Q) (e2 : -(Q : Int) ≤ 64 * (p2 - (p1 + y)) ∧ 64 * (p2 - (p1 + y)) ≤ Q) (e3 : -(Q : Int) ≤ 64 * (p3 - (p2 + z)) ∧ 64 * (p3 - (p2 + z)) ≤ Q) : (p3 + t).natAbs ≤ 3 * Q := by omega
theorem le34 {x : Int} {Q : Nat} (h : x.natAbs ≤ 3 * Q) : x.natAbs ≤ 4 * Q := by omega

theorem half1 {x : Int} {n : Nat} (h : 2 * x.natAbs ≤ n) : x.natAbs ≤ 1 * n := by omega
theorem half2 {x : Int} {n : Nat} (h : 2 * x.natAbs ≤ n) : (2 * x).natAbs ≤ 1 * n := by omega
theorem half3 {x : Int} {n : Nat} (h : (2 * x).natAbs ≤ 2 * 1 * n) : x.natAbs ≤ n := by omega
theorem half4 {x : Int} {n : Nat} (h : (2 * x).natAbs ≤ 1 * 2 * n) : x.natAbs ≤ n := by omega
theorem half5 {x : Int} {n : Nat} (h : x.natAbs ≤ 1 * 1 * n) : x.natAbs ≤ n := by omega
theorem bq0 {P : Int} {Q : Nat} (h : 2 * P.natAbs ≤ Q) : P.natAbs ≤ 3 * Q := by omega
theorem bq4 {P x : Int} {Q : Nat} (h : 2 * P.natAbs ≤ Q) (hx : x.natAbs ≤ 4 * P.natAbs) : x.natAbs ≤ 3 * Q := by omega
theorem bq1 {P x : Int} {Q : Nat} (h : 2 * P.natAbs ≤ Q) (hx : x.natAbs ≤ P.natAbs) : x.natAbs ≤ 3 * Q := by omega

set_option maxHeartbeats 1000000 in
theorem prod_two {a b : Nat} (ha : Wd a) (hb : Wd b) (fa : finW a) (fb : finW b) (la : 134217728 * (fvW a).natAbs ≤ QQ) (lb : 134217728 * (fvW b).natAbs ≤ QQ)
    {e : Nat} (he : e = 1179) (hT : fvW a * fvW b = 0 ∨ 2 ^ e ≤ (fvW a * fvW b).natAbs) (hup : 2 * (fvW a * fvW b).natAbs ≤ QQ * UU) : ∃ P : Int, fvW a * fvW b = P * (UU : Int) ∧ Two (prodP a b) P := by
  obtain ⟨Ta, g, k, Ha⟩ := half_two ha fa la
  obtain ⟨Tb, h, l, Hb⟩ := half_two hb fb lb
  have sa := hv_small Ha
  have sb := hv_small Hb
  have hU := U_pos
  have facts : ∃ x y z t : Int, ∃ N g h : Nat, g ≤ 27 ∧ h ≤ 27 ∧ fvW a * fvW b = (x + y + z + t) * (UU : Int) ∧ fvW (halfP a).1 * fvW (halfP b).1 = x * (UU : Int) ∧ fvW (halfP a).1 * fvW (halfP b).2 = y * (UU : Int) ∧ fvW (halfP a).2 * fvW (halfP b).1 = z * (UU : Int) ∧ fvW (halfP a).2 * fvW (halfP b).2 = t * (UU : Int) ∧
      (2 : Int) ^ (N + g + h) ∣ x ∧ (2 : Int) ^ (N + g) ∣ y ∧ (2 : Int) ^ (N + h) ∣ z ∧ (2 : Int) ^ N ∣ t ∧
      x.natAbs ≤ 2 ^ (52 + (N + g + h)) ∧ 2 * y.natAbs ≤ 67108864 * 2 ^ (N + g + h) ∧ 2 * z.natAbs ≤ 67108864 * 2 ^ (N + g + h) ∧ 4 * t.natAbs ≤ 2 ^ (N + g + h) ∧
      (x + y + z + t).natAbs ≤ 2 ^ (52 + (N + g + h)) ∧ (1 ≤ g → 1 ≤ h → 2 ^ (50 + (N + g + h)) ≤ (x + y + z + t).natAbs) ∧ (g = 0 → z = 0 ∧ t = 0) ∧ (h = 0 → y = 0 ∧ t = 0) := by
    rcases hT with h0 | h0
    · have z1 : fvW (halfP a).1 * fvW (halfP b).1 = 0 := by have := mulAbs sa.1 sb.1; rw [h0] at this; simp only [Int.natAbs_zero, Nat.mul_zero, Nat.le_zero_eq, Int.natAbs_eq_zero] at this; exact this
      have z2 : fvW (halfP a).1 * fvW (halfP b).2 = 0 := by have := mulAbs (n := 1) sa.1 (half1 sb.2); rw [h0] at this; simp only [Int.natAbs_zero, Nat.mul_zero, Nat.le_zero_eq, Int.natAbs_eq_zero] at this; exact this
      have z3 : fvW (halfP a).2 * fvW (halfP b).1 = 0 := by have := mulAbs (m := 1) (half1 sa.2) sb.1; rw [h0] at this; simp only [Int.natAbs_zero, Nat.mul_zero, Nat.le_zero_eq, Int.natAbs_eq_zero] at this; exact this
      have z4 : fvW (halfP a).2 * fvW (halfP b).2 = 0 := by have := mulAbs (m := 1) (n := 1) (half1 sa.2) (half1 sb.2); rw [h0] at this; simp only [Int.natAbs_zero, Nat.mul_zero, Nat.le_zero_eq, Int.natAbs_eq_zero] at this; exact this
      refine ⟨0, 0, 0, 0, 0, 0, 0, by omega, by omega, by rw [h0]; simp, by rw [z1]; simp, by rw [z2]; simp, by rw [z3]; simp, by rw [z4]; simp, Int.dvd_zero _, Int.dvd_zero _, Int.dvd_zero _, Int.dvd_zero _, by simp, by simp, by simp, by simp, by simp, fun h => by omega, fun _ => ⟨rfl, rfl⟩, fun _ => ⟨rfl, rfl⟩⟩
    · have hne : fvW a * fvW b ≠ 0 := by intro hh; rw [hh] at h0; have := Nat.two_pow_pos e; simp at h0
      obtain ⟨_, x, y, z, t, N, q⟩ := prod_vals Ha Hb hne he h0
      exact ⟨x, y, z, t, N, g, h, Ha.g27, Hb.g27, q⟩
  obtain ⟨x, y, z, t, N, g, h, g27, h27, eT, ex, ey, ez, et, dx, dy, dz, dt, bx, by', bz, bt, bP, lP, hg0, hh0⟩ := facts
  obtain ⟨P, eP⟩ : ∃ P, P = x + y + z + t := ⟨_, rfl⟩
  rw [← eP] at eT bP lP
  refine ⟨P, eT, ?_⟩
  -- sizes by the product's own
  have b0 : 2 * P.natAbs ≤ QQ := by
    rw [eT, Int.natAbs_mul, Int.natAbs_natCast, ← Nat.mul_assoc] at hup
    exact Nat.le_of_mul_le_mul_right hup hU
  have cx : x.natAbs ≤ 4 * P.natAbs := unUU ex eT (mulAbs sa.1 sb.1)
  have cy : y.natAbs ≤ P.natAbs := by
    have q := mulAbs (m := 2) (n := 1) (a := fvW (halfP a).1) (b := 2 * fvW (halfP b).2) (c := fvW a) (d := fvW b) sa.1 (half2 sb.2)
    exact half3 (unUU (x := 2 * y) (X := fvW (halfP a).1 * (2 * fvW (halfP b).2)) (by rw [Int.mul_left_comm, ey, Int.mul_assoc]) eT q)
  have cz : z.natAbs ≤ P.natAbs := by
    have q := mulAbs (m := 1) (n := 2) (a := 2 * fvW (halfP a).2) (b := fvW (halfP b).1) (c := fvW a) (d := fvW b) (half2 sa.2) sb.1
    exact half4 (unUU (x := 2 * z) (X := 2 * fvW (halfP a).2 * fvW (halfP b).1) (by rw [Int.mul_assoc, ez, Int.mul_assoc]) eT q)
  have ct : t.natAbs ≤ P.natAbs := by
    have q := mulAbs (m := 1) (n := 1) (a := fvW (halfP a).2) (b := fvW (halfP b).2) (c := fvW a) (d := fvW b) (half1 sa.2) (half1 sb.2)
    exact half5 (unUU et eT q)
  clear sa sb hup
  -- the products of the halves lose nothing
  have Fx : IsF x := grid dx (Nat.le_trans bx (Nat.pow_le_pow_right (by decide) (by omega)))
  have Fy : IsF y := by
    refine grid dy ?_
    have a1 : 2 ^ (N + g + h) ≤ 2 ^ (27 + (N + g)) := Nat.pow_le_pow_right (by decide) (by omega)
    have a2 : 2 ^ (27 + (N + g)) = 134217728 * 2 ^ (N + g) := by rw [Nat.pow_add]
    have a3 : 2 ^ (53 + (N + g)) = 9007199254740992 * 2 ^ (N + g) := by rw [Nat.pow_add]
    clear la lb b0 cx cy cz ct bx bz bt bP lP hg0 hh0 ha hb fa fb
    omega
  have Fz : IsF z := by
    refine grid dz ?_
    have a1 : 2 ^ (N + g + h) ≤ 2 ^ (27 + (N + h)) := Nat.pow_le_pow_right (by decide) (by omega)
    have a2 : 2 ^ (27 + (N + h)) = 134217728 * 2 ^ (N + h) := by rw [Nat.pow_add]
    have a3 : 2 ^ (53 + (N + h)) = 9007199254740992 * 2 ^ (N + h) := by rw [Nat.pow_add]
    clear la lb b0 cx cy cz ct bx by' bt bP lP hg0 hh0 ha hb fa fb
    omega
  have Ft : IsF t := by
    refine grid dt ?_
    have a1 : 2 ^ (N + g + h) ≤ 2 ^ (54 + N) := Nat.pow_le_pow_right (by decide) (by omega)
    have a2 : 2 ^ (54 + N) = 18014398509481984 * 2 ^ N := by rw [Nat.pow_add]
    have a3 : 2 ^ (53 + N) = 9007199254740992 * 2 ^ N := by rw [Nat.pow_add]
    clear la lb b0 cx cy cz ct bx by' bz bP lP hg0 hh0 ha hb fa fb
    omega
  obtain ⟨f0, r0⟩ := ti_fin ha hb fa fb eT (bq0 b0)
  obtain ⟨f1, r1⟩ := ti_fin Ta.w1 Tb.w1 Ta.f1 Tb.f1 ex (bq4 b0 cx)
  obtain ⟨f2, r2⟩ := ti_fin Ta.w1 Tb.w2 Ta.f1 Tb.f2 ey (bq1 b0 cy)
  obtain ⟨f3, r3⟩ := ti_fin Ta.w2 Tb.w1 Ta.f2 Tb.f1 ez (bq1 b0 cz)
  obtain ⟨f4, r4⟩ := ti_fin Ta.w2 Tb.w2 Ta.f2 Tb.f2 et (bq1 b0 ct)
  have o1 := r1.own Fx
  have o2 := r2.own Fy
  have o3 := r3.own Fz
  have o4 := r4.own Ft
  have n0 : (fvW (tiW a b) - P).natAbs ≤ P.natAbs := by have := r0.near 0 IsF.zero; simpa using this
  have B1 := p_bound1 eP n0 b0 cy cz ct
  obtain ⟨f5, r5⟩ := mi_fin (ti_wd (halfP a).1 (halfP b).1) (ti_wd a b) f1 f0 (by rw [o1]; exact B1)
  rw [o1] at r5
  have t5 := tiny (Q := QQ) r5.rel (le34 B1)
  have B2 := p_bound2 eP n0 b0 cz ct t5
  obtain ⟨f6, r6⟩ := pl_fin (mi_wd (tiW (halfP a).1 (halfP b).1) (tiW a b)) (ti_wd (halfP a).1 (halfP b).2) f5 f2 (by rw [o2]; exact B2)
  rw [o2] at r6
  have t6 := tiny (Q := QQ) r6.rel (le34 B2)
  have B3 := p_bound3 eP n0 b0 ct t5 t6
  obtain ⟨f7, r7⟩ := pl_fin (pl_wd (miW (tiW (halfP a).1 (halfP b).1) (tiW a b)) (tiW (halfP a).1 (halfP b).2)) (ti_wd (halfP a).2 (halfP b).1) f6 f3 (by rw [o3]; exact B3)
  rw [o3] at r7
  have t7 := tiny (Q := QQ) r7.rel (le34 B3)
  have B4 := p_bound4 eP n0 b0 t5 t6 t7
  obtain ⟨f8, r8⟩ := pl_fin (pl_wd (plW (miW (tiW (halfP a).1 (halfP b).1) (tiW a b)) (tiW (halfP a).1 (halfP b).2)) (tiW (halfP a).2 (halfP b).1)) (ti_wd (halfP a).2 (halfP b).2) f7 f4 (by rw [o4]; exact B4)
  rw [o4] at r8
  exact ⟨ti_wd _ _, pl_wd _ _, f0, f8, prod_core g27 h27 eP dx dy dz dt by' bz bt bP lP hg0 hh0 r0 r5 r6 r7 r8⟩
end Go.Proofs.Ythilnddhehbjiab

/- P5.7 of Add, by values: sums of good pairs are off by at most 2^-104 of their size. -/
namespace Go.Proofs.Ythilnddhehbjiab.J
set_option linter.unusedVariables false
set_option maxRecDepth 20000

/-- Quick, where the first one lies on the second one's grid. -/
theorem backG {a b s : Int} {k : Nat} (da : (2 : Int) ^ k ∣ a) (db : (2 : Int) ^ k ∣ b) (hb : b.natAbs < 2 ^ (53 + k)) (h : IsRn (a + b) s) (hab : a.natAbs < b.natAbs) : IsF (s - a) := by
  have hV := Int.dvd_add da db
  have hs := h.dvd hV
  by_cases hm : (a + b).natAbs ≤ 2 ^ (53 + k)
  · rw [h.own (grid hV hm), show a + b - a = b by omega]; exact grid db (Nat.le_of_lt hb)
  · have e : 2 ^ (53 + (k + 1)) = 2 * 2 ^ (53 + k) := by rw [show 53 + (k + 1) = 53 + k + 1 from rfl, Nat.pow_succ, Nat.mul_comm]
    have he := h.err (k := k) (by omega)
    have hb' : b.natAbs + 2 ^ k ≤ 2 ^ (53 + k) := by
      obtain ⟨q, hq⟩ := db
      rw [hq, Int.natAbs_mul, natAbs_p2, Nat.pow_add, Nat.mul_comm (2 ^ 53)] at hb ⊢
      have := Nat.lt_of_mul_lt_mul_left hb
      calc 2 ^ k * q.natAbs + 2 ^ k = 2 ^ k * (q.natAbs + 1) := by rw [Nat.mul_succ]
        _ ≤ 2 ^ k * 2 ^ 53 := Nat.mul_le_mul_left _ (by omega)
    exact grid (Int.dvd_sub hs da) (by omega)
theorem quick_gen {a b s t l : Int} (ha : IsF a) (hb : IsF b) (hc : b.natAbs ≤ a.natAbs ∨ ∃ k : Nat, (2 : Int) ^ k ∣ a ∧ (2 : Int) ^ k ∣ b ∧ b.natAbs < 2 ^ (53 + k)) (h1 : IsRn (a + b) s) (h2 : IsRn (s - a) t) (h3 : IsRn (b - t) l) : s + l = a + b := by
  by_cases hab : b.natAbs ≤ a.natAbs
  · exact quick_just ha hb hab h1 h2 h3
  · rcases hc with hc | ⟨k, d1, d2, d3⟩
    · exact absurd hc hab
    · have e1 := h2.own (backG d1 d2 d3 h1 (by omega))
      subst e1
      have := h3.own (by have := lostF ha hb h1; rwa [show b - (s - a) = a + b - s from by omega])
      omega

/-- Half a step, by a unit. -/
theorem err_le {V s : Int} {n j : Nat} (h : IsRn V s) (hV : V.natAbs ≤ 2 ^ (54 + j) * 2 ^ n) : (s - V).natAbs ≤ 2 ^ j * 2 ^ n := by
  have := h.err (k := j + n) (by rw [show 53 + (j + n + 1) = 54 + j + n by omega, Nat.pow_add]; exact hV)
  rwa [Nat.pow_add] at this
theorem rn_le {V s : Int} {n j : Nat} (h : IsRn V s) (hV : V.natAbs ≤ 2 ^ j * 2 ^ n) : s.natAbs ≤ 2 ^ j * 2 ^ n := by
  rw [← Nat.pow_add] at hV ⊢; exact h.abs_le hV

/-- The steps of Add. -/
structure AddS (xh xl yh yl s s2 t t2 c v v2 w h l : Int) : Prop where
  rs : IsRn (xh + yh) s
  es : s + s2 = xh + yh
  rt : IsRn (xl + yl) t
  et : t + t2 = xl + yl
  ft2 : IsF t2
  rc : IsRn (s2 + t) c
  rv : IsRn (s + c) v
  qv : (c.natAbs ≤ s.natAbs ∨ ∃ k : Nat, (2 : Int) ^ k ∣ s ∧ (2 : Int) ^ k ∣ c ∧ c.natAbs < 2 ^ (53 + k)) → v + v2 = s + c
  fv2 : IsF v2
  rw' : IsRn (t2 + v2) w
  qh : (w.natAbs ≤ v.natAbs ∨ ∃ k : Nat, (2 : Int) ^ k ∣ v ∧ (2 : Int) ^ k ∣ w ∧ w.natAbs < 2 ^ (53 + k)) → h + l = v + w

theorem AddS.swap {xh xl yh yl s s2 t t2 c v v2 w h l : Int} (A : AddS xh xl yh yl s s2 t t2 c v v2 w h l) : AddS yh yl xh xl s s2 t t2 c v v2 w h l :=
  ⟨by rw [Int.add_comm]; exact A.rs, by rw [A.es, Int.add_comm], by rw [Int.add_comm]; exact A.rt, by rw [A.et, Int.add_comm], A.ft2, A.rc, A.rv, A.qv, A.fv2, A.rw', A.qh⟩
theorem AddS.neg {xh xl yh yl s s2 t t2 c v v2 w h l : Int} (A : AddS xh xl yh yl s s2 t t2 c v v2 w h l) : AddS (-xh) (-xl) (-yh) (-yl) (-s) (-s2) (-t) (-t2) (-c) (-v) (-v2) (-w) (-h) (-l) :=
  ⟨by have := A.rs.neg; rwa [show -xh + -yh = -(xh + yh) by omega], by have := A.es; omega, by have := A.rt.neg; rwa [show -xl + -yl = -(xl + yl) by omega], by have := A.et; omega, A.ft2.neg, by have := A.rc.neg; rwa [show -s2 + -t = -(s2 + t) by omega], by have := A.rv.neg; rwa [show -s + -c = -(s + c) by omega],
    fun hh => by
      have := A.qv (by
        rcases hh with q | ⟨k, d1, d2, d3⟩
        · left; omega
        · exact .inr ⟨k, (Int.dvd_neg).1 d1, (Int.dvd_neg).1 d2, by omega⟩)
      omega, A.fv2.neg, by have := A.rw'.neg; rwa [show -t2 + -v2 = -(t2 + v2) by omega],
    fun hh => by
      have := A.qh (by
        rcases hh with q | ⟨k, d1, d2, d3⟩
        · left; omega
        · exact .inr ⟨k, (Int.dvd_neg).1 d1, (Int.dvd_neg).1 d2, by omega⟩)
      omega⟩

/-- What comes of the bounds. -/
theorem add_fin {z a e1 e2 off : Int} {E : Nat} (hoff : off = e1 + e2) {B : Nat} (b : e1.natAbs + e2.natAbs ≤ B * E) (low : 20282409603651670423947251286016 * B * E ≤ a.natAbs) : 20282409603651670423947251286016 * off.natAbs ≤ a.natAbs := by
  have h1 : off.natAbs ≤ B * E := by omega
  have h2 := Nat.mul_le_mul_left 20282409603651670423947251286016 h1
  rw [← Nat.mul_assoc] at h2
  omega
end Go.Proofs.Ythilnddhehbjiab.J

/- P5.7 of Add, by values: where not much is lost. -/
namespace Go.Proofs.Ythilnddhehbjiab.J
set_option linter.unusedVariables false
set_option maxRecDepth 20000

theorem two_side {x : Int} {m : Nat} (h : x.natAbs ≤ m) : -(m : Int) ≤ x ∧ x ≤ m := by omega
theorem abs_of {x : Int} {m : Nat} (h1 : -(m : Int) ≤ x) (h2 : x ≤ m) : x.natAbs ≤ m := by omega
theorem err_i {V r : Int} {n : Nat} (j : Nat) (M m E : Int) (hM : ((2 ^ (54 + j) : Nat) : Int) = M) (hm : ((2 ^ j : Nat) : Int) = m) (hE : ((2 ^ n : Nat) : Int) = E) (h : IsRn V r) (h1 : -(M * E) ≤ V) (h2 : V ≤ M * E) : -(m * E) ≤ r - V ∧ r - V ≤ m * E := by
  have := two_side (err_le (n := n) (j := j) h (abs_of (by rw [Int.natCast_mul, hM, hE]; exact h1) (by rw [Int.natCast_mul, hM, hE]; exact h2)))
  rw [Int.natCast_mul, hm, hE] at this
  exact this
theorem rn_i {V r : Int} {n : Nat} (j : Nat) (m E : Int) (hm : ((2 ^ j : Nat) : Int) = m) (hE : ((2 ^ n : Nat) : Int) = E) (h : IsRn V r) (h1 : -(m * E) ≤ V) (h2 : V ≤ m * E) : -(m * E) ≤ r ∧ r ≤ m * E := by
  have := two_side (rn_le (n := n) (j := j) h (abs_of (by rw [Int.natCast_mul, hm, hE]; exact h1) (by rw [Int.natCast_mul, hm, hE]; exact h2)))
  rw [Int.natCast_mul, hm, hE] at this
  exact this
theorem low_i {xh xl : Int} {n : Nat} (j : Nat) (M m E : Int) (hM : ((2 ^ (54 + j) : Nat) : Int) = M) (hm : ((2 ^ j : Nat) : Int) = m) (hE : ((2 ^ n : Nat) : Int) = E) (hx : IsRn (xh + xl) xh) (h1 : -(M * E) < xh) (h2 : xh < M * E) : -(m * E) ≤ xl ∧ xl ≤ m * E := by
  have hF := IsF.pow (54 + j + n)
  have hp : (2 : Int) ^ (54 + j + n) = M * E := by rw [← p2c, Nat.pow_add, Int.natCast_mul, hM, hE]
  rw [hp] at hF
  have b1 : xh + xl ≤ M * E := by
    apply Int.le_of_not_gt; intro hlt
    have := hx.ge hF (by omega); omega
  have b2 : -(M * E) ≤ xh + xl := by
    apply Int.le_of_not_gt; intro hlt
    have := hx.le hF.neg (by omega); omega
  have := err_i j M m E hM hm hE hx b2 b1
  omega
theorem fin_i {a off : Int} {E B : Int} (b1 : -(B * E) ≤ off) (b2 : off ≤ B * E) (low : 20282409603651670423947251286016 * (B * E) ≤ a) : 20282409603651670423947251286016 * off.natAbs ≤ a.natAbs := by omega
theorem inl_i {c s : Int} (h1 : -s ≤ c) (h2 : c ≤ s) : c.natAbs ≤ s.natAbs ∨ ∃ k : Nat, (2 : Int) ^ k ∣ s ∧ (2 : Int) ^ k ∣ c ∧ c.natAbs < 2 ^ (53 + k) := .inl (by omega)
theorem three_i {V r : Int} {n : Nat} (E : Int) (hE : ((2 ^ n : Nat) : Int) = E) (h : IsRn V r) (h1 : -(54043195528445952 * E) ≤ V) (h2 : V ≤ 54043195528445952 * E) : -(54043195528445952 * E) ≤ r ∧ r ≤ 54043195528445952 * E := by
  have hF : IsF (54043195528445952 * E) := ⟨3, 54 + n, by rw [Int.pow_add, ← hE, p2c]; omega, by omega, by omega⟩
  have a1 := h.le hF h2
  have a2 := h.ge hF.neg h1
  omega

set_option maxHeartbeats 4000000 in
/-- The sum is at least half of the greater one. -/
theorem add_far {xh xl yh yl s s2 t t2 c v v2 w h l : Int} (A : AddS xh xl yh yl s s2 t t2 c v v2 w h l) (hx : IsRn (xh + xl) xh) (hy : IsRn (yh + yl) yh) {n : Nat} {E : Int} (hE : ((2 ^ n : Nat) : Int) = E) (x0 : 324518553658426726783156020576256 * E ≤ xh) (x1 : xh < 649037107316853453566312041152512 * E) (y0 : -xh ≤ yh) (y1 : yh ≤ xh) (hz : xh < 2 * (xh + yh)) :
    20282409603651670423947251286016 * (h + l - (xh + xl + (yh + yl))).natAbs ≤ (xh + xl + (yh + yl)).natAbs := by
  have hE0 : 0 < E := by rw [← hE]; have := Nat.two_pow_pos n; omega
  obtain ⟨lx0, lx1⟩ := low_i 55 649037107316853453566312041152512 36028797018963968 E rfl rfl hE hx (by omega) x1
  obtain ⟨ly0, ly1⟩ := low_i 55 649037107316853453566312041152512 36028797018963968 E rfl rfl hE hy (by omega) (by omega)
  have es := A.es
  have et := A.et
  obtain ⟨rs, rt, rc, rv, rw'⟩ := And.intro A.rs (And.intro A.rt (And.intro A.rc (And.intro A.rv A.rw')))
  have qv := A.qv
  have qh := A.qh
  clear A
  by_cases c1 : xh + yh < 324518553658426726783156020576256 * E
  · obtain ⟨m0, m1⟩ := low_i 54 324518553658426726783156020576256 18014398509481984 E rfl rfl hE hy (by omega) (by omega)
    clear hx hy ly0 ly1
    obtain ⟨k1, k1'⟩ := err_i 54 324518553658426726783156020576256 18014398509481984 E rfl rfl hE rs (by omega) (by omega)
    obtain ⟨kt, kt'⟩ := three_i E hE rt (by omega) (by omega)
    obtain ⟨k2, k2'⟩ := err_i 2 72057594037927936 4 E rfl rfl hE rt (by omega) (by omega)
    obtain ⟨k3, k3'⟩ := err_i 2 72057594037927936 4 E rfl rfl hE rc (by omega) (by omega)
    obtain ⟨kc, kc'⟩ := rn_i 56 72057594037927936 E rfl hE rc (by omega) (by omega)
    have ev := qv (inl_i (by omega) (by omega))
    by_cases c2 : s + c ≤ 324518553658426726783156020576256 * E
    · obtain ⟨k4, k4'⟩ := err_i 54 324518553658426726783156020576256 18014398509481984 E rfl rfl hE rv (by omega) (by omega)
      obtain ⟨k5, k5'⟩ := err_i 1 36028797018963968 2 E rfl rfl hE rw' (by omega) (by omega)
      have eh := qh (inl_i (by omega) (by omega))
      exact fin_i (E := E) (B := 6) (by omega) (by omega) (by omega)
    · obtain ⟨k4, k4'⟩ := err_i 55 649037107316853453566312041152512 36028797018963968 E rfl rfl hE rv (by omega) (by omega)
      obtain ⟨k5, k5'⟩ := err_i 2 72057594037927936 4 E rfl rfl hE rw' (by omega) (by omega)
      have eh := qh (inl_i (by omega) (by omega))
      exact fin_i (E := E) (B := 8) (by omega) (by omega) (by omega)
  · by_cases c3 : xh + yh < 649037107316853453566312041152512 * E
    · obtain ⟨m0, m1⟩ := low_i 54 324518553658426726783156020576256 18014398509481984 E rfl rfl hE hy (by omega) (by omega)
      clear hx hy ly0 ly1
      obtain ⟨k1, k1'⟩ := err_i 55 649037107316853453566312041152512 36028797018963968 E rfl rfl hE rs (by omega) (by omega)
      obtain ⟨kt, kt'⟩ := three_i E hE rt (by omega) (by omega)
      obtain ⟨k2, k2'⟩ := err_i 2 72057594037927936 4 E rfl rfl hE rt (by omega) (by omega)
      obtain ⟨k3, k3'⟩ := err_i 3 144115188075855872 8 E rfl rfl hE rc (by omega) (by omega)
      obtain ⟨kc, kc'⟩ := rn_i 57 144115188075855872 E rfl hE rc (by omega) (by omega)
      have ev := qv (inl_i (by omega) (by omega))
      by_cases c2 : s + c ≤ 649037107316853453566312041152512 * E
      · obtain ⟨k4, k4'⟩ := err_i 55 649037107316853453566312041152512 36028797018963968 E rfl rfl hE rv (by omega) (by omega)
        obtain ⟨k5, k5'⟩ := err_i 2 72057594037927936 4 E rfl rfl hE rw' (by omega) (by omega)
        have eh := qh (inl_i (by omega) (by omega))
        exact fin_i (E := E) (B := 12) (by omega) (by omega) (by omega)
      · obtain ⟨k4, k4'⟩ := err_i 56 1298074214633706907132624082305024 72057594037927936 E rfl rfl hE rv (by omega) (by omega)
        obtain ⟨k5, k5'⟩ := err_i 3 144115188075855872 8 E rfl rfl hE rw' (by omega) (by omega)
        have eh := qh (inl_i (by omega) (by omega))
        exact fin_i (E := E) (B := 16) (by omega) (by omega) (by omega)
    · clear hx hy
      obtain ⟨k1, k1'⟩ := err_i 56 1298074214633706907132624082305024 72057594037927936 E rfl rfl hE rs (by omega) (by omega)
      obtain ⟨kt, kt'⟩ := rn_i 56 72057594037927936 E rfl hE rt (by omega) (by omega)
      obtain ⟨k2, k2'⟩ := err_i 2 72057594037927936 4 E rfl rfl hE rt (by omega) (by omega)
      obtain ⟨k3, k3'⟩ := err_i 3 144115188075855872 8 E rfl rfl hE rc (by omega) (by omega)
      obtain ⟨kc, kc'⟩ := rn_i 57 144115188075855872 E rfl hE rc (by omega) (by omega)
      have ev := qv (inl_i (by omega) (by omega))
      obtain ⟨k4, k4'⟩ := err_i 57 2596148429267413814265248164610048 144115188075855872 E rfl rfl hE rv (by omega) (by omega)
      obtain ⟨k5, k5'⟩ := err_i 4 288230376151711744 16 E rfl rfl hE rw' (by omega) (by omega)
      have eh := qh (inl_i (by omega) (by omega))
      exact fin_i (E := E) (B := 24) (by omega) (by omega) (by omega)
end Go.Proofs.Ythilnddhehbjiab.J

/- P5.7 of Add, by values: where much is lost; all together. -/
namespace Go.Proofs.Ythilnddhehbjiab.J
set_option linter.unusedVariables false
set_option maxRecDepth 20000

theorem close_nat {a b e A T X V W Z tv : Nat} (r1 : 4503599627370496 * 2 * b ≤ A) (r2 : 4503599627370496 * 2 * a ≤ X) (xt : X ≤ T + a) (b1 : T < A) (r3 : 4503599627370496 * 2 * e ≤ tv) (s1 : tv ≤ a + b) (vs : A ≤ V + b) (ws : W ≤ e + (a + b)) (ab : A ≤ Z + a) : W ≤ V ∧ 20282409603651670423947251286016 * e ≤ Z := by
  constructor <;> omega
set_option maxHeartbeats 4000000 in
/-- The sum is at most half of the greater one: then it is exact. -/
theorem add_close {xh xl yh yl s s2 t t2 c v v2 w h l : Int} (A : AddS xh xl yh yl s s2 t t2 c v v2 w h l) (hx : IsRn (xh + xl) xh) (hy : IsRn (yh + yl) yh) {n : Nat} {E : Int} (hE : ((2 ^ n : Nat) : Int) = E) (x0 : 324518553658426726783156020576256 * E ≤ xh) (x1 : xh < 649037107316853453566312041152512 * E) (y0 : -xh ≤ yh) (hz : 2 * (xh + yh) ≤ xh) :
    20282409603651670423947251286016 * (h + l - (xh + xl + (yh + yl))).natAbs ≤ (xh + xl + (yh + yl)).natAbs := by
  have hE0 : 0 < E := by rw [← hE]; have := Nat.two_pow_pos n; omega
  obtain ⟨lx0, lx1⟩ := low_i 55 649037107316853453566312041152512 36028797018963968 E rfl rfl hE hx (by omega) x1
  obtain ⟨ly0, ly1⟩ := low_i 55 649037107316853453566312041152512 36028797018963968 E rfl rfl hE hy (by omega) (by omega)
  have es := A.es
  have et := A.et
  -- the first sum loses nothing
  have zF : IsF (xh + yh) := by
    have := nearF hx.f hy.f.neg (by omega) (by omega)
    rwa [show xh - -yh = xh + yh by omega] at this
  have s_eq := A.rs.own zF
  have s2z : s2 = 0 := by omega
  have ce : c = t := by
    have := A.rc.own (by rw [s2z, Int.zero_add]; exact A.rt.f)
    omega
  -- places
  have pE : ∀ j : Nat, ((2 ^ (j + n) : Nat) : Int) = ((2 ^ j : Nat) : Int) * E := by intro j; rw [Nat.pow_add, Int.natCast_mul, hE]
  have dx : (2 : Int) ^ (55 + n) ∣ xh := by
    refine Int.dvd_trans (pdvd (show 55 + n ≤ 56 + n by omega)) (hx.f.dvd' ?_)
    have := pE 108
    rw [show 52 + (56 + n) = 108 + n by omega]
    have h2 : ((2 ^ 108 : Nat) : Int) = 324518553658426726783156020576256 := rfl
    omega
  have dy : (2 : Int) ^ (55 + n) ∣ yh := by
    refine hy.f.dvd' ?_
    have := pE 107
    rw [show 52 + (55 + n) = 107 + n by omega]
    have h2 : ((2 ^ 107 : Nat) : Int) = 162259276829213363391578010288128 := rfl
    omega
  have ds : (2 : Int) ^ (55 + n) ∣ s := by rw [s_eq]; exact Int.dvd_add dx dy
  obtain ⟨kt0, kt1⟩ := rn_i 56 72057594037927936 E rfl hE A.rt (by omega) (by omega)
  obtain ⟨k, p1, p2, p3⟩ := A.rt.f.placed
  have hk : k ≤ 55 + n := by
    rcases p2 with p2 | p2
    · omega
    · have h1 := pE 56
      have h2 : ((2 ^ 56 : Nat) : Int) = 72057594037927936 := rfl
      have h3 : 2 ^ (52 + k) ≤ 2 ^ (56 + n) := by omega
      have := (Nat.pow_le_pow_iff_right (by decide : 1 < 2)).1 h3
      omega
  have dsk : (2 : Int) ^ k ∣ s := Int.dvd_trans (pdvd hk) ds
  have ev : v + v2 = s + t := by
    have := A.qv (.inr ⟨k, dsk, by rw [ce]; exact p3, by rw [ce]; exact p1⟩)
    omega
  have rv : IsRn (s + t) v := by have := A.rv; rwa [ce] at this
  have r1 := rv.rel
  have r2 := A.rt.rel
  have r3 := A.rw'.rel
  clear hx hy dx dy ds lx0 lx1 ly0 ly1 kt0 kt1
  by_cases ht : t2 = 0
  · have we : w = v2 := by
      have := A.rw'.own (by rw [ht, Int.zero_add]; exact A.fv2)
      omega
    have eh := A.qh (.inl (by omega))
    have : h + l - (xh + xl + (yh + yl)) = 0 := by omega
    rw [this]; simp
  · by_cases hv : v2 = 0
    · have we : w = t2 := by
        have := A.rw'.own (by rw [hv, Int.add_zero]; exact A.ft2)
        omega
      obtain ⟨kw, q1, q2, q3⟩ := A.ft2.placed
      have hkw : kw ≤ k := by
        rcases q2 with q2 | q2
        · omega
        · have e1 : 2 ^ (53 + k) = 4503599627370496 * 2 ^ (k + 1) := by rw [show 53 + k = 52 + (k + 1) by omega, Nat.pow_add]
          have h3 : 2 ^ (52 + kw) < 2 ^ (k + 1) := by omega
          have := (Nat.pow_lt_pow_iff_right (by decide : 1 < 2)).1 h3
          omega
      have dv : (2 : Int) ^ kw ∣ v := by
        have : v = s + t := by omega
        rw [this]; exact Int.dvd_trans (pdvd hkw) (Int.dvd_add dsk p3)
      have eh := A.qh (.inr ⟨kw, dv, by rw [we]; exact q3, by rw [we]; exact q1⟩)
      have : h + l - (xh + xl + (yh + yl)) = 0 := by omega
      rw [this]; simp
    · have big : 2 ^ (53 + k) < (s + t).natAbs := by
        apply Nat.lt_of_not_le; intro hle
        have := rv.own (grid (Int.dvd_add dsk p3) hle)
        omega
      have b1 : t.natAbs < (s + t).natAbs := by omega
      have tt : (t - (xl + yl)).natAbs = t2.natAbs := by omega
      have vv : (v - (s + t)).natAbs = v2.natAbs := by omega
      rw [vv] at r1
      rw [tt] at r2
      have xt : (xl + yl).natAbs ≤ t.natAbs + t2.natAbs := by omega
      obtain ⟨e2, he2⟩ : ∃ e2 : Int, w - (t2 + v2) = e2 := ⟨_, rfl⟩
      rw [he2] at r3
      have s1 : (t2 + v2).natAbs ≤ t2.natAbs + v2.natAbs := by omega
      have vs : (s + t).natAbs ≤ v.natAbs + v2.natAbs := by omega
      have ws : w.natAbs ≤ e2.natAbs + (t2.natAbs + v2.natAbs) := by omega
      have tot : xh + xl + (yh + yl) = s + t + t2 := by omega
      have ab : (s + t).natAbs ≤ (s + t + t2).natAbs + t2.natAbs := by omega
      rw [tot]
      obtain ⟨f1, f2⟩ := close_nat r1 r2 xt b1 r3 s1 vs ws ab
      have eh := A.qh (.inl f1)
      have off : h + l - (s + t + t2) = e2 := by omega
      rw [off]
      exact f2

/-- Good pairs: what is nought, or great, and what is told of it. -/
structure GoodP (xh xl : Int) : Prop where
  rn : IsRn (xh + xl) xh
  fl : IsF xl
  big : xh = 0 ∧ xl = 0 ∨ 2 ^ 200 ≤ xh.natAbs
theorem GoodP.neg {xh xl : Int} (h : GoodP xh xl) : GoodP (-xh) (-xl) := ⟨by have := h.rn.neg; rwa [show -xh + -xl = -(xh + xl) by omega], h.fl.neg, by have := h.big; omega⟩
theorem add_pos {xh xl yh yl s s2 t t2 c v v2 w h l : Int} (A : AddS xh xl yh yl s s2 t t2 c v v2 w h l) (hx : GoodP xh xl) (hy : GoodP yh yl) (xp : 0 < xh) (hyx : yh.natAbs ≤ xh.natAbs) :
    20282409603651670423947251286016 * (h + l - (xh + xl + (yh + yl))).natAbs ≤ (xh + xl + (yh + yl)).natAbs := by
  obtain ⟨k, k1, k2, k3⟩ := hx.rn.f.placed
  have hbig : 2 ^ 200 ≤ xh.natAbs := by rcases hx.big with q | q; omega; exact q
  have hk : 56 ≤ k := by
    have := (Nat.pow_lt_pow_iff_right (by decide : 1 < 2)).1 (Nat.lt_of_le_of_lt hbig k1)
    omega
  have k2' : 2 ^ (52 + k) ≤ xh.natAbs := by rcases k2 with q | q; omega; exact q
  obtain ⟨n, rfl⟩ : ∃ n, k = 56 + n := ⟨k - 56, by omega⟩
  rw [show 52 + (56 + n) = 108 + n by omega, Nat.pow_add] at k2'
  rw [show 53 + (56 + n) = 109 + n by omega, Nat.pow_add] at k1
  have e1 : (2 : Nat) ^ 108 = 324518553658426726783156020576256 := rfl
  have e2 : (2 : Nat) ^ 109 = 649037107316853453566312041152512 := rfl
  rw [e1] at k2'
  rw [e2] at k1
  by_cases hz : xh < 2 * (xh + yh)
  · exact add_far (n := n) A hx.rn hy.rn rfl (by omega) (by omega) (by omega) (by omega) hz
  · exact add_close (n := n) A hx.rn hy.rn rfl (by omega) (by omega) (by omega) (by omega)
theorem add_one {xh xl yh yl s s2 t t2 c v v2 w h l : Int} (A : AddS xh xl yh yl s s2 t t2 c v v2 w h l) (hx : GoodP xh xl) (hy : GoodP yh yl) (x0 : xh ≠ 0) (hyx : yh.natAbs ≤ xh.natAbs) :
    20282409603651670423947251286016 * (h + l - (xh + xl + (yh + yl))).natAbs ≤ (xh + xl + (yh + yl)).natAbs := by
  rcases Int.lt_or_gt_of_ne x0 with q | q
  · have := add_pos A.neg hx.neg hy.neg (by omega) (by omega)
    omega
  · exact add_pos A hx hy q hyx
/-- P5.7 of Add. -/
theorem add_near {xh xl yh yl s s2 t t2 c v v2 w h l : Int} (A : AddS xh xl yh yl s s2 t t2 c v v2 w h l) (hx : GoodP xh xl) (hy : GoodP yh yl) :
    20282409603651670423947251286016 * (h + l - (xh + xl + (yh + yl))).natAbs ≤ (xh + xl + (yh + yl)).natAbs := by
  by_cases hxy : yh.natAbs ≤ xh.natAbs
  · by_cases x0 : xh = 0
    · -- all is nought
      have y0 : yh = 0 := by omega
      have hp : 0 < 2 ^ 200 := Nat.two_pow_pos _
      have xl0 : xl = 0 := by rcases hx.big with q | q; exact q.2; omega
      have yl0 : yl = 0 := by rcases hy.big with q | q; exact q.2; omega
      have z1 := A.rs.own (by rw [x0, y0]; exact IsF.zero)
      have z2 := A.es
      have z3 := A.rt.own (by rw [xl0, yl0]; exact IsF.zero)
      have z4 := A.et
      have z5 := A.rc.own (by rw [show s2 + t = 0 by omega]; exact IsF.zero)
      have z6 := A.rv.own (by rw [show s + c = 0 by omega]; exact IsF.zero)
      have z7 := A.qv (.inl (by omega))
      have z8 := A.rw'.own (by rw [show t2 + v2 = 0 by omega]; exact IsF.zero)
      have z9 := A.qh (.inl (by omega))
      have : h + l - (xh + xl + (yh + yl)) = 0 := by omega
      rw [this]; simp
    · exact add_one A hx hy x0 hxy
  · have := add_one A.swap hy hx (by omega) (by omega)
    rwa [show yh + yl + (xh + xl) = xh + xl + (yh + yl) by omega] at this
end Go.Proofs.Ythilnddhehbjiab.J

/- P5.7 of Mul, by values: products of good pairs are off by at most 2^-103 of their size. -/
namespace Go.Proofs.Ythilnddhehbjiab
open Go.RowKit J
set_option linter.unusedVariables false
set_option maxRecDepth 20000
set_option linter.unusedSimpArgs false

/-- What a product (in units of 2^-2148) is rounded to. -/
structure IsRq (V s : Int) : Prop where
  f : IsF s
  near : ∀ f, IsF f → (s * (UU : Int) - V).natAbs ≤ (f * (UU : Int) - V).natAbs

theorem errq {V s : Int} {k : Nat} (h : IsRq V s) (h1 : -((2 ^ (53 + (k + 1)) : Nat) * (UU : Int)) ≤ V) (h2 : V ≤ (2 ^ (53 + (k + 1)) : Nat) * (UU : Int)) : (s * (UU : Int) - V).natAbs ≤ 2 ^ k * UU := by
  have hU : (0 : Int) < (UU : Int) := by have := U_pos; omega
  obtain ⟨M, hM⟩ : ∃ M : Int, ((2 ^ (53 + (k + 1)) : Nat) : Int) = M := ⟨_, rfl⟩
  obtain ⟨K, hK⟩ : ∃ K : Int, (2 : Int) ^ (k + 1) = K := ⟨_, rfl⟩
  have hK0 : 0 < K := by rw [← hK]; exact p2pos _
  have hMK : M = K * 9007199254740992 := by rw [← hM, ← hK, p2c, Nat.add_comm, Int.pow_add]; rfl
  rw [hM] at h1 h2
  by_cases hV : V = M * (UU : Int)
  · have hF : IsF M := by rw [← hM, p2c]; exact IsF.pow _
    have := h.near M hF
    rw [hV] at this ⊢
    rw [Int.sub_self] at this
    simp at this
    rw [this]; simp
  · -- between two multiples
    have e0 := Int.mul_ediv_add_emod V (UU : Int)
    have e1 := Int.emod_nonneg V (Int.ne_of_gt hU)
    have e2 := Int.emod_lt_of_pos V hU
    obtain ⟨V0, hV0⟩ : ∃ V0, V / (UU : Int) = V0 := ⟨_, rfl⟩
    obtain ⟨r, hr⟩ : ∃ r, V % (UU : Int) = r := ⟨_, rfl⟩
    rw [hV0, hr] at e0
    rw [hr] at e1 e2
    have b1 : V0 < M := by
      apply Int.lt_of_not_ge; intro hge
      have := Int.mul_le_mul_of_nonneg_left hge (Int.le_of_lt hU)
      rw [Int.mul_comm (UU : Int) M] at this
      omega
    have b2 : -M ≤ V0 := by
      apply Int.le_of_not_gt; intro hlt
      have := Int.mul_le_mul_of_nonneg_left (show V0 + 1 ≤ -M by omega) (Int.le_of_lt hU)
      rw [Int.mul_add, Int.mul_one, Int.mul_neg, Int.mul_comm (UU : Int) M] at this
      omega
    have m0 := Int.emod_nonneg V0 (Int.ne_of_gt hK0)
    have m1 := Int.emod_lt_of_pos V0 hK0
    have dl : K ∣ V0 - V0 % K := Int.dvd_self_sub_emod
    obtain ⟨lo, hlo⟩ : ∃ lo, V0 - V0 % K = lo := ⟨_, rfl⟩
    rw [hlo] at dl
    obtain ⟨q, hq⟩ := dl
    have q1 : q < 9007199254740992 := by
      apply Int.lt_of_not_ge; intro hge
      have := Int.mul_le_mul_of_nonneg_left hge (Int.le_of_lt hK0)
      omega
    have q2 : -9007199254740992 ≤ q := by
      apply Int.le_of_not_gt; intro hlt
      have := Int.mul_le_mul_of_nonneg_left (show q + 1 ≤ -9007199254740992 by omega) (Int.le_of_lt hK0)
      rw [Int.mul_add, Int.mul_one] at this
      omega
    have F1 : IsF lo := ⟨q, k + 1, by rw [hq, hK, Int.mul_comm], by omega, by omega⟩
    have F2 : IsF (lo + K) := ⟨q + 1, k + 1, by rw [hq, hK, Int.add_mul, Int.one_mul, Int.mul_comm], by omega, by omega⟩
    have n1 := h.near _ F1
    have n2 := h.near _ F2
    have c1 : lo * (UU : Int) ≤ V0 * (UU : Int) := Int.mul_le_mul_of_nonneg_right (by omega) (Int.le_of_lt hU)
    have c2 : (V0 + 1) * (UU : Int) ≤ (lo + K) * (UU : Int) := Int.mul_le_mul_of_nonneg_right (by omega) (Int.le_of_lt hU)
    rw [Int.add_mul, Int.one_mul] at c2
    have e3 : (UU : Int) * V0 = V0 * (UU : Int) := Int.mul_comm _ _
    have e4 : (lo + K) * (UU : Int) = lo * (UU : Int) + K * (UU : Int) := Int.add_mul _ _ _
    have e5 : K * (UU : Int) = 2 * ((2 ^ k * UU : Nat) : Int) := by rw [← hK, Int.pow_succ, Int.natCast_mul, p2c]; simp only [Int.mul_assoc, Int.mul_left_comm, Int.mul_comm]
    omega
/-- The steps of Mul. -/
structure MulS (xh xl yh yl P c c2 p q r x h l : Int) : Prop where
  eP : xh * yh = P * (UU : Int)
  rc : IsRn P c
  ec : c + c2 = P
  rp : IsRq (xh * yl) p
  rq : IsRq (xl * yh) q
  rr : IsRn (p + q) r
  rx : IsRn (c2 + r) x
  qh : x.natAbs ≤ c.natAbs → h + l = c + x

theorem absMul {x y : Int} {a b : Nat} (h1 : x.natAbs ≤ a) (h2 : y.natAbs ≤ b) : (x * y).natAbs ≤ a * b := by rw [Int.natAbs_mul]; exact Nat.mul_le_mul h1 h2
end Go.Proofs.Ythilnddhehbjiab

/- P5.7 of Mul, by values: the ways. -/
namespace Go.Proofs.Ythilnddhehbjiab
open Go.RowKit J
set_option linter.unusedVariables false
set_option maxRecDepth 20000
set_option linter.unusedSimpArgs false

theorem IsRq.neg {V s : Int} (h : IsRq V s) : IsRq (-V) (-s) := ⟨h.f.neg, fun f hf => by
  have := h.near (-f) hf.neg
  rw [Int.neg_mul] at this ⊢
  omega⟩
theorem IsRq.le {V s f : Int} (h : IsRq V s) (hf : IsF f) (hV : V ≤ f * (UU : Int)) : s ≤ f := by
  have hU : (0 : Int) < (UU : Int) := by have := U_pos; omega
  apply Int.le_of_not_gt; intro hlt
  have n := h.near f hf
  have := Int.mul_le_mul_of_nonneg_right (show f + 1 ≤ s by omega) (Int.le_of_lt hU)
  rw [Int.add_mul, Int.one_mul] at this
  omega
theorem IsRq.ge {V s f : Int} (h : IsRq V s) (hf : IsF f) (hV : f * (UU : Int) ≤ V) : f ≤ s := by
  have := h.neg.le hf.neg (by rw [Int.neg_mul]; omega)
  omega
theorem MulS.neg {xh xl yh yl P c c2 p q r x h l : Int} (M : MulS xh xl yh yl P c c2 p q r x h l) : MulS (-xh) (-xl) yh yl (-P) (-c) (-c2) (-p) (-q) (-r) (-x) (-h) (-l) :=
  ⟨by rw [Int.neg_mul, M.eP, Int.neg_mul], M.rc.neg, by have := M.ec; omega, by rw [Int.neg_mul]; exact M.rp.neg, by rw [Int.neg_mul]; exact M.rq.neg, by have := M.rr.neg; rwa [show -p + -q = -(p + q) by omega], by have := M.rx.neg; rwa [show -c2 + -r = -(c2 + r) by omega], fun hh => by have := M.qh (by omega); omega⟩

theorem mulU {a m : Int} (h : a ≤ m) : a * (UU : Int) ≤ m * (UU : Int) := Int.mul_le_mul_of_nonneg_right h (by have := U_pos; omega)
theorem unU {a m : Int} (h : a * (UU : Int) ≤ m * (UU : Int)) : a ≤ m := Int.le_of_mul_le_mul_right h (by have := U_pos; omega)

/-- The last reckoning, all in units of 2^-2148. -/
theorem mul_fin {T PU V1 V2 V3 e3 er ep eq off Z B : Int} (hT : T = PU + V1 + V2 + V3) (ho : off = e3 + er + ep + eq - V3) (v1 : -(18014398509481984 * Z) ≤ V1) (v1' : V1 ≤ 18014398509481984 * Z) (v2 : -(18014398509481984 * Z) ≤ V2) (v2' : V2 ≤ 18014398509481984 * Z) (v3 : -Z ≤ V3) (v3' : V3 ≤ Z)
    (a3 : -(B * Z) ≤ e3) (a3' : e3 ≤ B * Z) (ar : -(2 * Z) ≤ er) (ar' : er ≤ 2 * Z) (ap : -Z ≤ ep) (ap' : ep ≤ Z) (aq : -Z ≤ eq) (aq' : eq ≤ Z) (Z0 : 0 < Z)
    (hB : B = 2 ∧ 81129638414606681695789005144064 * Z ≤ PU ∨ B = 4 ∧ 141976867225561692967630759002112 * Z ≤ PU) : 10141204801825835211973625643008 * off.natAbs ≤ T.natAbs := by
  rcases hB with ⟨rfl, hP⟩ | ⟨rfl, hP⟩ <;> omega

set_option maxHeartbeats 4000000 in
theorem mul_pos {xh xl yh yl P c c2 p q r x h l : Int} (M : MulS xh xl yh yl P c c2 p q r x h l) {a b N : Nat} (hN : a + b = EU + N) (x0 : 2 ^ (53 + a) ≤ xh.natAbs) (x1 : xh.natAbs < 2 ^ (54 + a)) (xl1 : xl.natAbs ≤ 2 ^ a) (y0 : 2 ^ (53 + b) ≤ yh.natAbs) (y1 : yh.natAbs < 2 ^ (54 + b)) (yl1 : yl.natAbs ≤ 2 ^ b) (Pp : 0 < P) :
    10141204801825835211973625643008 * ((h + l) * (UU : Int) - (xh + xl) * (yh + yl)).natAbs ≤ ((xh + xl) * (yh + yl)).natAbs := by
  have hU : (0 : Int) < (UU : Int) := by have := U_pos; omega
  obtain ⟨E, hE⟩ : ∃ E : Int, ((2 ^ N : Nat) : Int) = E := ⟨_, rfl⟩
  have hE0 : 0 < E := by rw [← hE]; have := Nat.two_pow_pos N; omega
  obtain ⟨Z, hZ⟩ : ∃ Z : Int, E * (UU : Int) = Z := ⟨_, rfl⟩
  have hZ0 : 0 < Z := by rw [← hZ]; exact Int.mul_pos hE0 hU
  have hab : ∀ i j : Nat, ((2 ^ (i + a) * 2 ^ (j + b) : Nat) : Int) = ((2 ^ (i + j) : Nat) : Int) * Z := by
    intro i j
    rw [← hZ, ← hE, U_eq, ← Int.natCast_mul, ← Int.natCast_mul, ← Nat.pow_add, ← Nat.pow_add, ← Nat.pow_add]
    congr 2; omega
  -- the products' sizes
  have s1 : (xh * yl).natAbs ≤ 2 ^ (54 + a) * 2 ^ (0 + b) := absMul (Nat.le_of_lt x1) (by rw [Nat.zero_add]; exact yl1)
  have s2 : (xl * yh).natAbs ≤ 2 ^ (0 + a) * 2 ^ (54 + b) := absMul (by rw [Nat.zero_add]; exact xl1) (Nat.le_of_lt y1)
  have s3 : (xl * yl).natAbs ≤ 2 ^ (0 + a) * 2 ^ (0 + b) := absMul (by rw [Nat.zero_add]; exact xl1) (by rw [Nat.zero_add]; exact yl1)
  have t1 := two_side s1
  have t2 := two_side s2
  have t3 := two_side s3
  rw [hab 54 0] at t1
  rw [hab 0 54] at t2
  rw [hab 0 0] at t3
  have n54 : ((2 ^ (54 + 0) : Nat) : Int) = 18014398509481984 := rfl
  have n54' : ((2 ^ (0 + 54) : Nat) : Int) = 18014398509481984 := rfl
  have n0 : ((2 ^ (0 + 0) : Nat) : Int) = 1 := rfl
  rw [n54] at t1
  rw [n54'] at t2
  rw [n0, Int.one_mul] at t3
  -- the product of the first ones
  have PU : (xh * yh).natAbs = P.natAbs * UU := by rw [M.eP, Int.natAbs_mul, Int.natAbs_natCast]
  have p0 : 81129638414606681695789005144064 * E ≤ P := by
    have h1 : 2 ^ (53 + a) * 2 ^ (53 + b) ≤ P.natAbs * UU := by rw [← PU, Int.natAbs_mul]; exact Nat.mul_le_mul x0 y0
    have h2 : ((2 ^ (53 + a) * 2 ^ (53 + b) : Nat) : Int) ≤ ((P.natAbs * UU : Nat) : Int) := by omega
    rw [hab 53 53, Int.natCast_mul, ← hZ, ← Int.mul_assoc] at h2
    have h3 := unU h2
    have n1 : ((2 ^ (53 + 53) : Nat) : Int) = 81129638414606681695789005144064 := rfl
    rw [n1] at h3
    omega
  have p1 : P ≤ 324518553658426726783156020576256 * E := by
    have h1 : P.natAbs * UU ≤ 2 ^ (54 + a) * 2 ^ (54 + b) := by rw [← PU, Int.natAbs_mul]; exact Nat.mul_le_mul (Nat.le_of_lt x1) (Nat.le_of_lt y1)
    have h2 : ((P.natAbs * UU : Nat) : Int) ≤ ((2 ^ (54 + a) * 2 ^ (54 + b) : Nat) : Int) := by omega
    rw [hab 54 54, Int.natCast_mul, ← hZ, ← Int.mul_assoc] at h2
    have h3 := unU h2
    have n1 : ((2 ^ (54 + 54) : Nat) : Int) = 324518553658426726783156020576256 := rfl
    rw [n1] at h3
    omega
  -- both cross products together
  have cr : 9007199254740992 * ((xh * yl).natAbs + (xl * yh).natAbs) ≤ P.natAbs * UU + 2 ^ (53 + a) * 2 ^ (53 + b) := by
    obtain ⟨d1, hd1⟩ : ∃ d, xh.natAbs = 2 ^ (53 + a) + d := ⟨xh.natAbs - 2 ^ (53 + a), by omega⟩
    obtain ⟨d2, hd2⟩ : ∃ d, yh.natAbs = 2 ^ (53 + b) + d := ⟨yh.natAbs - 2 ^ (53 + b), by omega⟩
    have g1 : (xh * yl).natAbs ≤ xh.natAbs * 2 ^ b := by rw [Int.natAbs_mul]; exact Nat.mul_le_mul_left _ yl1
    have g2 : (xl * yh).natAbs ≤ 2 ^ a * yh.natAbs := by rw [Int.natAbs_mul]; exact Nat.mul_le_mul_right _ xl1
    have hxy : (xh * yh).natAbs = (2 ^ (53 + a) + d1) * (2 ^ (53 + b) + d2) := by rw [Int.natAbs_mul, hd1, hd2]
    rw [← PU, hxy]
    rw [hd1] at g1
    rw [hd2] at g2
    have ea : 2 ^ (53 + a) = 9007199254740992 * 2 ^ a := by rw [Nat.pow_add]
    have eb : 2 ^ (53 + b) = 9007199254740992 * 2 ^ b := by rw [Nat.pow_add]
    have x1 : (2 ^ (53 + a) + d1) * (2 ^ (53 + b) + d2) = 2 ^ (53 + a) * 2 ^ (53 + b) + 2 ^ (53 + a) * d2 + d1 * 2 ^ (53 + b) + d1 * d2 := by rw [Nat.add_mul, Nat.mul_add, Nat.mul_add]; omega
    have x2 : (2 ^ (53 + a) + d1) * 2 ^ b = 2 ^ (53 + a) * 2 ^ b + d1 * 2 ^ b := Nat.add_mul _ _ _
    have x3 : 2 ^ a * (2 ^ (53 + b) + d2) = 2 ^ a * 2 ^ (53 + b) + 2 ^ a * d2 := Nat.mul_add _ _ _
    have x4 : 9007199254740992 * (2 ^ (53 + a) * 2 ^ b) = 2 ^ (53 + a) * 2 ^ (53 + b) := by rw [eb]; simp only [Nat.mul_assoc, Nat.mul_left_comm, Nat.mul_comm]
    have x5 : 9007199254740992 * (2 ^ a * 2 ^ (53 + b)) = 2 ^ (53 + a) * 2 ^ (53 + b) := by rw [ea]; simp only [Nat.mul_assoc, Nat.mul_left_comm, Nat.mul_comm]
    have x6 : 9007199254740992 * (d1 * 2 ^ b) = d1 * 2 ^ (53 + b) := by rw [eb]; simp only [Nat.mul_assoc, Nat.mul_left_comm, Nat.mul_comm]
    have x7 : 9007199254740992 * (2 ^ a * d2) = 2 ^ (53 + a) * d2 := by rw [ea]; simp only [Nat.mul_assoc, Nat.mul_left_comm, Nat.mul_comm]
    rw [x1]
    rw [x2] at g1
    rw [x3] at g2
    omega
  have crI : 9007199254740992 * (((xh * yl).natAbs : Int) + ((xl * yh).natAbs : Int)) ≤ (P + 81129638414606681695789005144064 * E) * (UU : Int) := by
    have h2 : ((9007199254740992 * ((xh * yl).natAbs + (xl * yh).natAbs) : Nat) : Int) ≤ ((P.natAbs * UU + 2 ^ (53 + a) * 2 ^ (53 + b) : Nat) : Int) := by omega
    rw [Int.natCast_add (P.natAbs * UU), hab 53 53, Int.natCast_mul P.natAbs, ← hZ, ← Int.mul_assoc, ← Int.add_mul] at h2
    have n1 : ((2 ^ (53 + 53) : Nat) : Int) = 81129638414606681695789005144064 := rfl
    have n2 : ((P.natAbs : Nat) : Int) = P := by omega
    rw [n1, n2] at h2
    omega
  -- the steps
  have hF54 : IsF (18014398509481984 * E) := ⟨1, 54 + N, by rw [Int.pow_add, ← hE, p2c]; omega, by omega, by omega⟩
  have zE : ∀ m : Int, m * E * (UU : Int) = m * Z := by intro m; rw [Int.mul_assoc, hZ]
  have kp0 := M.rp.ge hF54.neg (by rw [Int.neg_mul, zE]; omega)
  have kp1 := M.rp.le hF54 (by rw [zE]; omega)
  have kq0 := M.rq.ge hF54.neg (by rw [Int.neg_mul, zE]; omega)
  have kq1 := M.rq.le hF54 (by rw [zE]; omega)
  have eZ : ((2 ^ N * UU : Nat) : Int) = Z := by rw [Int.natCast_mul, hE, hZ]
  have e54 : ((2 ^ (53 + (N + 1)) : Nat) : Int) * (UU : Int) = 18014398509481984 * Z := by
    rw [show 53 + (N + 1) = 54 + N by omega, Nat.pow_add, Int.natCast_mul, hE, zE]; rfl
  have ep := two_side (errq (k := N) M.rp (by rw [e54]; omega) (by rw [e54]; omega))
  have eq := two_side (errq (k := N) M.rq (by rw [e54]; omega) (by rw [e54]; omega))
  rw [eZ] at ep eq
  obtain ⟨kr0, kr1⟩ := err_i 1 36028797018963968 2 E rfl rfl hE M.rr (by omega) (by omega)
  have ec := M.ec
  have T : (xh + xl) * (yh + yl) = P * (UU : Int) + xh * yl + xl * yh + xl * yl := by rw [Int.add_mul, Int.mul_add, Int.mul_add, M.eP]; omega
  -- in units of 2^-2148
  have R0 : (r - (p + q)) * (UU : Int) ≤ 2 * Z := by have := mulU kr1; rwa [zE] at this
  have R1 : -(2 * Z) ≤ (r - (p + q)) * (UU : Int) := by have := mulU kr0; rwa [Int.neg_mul, zE] at this
  have PZ : ∀ m : Int, m * E ≤ P → m * Z ≤ P * (UU : Int) := by intro m hm; have := mulU hm; rwa [zE] at this
  by_cases c1 : P ≤ 141976867225561692967630759002112 * E
  · obtain ⟨k1, k1'⟩ := err_i 53 162259276829213363391578010288128 9007199254740992 E rfl rfl hE M.rc (by omega) (by omega)
    -- p and q together are less
    have S0 : (p + q) * (UU : Int) ≤ 24769797950537734 * E * (UU : Int) := by
      rw [zE, Int.add_mul]
      have hc := Int.mul_le_mul_of_nonneg_right (show P + 81129638414606681695789005144064 * E ≤ 223106505640168374663419764146176 * E by omega) (Int.le_of_lt hU)
      rw [zE] at hc
      omega
    have S1 : -(24769797950537734 * E) * (UU : Int) ≤ (p + q) * (UU : Int) := by
      rw [Int.neg_mul, zE, Int.add_mul]
      have hc := Int.mul_le_mul_of_nonneg_right (show P + 81129638414606681695789005144064 * E ≤ 223106505640168374663419764146176 * E by omega) (Int.le_of_lt hU)
      rw [zE] at hc
      omega
    have S0' := unU S0
    have S1' := unU S1
    obtain ⟨k3, k3'⟩ := err_i 1 36028797018963968 2 E rfl rfl hE M.rx (by omega) (by omega)
    have eh := M.qh (by omega)
    have X0 : (x - (c2 + r)) * (UU : Int) ≤ 2 * Z := by have := mulU k3'; rwa [zE] at this
    have X1 : -(2 * Z) ≤ (x - (c2 + r)) * (UU : Int) := by have := mulU k3; rwa [Int.neg_mul, zE] at this
    refine mul_fin (PU := P * (UU : Int)) (V1 := xh * yl) (V2 := xl * yh) (V3 := xl * yl) (e3 := (x - (c2 + r)) * (UU : Int)) (er := (r - (p + q)) * (UU : Int)) (ep := p * (UU : Int) - xh * yl) (eq := q * (UU : Int) - xl * yh) (Z := Z) (B := 2) T ?_ t1.1 t1.2 t2.1 t2.2 t3.1 t3.2 X1 X0 R1 R0 ep.1 ep.2 eq.1 eq.2 hZ0 (.inl ⟨rfl, PZ _ p0⟩)
    rw [T, eh, show P = c + c2 by omega]
    simp only [Int.add_mul, Int.sub_mul]
    omega
  · obtain ⟨k1, k1'⟩ := err_i 54 324518553658426726783156020576256 18014398509481984 E rfl rfl hE M.rc (by omega) (by omega)
    obtain ⟨k3, k3'⟩ := err_i 2 72057594037927936 4 E rfl rfl hE M.rx (by omega) (by omega)
    have eh := M.qh (by omega)
    have X0 : (x - (c2 + r)) * (UU : Int) ≤ 4 * Z := by have := mulU k3'; rwa [zE] at this
    have X1 : -(4 * Z) ≤ (x - (c2 + r)) * (UU : Int) := by have := mulU k3; rwa [Int.neg_mul, zE] at this
    refine mul_fin (PU := P * (UU : Int)) (V1 := xh * yl) (V2 := xl * yh) (V3 := xl * yl) (e3 := (x - (c2 + r)) * (UU : Int)) (er := (r - (p + q)) * (UU : Int)) (ep := p * (UU : Int) - xh * yl) (eq := q * (UU : Int) - xl * yh) (Z := Z) (B := 4) T ?_ t1.1 t1.2 t2.1 t2.2 t3.1 t3.2 X1 X0 R1 R0 ep.1 ep.2 eq.1 eq.2 hZ0 (.inr ⟨rfl, PZ _ (by omega)⟩)
    rw [T, eh, show P = c + c2 by omega]
    simp only [Int.add_mul, Int.sub_mul]
    omega

theorem good_place {xh xl : Int} (h : GoodP xh xl) (hx : xh ≠ 0) : ∃ a : Nat, 140 ≤ a ∧ 2 ^ (53 + a) ≤ xh.natAbs ∧ xh.natAbs < 2 ^ (54 + a) ∧ xl.natAbs ≤ 2 ^ a := by
  obtain ⟨k, k1, k2, k3⟩ := h.rn.f.placed
  have hbig : 2 ^ 200 ≤ xh.natAbs := by rcases h.big with q | q; omega; exact q
  have hk : 147 < k := by
    have := (Nat.pow_lt_pow_iff_right (by decide : 1 < 2)).1 (Nat.lt_of_le_of_lt hbig k1)
    omega
  have k2' : 2 ^ (52 + k) ≤ xh.natAbs := by rcases k2 with q | q; omega; exact q
  obtain ⟨a, rfl⟩ : ∃ a, k = a + 1 := ⟨k - 1, by omega⟩
  refine ⟨a, by omega, by rw [show 53 + a = 52 + (a + 1) by omega]; exact k2', by rw [show 54 + a = 53 + (a + 1) by omega]; exact k1, ?_⟩
  have e : ((2 ^ 0 : Nat) : Int) = 1 := rfl
  have c := p2c (54 + a)
  have hb : xh.natAbs < 2 ^ (54 + a) := by rw [show 54 + a = 53 + (a + 1) by omega]; exact k1
  obtain ⟨m, hm⟩ : ∃ m : Int, ((2 ^ (54 + a) : Nat) : Int) = m := ⟨_, rfl⟩
  obtain ⟨m', hm'⟩ : ∃ m' : Int, ((2 ^ a : Nat) : Int) = m' := ⟨_, rfl⟩
  have := low_i (n := 0) a m m' 1 hm hm' rfl h.rn (by omega) (by omega)
  omega
/-- P5.7 of Mul. -/
theorem mul_near {xh xl yh yl P c c2 p q r x h l : Int} (M : MulS xh xl yh yl P c c2 p q r x h l) (hx : GoodP xh xl) (hy : GoodP yh yl) (hbig : xh ≠ 0 → yh ≠ 0 → 2 ^ (EU + 110) ≤ (xh * yh).natAbs) :
    10141204801825835211973625643008 * ((h + l) * (UU : Int) - (xh + xl) * (yh + yl)).natAbs ≤ ((xh + xl) * (yh + yl)).natAbs := by
  have hU : (0 : Int) < (UU : Int) := by have := U_pos; omega
  have hp : 0 < 2 ^ 200 := Nat.two_pow_pos _
  by_cases hz : xh = 0 ∨ yh = 0
  · -- all is nought
    have w : (xh + xl) * (yh + yl) = 0 ∧ xh * yh = 0 ∧ xh * yl = 0 ∧ xl * yh = 0 := by
      rcases hz with hz | hz
      · have : xl = 0 := by rcases hx.big with q | q; exact q.2; omega
        rw [hz, this]; simp
      · have : yl = 0 := by rcases hy.big with q | q; exact q.2; omega
        rw [hz, this]; simp
    obtain ⟨w0, w1, w2, w3⟩ := w
    have P0 : P = 0 := by
      have := M.eP
      rw [w1] at this
      rcases Int.mul_eq_zero.1 this.symm with q | q <;> omega
    have c0 := M.rc.own (by rw [P0]; exact IsF.zero)
    have ec := M.ec
    have p0 : p = 0 := by
      have rp := M.rp
      rw [w2] at rp
      have a1 := rp.le IsF.zero (by simp)
      have a2 := rp.ge IsF.zero (by simp)
      omega
    have q0 : q = 0 := by
      have rq := M.rq
      rw [w3] at rq
      have a1 := rq.le IsF.zero (by simp)
      have a2 := rq.ge IsF.zero (by simp)
      omega
    have r0 := M.rr.own (by rw [p0, q0]; exact IsF.zero)
    have x0 := M.rx.own (by rw [show c2 + r = 0 by omega]; exact IsF.zero)
    have eh := M.qh (by omega)
    rw [w0, show h + l = 0 by omega]; simp
  · have x0 : xh ≠ 0 := fun h => hz (.inl h)
    have y0 : yh ≠ 0 := fun h => hz (.inr h)
    obtain ⟨a, a0, a1, a2, a3⟩ := good_place hx x0
    obtain ⟨b, b0, b1, b2, b3⟩ := good_place hy y0
    have hb := hbig x0 y0
    have hab : EU ≤ a + b := by
      have h1 : (xh * yh).natAbs < 2 ^ (54 + a) * 2 ^ (54 + b) := by rw [Int.natAbs_mul]; exact Nat.mul_lt_mul'' a2 b2
      rw [← Nat.pow_add] at h1
      have := (Nat.pow_lt_pow_iff_right (by decide : 1 < 2)).1 (Nat.lt_of_le_of_lt hb h1)
      omega
    obtain ⟨N, hN⟩ : ∃ N, a + b = EU + N := ⟨a + b - EU, by omega⟩
    have Pn : P ≠ 0 := by
      intro h0
      have := M.eP
      rw [h0, Int.zero_mul] at this
      rcases Int.mul_eq_zero.1 this with q | q <;> omega
    rcases Int.lt_or_gt_of_ne Pn with q | q
    · have := mul_pos M.neg hN (by omega) (by omega) (by omega) b1 b2 b3 (by omega)
      rw [show -h + -l = -(h + l) by omega, show -xh + -xl = -(xh + xl) by omega, Int.neg_mul, Int.neg_mul] at this
      omega
    · exact mul_pos M hN a1 a2 a3 b1 b2 b3 q
end Go.Proofs.Ythilnddhehbjiab

/- P5.7 by words: Add, Mul of good pairs. -/
namespace Go.Proofs.Ythilnddhehbjiab
open Go.RowKit J
set_option linter.unusedVariables false
set_option maxRecDepth 20000
set_option linter.unusedSimpArgs false

/-- A sum that came out finite. -/
theorem pl_rn {x y : Nat} (hx : Wd x) (hy : Wd y) (fx : finW x) (fy : finW y) (fz : finW (plW x y)) : IsRn (fvW x + fvW y) (fvW (plW x y)) := by
  obtain ⟨R, hR, hA⟩ := add_wd (negW x) (negW y) (magW x) (magW y) fx fy
  rw [← wd_of x hx, ← wd_of y hy] at hA
  have e : plW x y = wd64 (if fvW x + fvW y = 0 then negW x && negW y else decide (fvW x + fvW y < 0)) (min R 9218868437227405312) := by
    show (Ieee.double.add x y).getD oddW = _
    rw [hA]; rfl
  have hm : min R 9218868437227405312 ≤ 9218868437227405312 := Nat.min_le_right _ _
  obtain ⟨g1, _, _⟩ := magW_wd (if fvW x + fvW y = 0 then negW x && negW y else decide (fvW x + fvW y < 0)) (min R 9218868437227405312) (by omega)
  rw [← e] at g1
  have hf : R < 9218868437227405312 := by unfold finW at fz; omega
  rw [Nat.min_eq_left (by omega)] at e
  obtain ⟨k1, k2⟩ := fv_wd (if fvW x + fvW y = 0 then negW x && negW y else decide (fvW x + fvW y < 0)) R hf
  rw [e, k2]
  exact ne_rn (T := fvW x + fvW y) hR (fun h => if_neg h)
theorem ne_nearS {R V L S : Nat} (h : NE R V S) : ((vK R * S : Nat) - (V : Int)).natAbs ≤ ((vK L * S : Nat) - (V : Int)).natAbs := by
  have u : 2 * V ≤ vK R * S + vK (R + 1) * S := by have := h.up; rw [Nat.add_mul] at this; exact this
  rcases Nat.lt_trichotomy L R with c | c | c
  · have d : vK (R - 1) * S + vK R * S ≤ 2 * V := by have := h.dn (by omega); rw [Nat.add_mul] at this; exact this
    have m1 : vK L * S ≤ vK (R - 1) * S := Nat.mul_le_mul_right _ (vmono (by omega))
    have m2 : vK (R - 1) * S ≤ vK R * S := Nat.mul_le_mul_right _ (vmono (by omega))
    omega
  · rw [c]; omega
  · have m1 : vK (R + 1) * S ≤ vK L * S := Nat.mul_le_mul_right _ (vmono (by omega))
    have m2 : vK R * S ≤ vK (R + 1) * S := Nat.mul_le_mul_right _ (vmono (by omega))
    omega
theorem sgU (s : Bool) (v : Nat) : B.sg s v * (UU : Int) = B.sg s (v * UU) := by
  unfold B.sg; cases s <;> simp [Int.neg_mul]
/-- A product that came out finite. -/
theorem ti_rq {x y : Nat} (hx : Wd x) (hy : Wd y) (fx : finW x) (fy : finW y) (hT : (fvW x * fvW y).natAbs ≤ 3 * QQ * UU) : finW (tiW x y) ∧ IsRq (fvW x * fvW y) (fvW (tiW x y)) := by
  obtain ⟨R, hR, hA⟩ := mul_wd EU rfl (negW x) (negW y) (magW x) (magW y) fx fy
  rw [← wd_of x hx, ← wd_of y hy] at hA
  rw [← U_eq] at hR
  have hU := U_pos
  have e : tiW x y = wd64 (negW x != negW y) (min R 9218868437227405312) := by
    show (Ieee.double.mul x y).getD oddW = _
    rw [hA]; rfl
  have ha : (fvW x * fvW y).natAbs = vK (magW x) * vK (magW y) := by
    rw [Int.natAbs_mul]; unfold fvW; rw [sg_abs, sg_abs]
  have hf : R < 9218868437227405312 := by
    apply Nat.lt_of_not_le; intro hh
    have h1 : NE R (3 * QQ) 1 → R < 9218868437227405312 := fun h => ne_fin h (Nat.le_refl _)
    have d : vK (R - 1) * UU + vK R * UU ≤ 2 * (vK (magW x) * vK (magW y)) := by have := hR.dn (by omega); rw [Nat.add_mul] at this; exact this
    have a1 := top_half (R - 1) (by omega)
    have a2 : 4 * QQ ≤ vK R := by
      obtain ⟨c, hc⟩ : ∃ c : Nat, c = 2045 := ⟨_, rfl⟩
      have h1 := vK_word c 9007199254740992 (.inr (by omega)) (by omega)
      have h2 : c * 4503599627370496 + 9007199254740992 ≤ R := by rw [hc]; omega
      have h3 : vK (c * 4503599627370496 + 9007199254740992) ≤ vK R := vmono h2
      rw [h1] at h3
      have h4 : 4 * QQ = 9007199254740992 * 2 ^ c := by
        have a1 : EQ + 2 = 53 + c := by rw [hc]; unfold EQ; rfl
        have a2 : 4 * 2 ^ EQ = 2 ^ (EQ + 2) := by rw [Nat.pow_add, Nat.mul_comm]
        rw [Q_eq, a2, a1, Nat.pow_add]
      omega
    have b1 : (2 * QQ + 1) * UU ≤ vK (R - 1) * UU := Nat.mul_le_mul_right _ (by omega)
    have b2 : 4 * QQ * UU ≤ vK R * UU := Nat.mul_le_mul_right _ a2
    rw [ha] at hT
    rw [Nat.add_mul, Nat.one_mul] at b1
    have e1 : 2 * QQ * UU = 2 * (QQ * UU) := Nat.mul_assoc _ _ _
    have e2 : 4 * QQ * UU = 4 * (QQ * UU) := Nat.mul_assoc _ _ _
    have e3 : 3 * QQ * UU = 3 * (QQ * UU) := Nat.mul_assoc _ _ _
    omega
  rw [Nat.min_eq_left (by omega)] at e
  obtain ⟨k1, k2⟩ := fv_wd (negW x != negW y) R hf
  rw [e]
  refine ⟨k1, ?_⟩
  rw [k2]
  have hF : IsF (B.sg (negW x != negW y) (vK R)) := by rw [← k2]; exact fv_F _
  refine ⟨hF, fun f hf => ?_⟩
  obtain ⟨L, hL⟩ := F_vK hf
  have n := ne_nearS (L := L) hR
  have hfU : (f * (UU : Int)).natAbs = vK L * UU := by rw [Int.natAbs_mul, Int.natAbs_natCast, hL]
  have hV : fvW x * fvW y = B.sg (negW x != negW y) (vK (magW x) * vK (magW y)) := by
    unfold fvW B.sg
    cases negW x <;> cases negW y <;> simp [Int.neg_mul, Int.mul_neg]
  rw [sgU, hV]
  generalize f * (UU : Int) = F at *
  generalize vK L * UU = L1 at *
  generalize vK R * UU = R1 at *
  generalize vK (magW x) * vK (magW y) = V at *
  unfold B.sg
  cases (negW x != negW y)
  · simp only [Bool.false_eq_true, if_false]; omega
  · simp only [if_true]; omega

/-- A good pair, by words. -/
structure GoodW (a b : Nat) : Prop where
  wa : Wd a
  wb : Wd b
  fa : finW a
  fb : finW b
  good : GoodP (fvW a) (fvW b)
  up : ∀ e : Nat, e = 1474 → (fvW a).natAbs ≤ 2 ^ e
  dn : fvW a ≠ 0 → ∀ e : Nat, e = 674 → 2 ^ e ≤ (fvW a).natAbs
theorem GoodW.lo {a b : Nat} (g : GoodW a b) : (fvW b).natAbs ≤ (fvW a).natAbs := by
  have r := g.good.rn.rel
  omega
theorem GoodW.le {a b : Nat} (g : GoodW a b) : 1267650600228229401496703205376 * (fvW a).natAbs ≤ QQ := by
  obtain ⟨e, he⟩ : ∃ e : Nat, e = 1474 := ⟨_, rfl⟩
  have h1 := Nat.mul_le_mul_left (2 ^ 100) (g.up e he)
  rw [← Nat.pow_add] at h1
  have h2 : 2 ^ (100 + e) ≤ 2 ^ EQ := Nat.pow_le_pow_right (by decide) (by have : EQ = 2096 := rfl; omega)
  rw [← Q_eq] at h2
  have h3 : (2 : Nat) ^ 100 = 1267650600228229401496703205376 := rfl
  rw [h3] at h1
  omega
theorem bnd {V s : Int} {m B : Nat} (h : IsRn V s) (hV : V.natAbs ≤ m * B) : s.natAbs ≤ 2 * m * B := by
  have r := h.rel
  have e : 2 * m * B = 2 * (m * B) := Nat.mul_assoc _ _ _
  omega
end Go.Proofs.Ythilnddhehbjiab

