/- Steps of finite numbers by their values (whole numbers of units of 2^-1074): what is rounded is the nearest. -/
import Derived.Test.YtnnlicahgdcbdaaGreatDoorO1x
import Derived.KernelRfl
import Derived.ArgAppend
import Derived.Maps.AppendAt
import Derived.WalkMore
import Derived.OwnWalk
import Derived.Test.YtnnlicahgdcbdaaGreatDoorD15x
import Derived.Test.YtnnlicahgdcbdaaGreatDoorD8x
import Derived.Test.YtnnlicahgdcbdaaGreatDoorD25x
import Derived.Test.YtnnlicahgdcbdaaGreatDoorD19x
namespace Go.Proofs.YtnnlicahgdcbdaaGreatDoor
open Go.RowKit J
set_option linter.unusedVariables false
set_option maxRecDepth 20000

/-- A finite word; its value. -/
abbrev finW (x : Nat) : Prop := magW x < 9218868437227405312
def fvW (x : Nat) : Int := B.sg (negW x) (vK (magW x))
/-- TwoP to the power of 1022, in those units: 2^2096. -/
def EQ : Nat := 2096
theorem exQ : ∃ q : Nat, q = 2 ^ EQ := ⟨_, rfl⟩
noncomputable def QQ : Nat := Classical.choose exQ
theorem Q_eq : QQ = 2 ^ EQ := Classical.choose_spec exQ
theorem Q_pos : 0 < QQ := by rw [Q_eq]; exact Nat.two_pow_pos _

theorem sg_abs (s : Bool) (v : Nat) : (B.sg s v).natAbs = v := absSg s v
theorem vK_F (K : Nat) : ∃ m k : Nat, vK K = m * 2 ^ k ∧ m ≤ 9007199254740992 := by
  show ∃ m k, B.val Ieee.double K = m * 2 ^ k ∧ m ≤ 9007199254740992
  unfold B.val
  rw [B.dBin]
  split
  · exact ⟨K, 0, by simp, by omega⟩
  · exact ⟨_, _, rfl, by omega⟩
theorem fv_F (x : Nat) : IsF (fvW x) := by
  obtain ⟨m, k, h1, h2⟩ := vK_F (magW x)
  unfold fvW B.sg
  rw [h1]
  cases negW x
  · exact ⟨(m : Int), k, by simp, by omega, by omega⟩
  · exact ⟨-(m : Int), k, by simp [Int.neg_mul], by omega, by omega⟩
theorem F_vK {f : Int} (h : IsF f) : ∃ L, vK L = f.natAbs := by
  by_cases hs : f.natAbs ≤ 9007199254740992
  · refine ⟨f.natAbs, ?_⟩
    have := vK_word 0 f.natAbs (.inl rfl) hs
    simpa using this
  · obtain ⟨k, h1, h2, h3⟩ := h.placed
    have h2' : 2 ^ (52 + k) ≤ f.natAbs := by
      rcases h2 with rfl | h2
      · omega
      · exact h2
    obtain ⟨q, hq⟩ := h3
    have hf : f.natAbs = q.natAbs * 2 ^ k := by rw [hq, Int.natAbs_mul, natAbs_p2, Nat.mul_comm]
    rw [hf] at h1 h2' ⊢
    rw [Nat.pow_add] at h1 h2'
    have a1 := Nat.lt_of_mul_lt_mul_right h1
    have a2 := Nat.le_of_mul_le_mul_right h2' (Nat.two_pow_pos _)
    exact ⟨_, vK_word k q.natAbs (.inr (by omega)) (by omega)⟩

/-- The nearest rung is the nearest. -/
theorem ne_near {R V L : Nat} (h : NE R V 1) : ((vK R : Int) - V).natAbs ≤ ((vK L : Int) - V).natAbs := by
  have u : 2 * V ≤ vK R + vK (R + 1) := by have := h.up; rw [Nat.mul_one] at this; exact this
  rcases Nat.lt_trichotomy L R with c | c | c
  · have d : vK (R - 1) + vK R ≤ 2 * V := by have := h.dn (by omega); rw [Nat.mul_one] at this; exact this
    have m1 : vK L ≤ vK (R - 1) := vmono (by omega)
    have m2 : vK (R - 1) < vK R := vK_lt.2 (by omega)
    omega
  · rw [c]; omega
  · have m1 : vK (R + 1) ≤ vK L := vmono (by omega)
    have m2 : vK R < vK (R + 1) := vK_lt.2 (by omega)
    omega
theorem ne_rn {R : Nat} {T : Int} (h : NE R T.natAbs 1) {s : Bool} (hs : T ≠ 0 → s = decide (T < 0)) : IsRn T (B.sg s (vK R)) := by
  have hF : IsF (B.sg s (vK R)) := by
    obtain ⟨m, k, h1, h2⟩ := vK_F R
    unfold B.sg
    rw [h1]
    cases s
    · exact ⟨(m : Int), k, by simp, by omega, by omega⟩
    · exact ⟨-(m : Int), k, by simp [Int.neg_mul], by omega, by omega⟩
  refine ⟨hF, fun f hf => ?_⟩
  obtain ⟨L, hL⟩ := F_vK hf
  have n := ne_near (L := L) h
  by_cases hT : T = 0
  · subst hT
    have : NE 0 (0 : Int).natAbs 1 := NEf.own (by decide) (by rw [B.val_zero]; rfl)
    rw [h.one this (by decide), show vK 0 = 0 from B.val_zero _]
    unfold B.sg
    cases s <;> simp
  · have e := hs hT
    unfold B.sg
    by_cases hn : T < 0
    · rw [decide_eq_true hn] at e; subst e
      simp only [if_true]
      omega
    · rw [decide_eq_false hn] at e; subst e
      simp only [Bool.false_eq_true, if_false]
      omega
theorem top_half (K : Nat) (h : 9218868437227405311 ≤ K) : 2 * QQ < vK K := by
  obtain ⟨c, hc⟩ : ∃ c : Nat, c = 2045 := ⟨_, rfl⟩
  have h1 := vK_word c 4503599627370496 (.inr (by omega)) (by omega)
  have h2 : c * 4503599627370496 + 4503599627370496 < K := by rw [hc]; omega
  have h3 := vK_lt.2 h2
  rw [h1] at h3
  have h4 : 2 * QQ = 4503599627370496 * 2 ^ c := by
    have a1 : EQ + 1 = 52 + c := by rw [hc]; unfold EQ; rfl
    have a2 : 2 * 2 ^ EQ = 2 ^ (EQ + 1) := by rw [Nat.pow_succ, Nat.mul_comm]
    rw [Q_eq, a2, a1, Nat.pow_add]
  omega
theorem ne_fin {R V : Nat} (h : NE R V 1) (hV : V ≤ 3 * QQ) : R < 9218868437227405312 := by
  apply Nat.lt_of_not_le; intro hh
  have d : vK (R - 1) + vK R ≤ 2 * V := by have := h.dn (by omega); rw [Nat.mul_one] at this; exact this
  have a1 := top_half (R - 1) (by omega)
  obtain ⟨c, hc⟩ : ∃ c : Nat, c = 2045 := ⟨_, rfl⟩
  have h1 := vK_word c 9007199254740992 (.inr (by omega)) (by omega)
  have h2 : c * 4503599627370496 + 9007199254740992 ≤ R := by rw [hc]; omega
  have h3 : vK (c * 4503599627370496 + 9007199254740992) ≤ vK R := vmono h2
  rw [h1] at h3
  have h4 : 4 * QQ = 9007199254740992 * 2 ^ c := by
    have a1 : EQ + 2 = 53 + c := by rw [hc]; unfold EQ; rfl
    have a2 : 4 * 2 ^ EQ = 2 ^ (EQ + 2) := by rw [Nat.pow_add, Nat.mul_comm]
    rw [Q_eq, a2, a1, Nat.pow_add]
  omega

theorem fv_wd (s : Bool) (K : Nat) (h : K < 9218868437227405312) : finW (wd64 s K) ∧ fvW (wd64 s K) = B.sg s (vK K) := by
  obtain ⟨h1, h2, _⟩ := magW_wd s K (by omega)
  unfold fvW
  rw [h1, h2]
  exact ⟨by unfold finW; rw [h1]; exact h, rfl⟩
/-- A sum. -/
theorem pl_fin {x y : Nat} (hx : Wd x) (hy : Wd y) (fx : finW x) (fy : finW y) (hT : (fvW x + fvW y).natAbs ≤ 3 * QQ) : finW (plW x y) ∧ IsRn (fvW x + fvW y) (fvW (plW x y)) := by
  obtain ⟨R, hR, hA⟩ := add_wd (negW x) (negW y) (magW x) (magW y) fx fy
  rw [← wd_of x hx, ← wd_of y hy] at hA
  have e : plW x y = wd64 (if fvW x + fvW y = 0 then negW x && negW y else decide (fvW x + fvW y < 0)) (min R 9218868437227405312) := by
    show (Ieee.double.add x y).getD oddW = _
    rw [hA]; rfl
  have hf := ne_fin hR hT
  rw [Nat.min_eq_left (by omega)] at e
  obtain ⟨k1, k2⟩ := fv_wd (if fvW x + fvW y = 0 then negW x && negW y else decide (fvW x + fvW y < 0)) R hf
  rw [e]
  refine ⟨k1, ?_⟩
  rw [k2]
  exact ne_rn (T := fvW x + fvW y) hR (fun h => if_neg h)
theorem fv_turn {y : Nat} (hy : Wd y) (fy : finW y) : finW (turnW y) ∧ fvW (turnW y) = -fvW y := by
  have hm : magW y < 9223372036854775808 := Nat.mod_lt _ (by decide)
  have e : turnW y = wd64 (!negW y) (magW y) := by rw [← turn_wd _ _ hm, ← wd_of y hy]
  rw [e]
  obtain ⟨k1, k2⟩ := fv_wd (!negW y) (magW y) fy
  refine ⟨k1, ?_⟩
  rw [k2]
  unfold fvW B.sg
  cases negW y <;> simp
/-- A difference. -/
theorem mi_fin {x y : Nat} (hx : Wd x) (hy : Wd y) (fx : finW x) (fy : finW y) (hT : (fvW x - fvW y).natAbs ≤ 3 * QQ) : finW (miW x y) ∧ IsRn (fvW x - fvW y) (fvW (miW x y)) := by
  obtain ⟨k1, k2⟩ := fv_turn hy fy
  have e : miW x y = plW x (turnW y) := sub_turn x y hy
  have := pl_fin hx (turn_lt y hy) fx k1 (by rw [k2]; rwa [Int.sub_eq_add_neg] at hT)
  rw [e, Int.sub_eq_add_neg, ← k2]
  exact this
/-- A product that is whole in those units. -/
theorem ti_fin {x y : Nat} (hx : Wd x) (hy : Wd y) (fx : finW x) (fy : finW y) {P : Int} (hP : fvW x * fvW y = P * (UU : Int)) (hT : P.natAbs ≤ 3 * QQ) : finW (tiW x y) ∧ IsRn P (fvW (tiW x y)) := by
  obtain ⟨R, hR, hA⟩ := mul_wd EU rfl (negW x) (negW y) (magW x) (magW y) fx fy
  rw [← wd_of x hx, ← wd_of y hy] at hA
  rw [← U_eq] at hR
  have hU := U_pos
  have e : tiW x y = wd64 (negW x != negW y) (min R 9218868437227405312) := by
    show (Ieee.double.mul x y).getD oddW = _
    rw [hA]; rfl
  have ha : vK (magW x) * vK (magW y) = P.natAbs * UU := by
    have := congrArg Int.natAbs hP
    rw [Int.natAbs_mul, Int.natAbs_mul, Int.natAbs_natCast] at this
    unfold fvW at this
    rw [sg_abs, sg_abs] at this
    exact this
  have hR1 : NE R P.natAbs 1 := by
    rw [ha] at hR
    refine NEf.unscale hU ?_
    rw [Nat.one_mul]; exact hR
  have hf := ne_fin hR1 hT
  rw [Nat.min_eq_left (by omega)] at e
  obtain ⟨k1, k2⟩ := fv_wd (negW x != negW y) R hf
  rw [e]
  refine ⟨k1, ?_⟩
  rw [k2]
  refine ne_rn hR1 (fun h => ?_)
  -- the sign
  have hv : (0 : Int) < (vK (magW x) : Int) * (vK (magW y) : Int) := by
    rw [← Int.natCast_mul, ha]
    have := Nat.mul_pos (show 0 < P.natAbs by omega) hU
    omega
  have hlt : P < 0 ↔ fvW x * fvW y < 0 := by
    rw [hP]
    constructor
    · intro h1; exact Int.mul_neg_of_neg_of_pos h1 (by omega)
    · intro h1; apply Int.lt_of_not_ge; intro h2; have := Int.mul_nonneg h2 (show (0 : Int) ≤ UU by omega); omega
  have hd : decide (P < 0) = decide (fvW x * fvW y < 0) := decide_eq_decide.2 hlt
  rw [hd]
  unfold fvW B.sg
  cases negW x <;> cases negW y <;> simp [Int.neg_mul, Int.mul_neg] <;> omega
end Go.Proofs.YtnnlicahgdcbdaaGreatDoor

/- P5.6 by words: Sum, Quick, Halves, Product of finite numbers. -/
namespace Go.Proofs.YtnnlicahgdcbdaaGreatDoor
open Go.RowKit J
set_option linter.unusedVariables false
set_option maxRecDepth 20000

theorem two_Q : 2 * QQ = 2 ^ (EQ + 1) := by rw [Q_eq, Nat.pow_succ, Nat.mul_comm]
theorem rn_2Q {V s : Int} (h : IsRn V s) (hV : V.natAbs ≤ 2 * QQ) : s.natAbs ≤ 2 * QQ := by
  rw [two_Q] at hV ⊢; exact h.abs_le hV

/-- What came of a call: two finite numbers, and their sum. -/
structure TwoP (p : Nat × Nat) (V : Int) : Prop where
  w1 : Wd p.1
  w2 : Wd p.2
  f1 : finW p.1
  f2 : finW p.2
  val : fvW p.1 + fvW p.2 = V

theorem tiny {V s : Int} {Q : Nat} (h : 4503599627370496 * 2 * (s - V).natAbs ≤ V.natAbs) (hV : V.natAbs ≤ 4 * Q) : -(Q : Int) ≤ 64 * (s - V) ∧ 64 * (s - V) ≤ Q := by omega
theorem sum_bound {A C H T G V X : Int} {Q : Nat} (t1 : -(Q : Int) ≤ 64 * (H - (A + C)) ∧ 64 * (H - (A + C)) ≤ Q) (t2 : -(Q : Int) ≤ 64 * (T - (H - A)) ∧ 64 * (T - (H - A)) ≤ Q) (t3 : -(Q : Int) ≤ 64 * (G - (H - T)) ∧ 64 * (G - (H - T)) ≤ Q)
    (e4 : 4503599627370496 * 2 * (V - (A - G)).natAbs ≤ (A - G).natAbs) (e5 : 4503599627370496 * 2 * (X - (C - T)).natAbs ≤ (C - T).natAbs) : (V + X).natAbs ≤ 3 * Q := by
  have k3 : (A - G).natAbs ≤ 4 * Q := by omega
  have k4 : (C - T).natAbs ≤ 4 * Q := by omega
  have t4 := tiny e4 k3
  have t5 := tiny e5 k4
  clear e4 e5 k3 k4
  omega
theorem sum_two {a b : Nat} (ha : Wd a) (hb : Wd b) (fa : finW a) (fb : finW b) (la : (fvW a).natAbs ≤ QQ) (lb : (fvW b).natAbs ≤ QQ) : TwoP (sumP a b) (fvW a + fvW b) := by
  have hQ := Q_pos
  obtain ⟨f1, r1⟩ := pl_fin ha hb fa fb (by omega)
  have n1 := r1.near _ (fv_F a)
  have s1 := rn_2Q r1 (by omega)
  have t1 := Aside.intro (tiny (Q := QQ) r1.rel (by omega))
  obtain ⟨f2, r2⟩ := mi_fin (pl_wd a b) ha f1 fa (by omega)
  have s2 := rn_2Q r2 (by omega)
  have t2 := Aside.intro (tiny (Q := QQ) r2.rel (by omega))
  have n2 := r2.near _ (fv_F (plW a b))
  clear n1
  obtain ⟨f3, r3⟩ := mi_fin (pl_wd a b) (mi_wd (plW a b) a) f1 f2 (by omega)
  have s3 := rn_2Q r3 (by omega)
  have t3 := Aside.intro (tiny (Q := QQ) r3.rel (by omega))
  clear n2
  obtain ⟨f4, r4⟩ := mi_fin ha (mi_wd (plW a b) (miW (plW a b) a)) fa f3 (by omega)
  obtain ⟨f5, r5⟩ := mi_fin hb (mi_wd (plW a b) a) fb f2 (by omega)
  obtain ⟨f6, r6⟩ := pl_fin (mi_wd a (miW (plW a b) (miW (plW a b) a))) (mi_wd b (miW (plW a b) a)) f4 f5 (sum_bound t1.out t2.out t3.out r4.rel r5.rel)
  exact ⟨pl_wd _ _, pl_wd _ _, f1, f6, sum_just (fv_F a) (fv_F b) r1 r2 r3 r4 r5 r6⟩

end Go.Proofs.YtnnlicahgdcbdaaGreatDoor

/- Rows of numbers: what with and merged do to a row, in plain terms. -/
namespace Go.Proofs.YtnnlicahgdcbdaaGreatDoor
open Go.RowKit
set_option linter.unusedVariables false
set_option maxRecDepth 20000
set_option linter.unusedSimpArgs false

/-- Is it a nought? -/
def noW (x : Nat) : Bool := magW x == 0
def andN (x : Nat) : List Nat := if noW x then [] else [x]
/-- The row with x in its sum. -/
def withL : List Nat → Nat → List Nat
  | [], x => andN x
  | y :: ys, x => andN (sumP x y).2 ++ withL ys (sumP x y).1
/-- The row with all of another one's in its sum. -/
def mergeL : List Nat → List Nat → List Nat
  | A, [] => A
  | A, x :: xs => mergeL (withL A x) xs
def fvL : List Nat → Int
  | [] => 0
  | x :: xs => fvW x + fvL xs
def avL : List Nat → Nat
  | [] => 0
  | x :: xs => (fvW x).natAbs + avL xs
def FinL (L : List Nat) : Prop := ∀ x ∈ L, Wd x ∧ finW x

theorem FinL.nil : FinL [] := fun x h => by simp at h
theorem FinL.head {x : Nat} {L : List Nat} (h : FinL (x :: L)) : Wd x ∧ finW x := h x (by simp)
theorem FinL.tail {x : Nat} {L : List Nat} (h : FinL (x :: L)) : FinL L := fun y hy => h y (by simp [hy])
theorem FinL.append {A B : List Nat} (h : FinL A) (k : FinL B) : FinL (A ++ B) := fun x hx => by
  rcases List.mem_append.1 hx with q | q
  · exact h x q
  · exact k x q
theorem fvL_append (A B : List Nat) : fvL (A ++ B) = fvL A + fvL B := by
  induction A with
  | nil => simp [fvL]
  | cons x A ih => simp only [List.cons_append, fvL, ih]; omega
theorem avL_append (A B : List Nat) : avL (A ++ B) = avL A + avL B := by
  induction A with
  | nil => simp [avL]
  | cons x A ih => simp only [List.cons_append, avL, ih]; omega
theorem vK_zero : vK 0 = 0 := by
  have := vK_word 0 0 (.inl rfl) (by omega)
  simpa using this
theorem fv_no {x : Nat} (h : noW x = true) : fvW x = 0 := by
  have e : magW x = 0 := by simpa [noW] using h
  unfold fvW
  rw [e, vK_zero]
  cases negW x <;> rfl
theorem andN_ok (x : Nat) (h : Wd x ∧ finW x) : FinL (andN x) ∧ fvL (andN x) = fvW x ∧ avL (andN x) ≤ (fvW x).natAbs ∧ (andN x).length ≤ 1 := by
  unfold andN
  cases hn : noW x
  · rw [if_neg (by decide)]
    refine ⟨fun y hy => ?_, by simp [fvL], by simp [avL], by simp⟩
    simp at hy; subst hy; exact h
  · rw [if_pos rfl]
    exact ⟨FinL.nil, by rw [fv_no hn]; rfl, by simp [avL], by simp⟩

/-- A step's growth: both together are at most a little greater than what was put together. -/
theorem sum_grows {a b : Nat} (ha : Wd a ∧ finW a) (hb : Wd b ∧ finW b) {G : Nat} (hab : (fvW a).natAbs + (fvW b).natAbs ≤ 4503599627370496 * G) (hG : 4503599627370496 * G ≤ QQ) :
    TwoP (sumP a b) (fvW a + fvW b) ∧ (fvW (sumP a b).1).natAbs + (fvW (sumP a b).2).natAbs ≤ (fvW a).natAbs + (fvW b).natAbs + G := by
  have t := sum_two ha.1 hb.1 ha.2 hb.2 (by omega) (by omega)
  refine ⟨t, ?_⟩
  have r := (pl_fin ha.1 hb.1 ha.2 hb.2 (by have := Q_pos; omega)).2.rel
  have e := t.val
  have e1 : (sumP a b).1 = plW a b := rfl
  rw [e1] at e ⊢
  generalize fvW (plW a b) = s at *
  generalize fvW (sumP a b).2 = l at *
  generalize fvW a = x at *
  generalize fvW b = y at *
  have e2 : s - (x + y) = -l := by omega
  rw [e2] at r
  have e3 : (-l).natAbs = l.natAbs := Int.natAbs_neg l
  rw [e3] at r
  omega

theorem with_ok (G : Nat) (hG : 4503599627370496 * G ≤ QQ) : ∀ (L : List Nat) (x : Nat), FinL L → Wd x ∧ finW x → avL L + (fvW x).natAbs + L.length * G ≤ 4503599627370496 * G →
    FinL (withL L x) ∧ fvL (withL L x) = fvL L + fvW x ∧ avL (withL L x) ≤ avL L + (fvW x).natAbs + L.length * G ∧ (withL L x).length ≤ L.length + 1 := by
  intro L
  induction L with
  | nil =>
    intro x _ hx _
    obtain ⟨h1, h2, h3, h4⟩ := andN_ok x hx
    refine ⟨h1, ?_, ?_, ?_⟩
    · show fvL (andN x) = _
      rw [h2]; simp [fvL]
    · show avL (andN x) ≤ _
      simp [avL]; omega
    · show (andN x).length ≤ _
      simp; omega
  | cons y ys ih =>
    intro x hL hx hb
    have hy := hL.head
    simp only [avL, List.length_cons] at hb
    rw [Nat.add_mul, Nat.one_mul] at hb
    obtain ⟨t, hg⟩ := sum_grows hx hy (G := G) (by omega) hG
    obtain ⟨h1, h2, h3, h4⟩ := ih (sumP x y).1 hL.tail ⟨t.w1, t.f1⟩ (by omega)
    obtain ⟨k1, k2, k3, k4⟩ := andN_ok (sumP x y).2 ⟨t.w2, t.f2⟩
    show FinL (andN (sumP x y).2 ++ withL ys (sumP x y).1) ∧ fvL (andN (sumP x y).2 ++ withL ys (sumP x y).1) = _ ∧ avL (andN (sumP x y).2 ++ withL ys (sumP x y).1) ≤ _ ∧ (andN (sumP x y).2 ++ withL ys (sumP x y).1).length ≤ _
    refine ⟨k1.append h1, ?_, ?_, ?_⟩
    · rw [fvL_append, k2, h2]
      have := t.val
      simp only [fvL]
      omega
    · rw [avL_append]
      simp only [avL, List.length_cons]
      rw [Nat.add_mul, Nat.one_mul]
      omega
    · rw [List.length_append, List.length_cons]
      omega

theorem merge_ok (G : Nat) (hG : 4503599627370496 * G ≤ QQ) : ∀ (B A : List Nat), FinL A → FinL B → avL A + avL B + B.length * (A.length + B.length) * G ≤ 4503599627370496 * G →
    FinL (mergeL A B) ∧ fvL (mergeL A B) = fvL A + fvL B ∧ avL (mergeL A B) ≤ avL A + avL B + B.length * (A.length + B.length) * G ∧ (mergeL A B).length ≤ A.length + B.length := by
  intro B
  induction B with
  | nil =>
    intro A hA _ _
    exact ⟨hA, by simp [mergeL, fvL], by simp [mergeL, avL], by simp [mergeL]⟩
  | cons x xs ih =>
    intro A hA hB hb
    simp only [avL, List.length_cons] at hb
    have e : (xs.length + 1) * (A.length + (xs.length + 1)) * G = A.length * G + xs.length * (A.length + 1 + xs.length) * G + (xs.length + 1) * G := by
      rw [← Nat.add_mul, ← Nat.add_mul]; congr 1; grind
    rw [e] at hb
    obtain ⟨h1, h2, h3, h4⟩ := with_ok G hG A x hA hB.head (by omega)
    have e2 : xs.length * ((withL A x).length + xs.length) * G ≤ xs.length * (A.length + 1 + xs.length) * G := Nat.mul_le_mul_right _ (Nat.mul_le_mul_left _ (by omega))
    obtain ⟨k1, k2, k3, k4⟩ := ih (withL A x) h1 hB.tail (by omega)
    refine ⟨k1, ?_, ?_, ?_⟩
    · show fvL (mergeL (withL A x) xs) = _
      rw [k2, h2]; simp only [fvL]; omega
    · show avL (mergeL (withL A x) xs) ≤ _
      simp only [avL, List.length_cons]
      rw [e]
      omega
    · show (mergeL (withL A x) xs).length ≤ _
      rw [List.length_cons]; omega

/-- The unit of growth: 2^926. -/
def EG : Nat := 2000
theorem exG : ∃ q : Nat, q = 2 ^ EG := ⟨_, rfl⟩
noncomputable def GG : Nat := Classical.choose exG
theorem G_eq : GG = 2 ^ EG := Classical.choose_spec exG
theorem G_pos : 0 < GG := by rw [G_eq]; exact Nat.two_pow_pos _
theorem G_Q : 4503599627370496 * GG ≤ QQ := by
  rw [G_eq, Q_eq, show (4503599627370496 : Nat) = 2 ^ 52 by decide, ← Nat.pow_add]
  exact Nat.pow_le_pow_right (by decide) (by decide)

theorem dist4 (a b c d G : Nat) : (a + b + c + d) * G = (a + c) * G + b * G + d * G := by
  rw [Nat.add_mul, Nat.add_mul, Nat.add_mul, Nat.add_mul]; omega
theorem dist5 (a b c d e G : Nat) : (a + b + c + d + e) * G = (a + c) * G + (b + d) * G + e * G := by
  rw [Nat.add_mul, Nat.add_mul, Nat.add_mul, Nat.add_mul, Nat.add_mul, Nat.add_mul]; omega
/-- What a row is: its sum; at most n numbers; c steps that it grew by. -/
structure Rk (L : List Nat) (V : Int) (n c : Nat) : Prop where
  fin : FinL L
  val : fvL L = V
  len : L.length ≤ n
  size : avL L ≤ (n * 17179869184 + c) * GG
theorem Rk.nil : Rk [] 0 0 0 := ⟨FinL.nil, rfl, by simp, by simp [avL]⟩
theorem Rk.with {L : List Nat} {V : Int} {n c : Nat} (h : Rk L V n c) {x : Nat} (hx : Wd x ∧ finW x) (hs : (fvW x).natAbs ≤ 17179869184 * GG) (hb : n * 17179869184 + 17179869184 + c + n ≤ 4503599627370496) :
    Rk (withL L x) (V + fvW x) (n + 1) (c + n) := by
  have e1 : L.length * GG ≤ n * GG := Nat.mul_le_mul_right _ h.len
  have e2 : (n * 17179869184 + 17179869184 + c + n) * GG ≤ 4503599627370496 * GG := Nat.mul_le_mul_right _ hb
  have e3 : (n * 17179869184 + 17179869184 + c + n) * GG = (n * 17179869184 + c) * GG + 17179869184 * GG + n * GG := dist4 _ _ _ _ _
  have hsz := h.size
  obtain ⟨h1, h2, h3, h4⟩ := with_ok GG G_Q L x h.fin hx (by omega)
  refine ⟨h1, by rw [h2, h.val], by have := h.len; omega, ?_⟩
  have e4 : ((n + 1) * 17179869184 + (c + n)) * GG = (n * 17179869184 + c) * GG + 17179869184 * GG + n * GG := by rw [Nat.add_mul n 1, Nat.one_mul, ← Nat.add_assoc]; exact dist4 _ _ _ _ _
  rw [e4]
  omega
theorem Rk.merge {A B : List Nat} {V U : Int} {n c m d : Nat} (h : Rk A V n c) (k : Rk B U m d) (hb : (n + m) * 17179869184 + c + d + m * (n + m) ≤ 4503599627370496) :
    Rk (mergeL A B) (V + U) (n + m) (c + d + m * (n + m)) := by
  have e0 : B.length * (A.length + B.length) ≤ m * (n + m) := Nat.mul_le_mul k.len (by have := h.len; have := k.len; omega)
  have e1 : B.length * (A.length + B.length) * GG ≤ m * (n + m) * GG := Nat.mul_le_mul_right _ e0
  have e2 : ((n + m) * 17179869184 + c + d + m * (n + m)) * GG ≤ 4503599627370496 * GG := Nat.mul_le_mul_right _ hb
  have e3 : ((n + m) * 17179869184 + c + d + m * (n + m)) * GG = (n * 17179869184 + c) * GG + (m * 17179869184 + d) * GG + m * (n + m) * GG := by rw [Nat.add_mul n m 17179869184]; exact dist5 _ _ _ _ _ _
  have hs1 := h.size
  have hs2 := k.size
  obtain ⟨h1, h2, h3, h4⟩ := merge_ok GG G_Q B A h.fin k.fin (by omega)
  refine ⟨h1, by rw [h2, h.val, k.val], by have := h.len; have := k.len; omega, ?_⟩
  have e4 : ((n + m) * 17179869184 + (c + d + m * (n + m))) * GG = ((n + m) * 17179869184 + c + d + m * (n + m)) * GG := by rw [← Nat.add_assoc, ← Nat.add_assoc]
  rw [e4, e3]
  omega
end Go.Proofs.YtnnlicahgdcbdaaGreatDoor

/- The program's row: and, with. -/
namespace Go.Proofs.YtnnlicahgdcbdaaGreatDoor
open Go.RowKit
set_option linter.unusedVariables false
set_option maxRecDepth 20000
set_option linter.unusedSimpArgs false

def Fw (n : Nat) : Value := .float .f64 n
theorem Tryz.info_f8 : (Tryz.prog.info? 38).map (fun i => (i.zero, i.size, i.bytes)) = some (some (.float .f64 0), 1, 8) := by kernel_rfl
theorem Tryz.desc_row8 : Tryz.prog.underlying 105 = some (.slice 38) := by kernel_rfl
/-- A block of numbers. -/
def Fb (w : World) (g : Nat) (C : List Value) : Prop := w.heap[g]? = some (.cells C.toArray 38 (0, 0))
theorem Fb.lt {w : World} {g : Nat} {C : List Value} (h : Fb w g C) : g < w.heap.size := (Array.getElem?_eq_some_iff.1 h).1
theorem Fb.cell {w : World} {g : Nat} {C : List Value} (h : Fb w g C) (i : Nat) (v : Value) (hi : C[i]? = some v) : w.cell? ⟨g, i, none⟩ = some v := by
  unfold World.cell?
  rw [h]
  simpa using hi
theorem Fb.of_block {w w' : World} {g : Nat} {C : List Value} (h : Fb w g C) (hb : w'.heap[g]? = w.heap[g]?) : Fb w' g C := by unfold Fb at h ⊢; rw [hb]; exact h
theorem Fb.below {w w' : World} {g : Nat} {C : List Value} (h : Fb w g C) (hb : Below w.heap.size w w') : Fb w' g C := h.of_block (hb.block g h.lt)
theorem Fb.alloc {w : World} {g : Nat} {C : List Value} (h : Fb w g C) (o : Obj) : Fb (w.alloc o) g C := h.of_block (Below.heap_alloc _ _ _ h.lt)
/-- A row of numbers of one's own. -/
def Fr (lo : Nat) (w : World) (v : Value) (L : List Nat) : Prop := w.ownsRow lo 38 1 v L.length (L.map Fw)
theorem Fr.nil (lo : Nat) (w : World) : Fr lo w (.slice none 0 0) [] := World.ownsRow_nil w lo 38 1
theorem map_inj8 {A B : List Nat} (h : A.map Fw = B.map Fw) : A = B := by
  have : Function.Injective Fw := fun a b h => by unfold Fw at h; injection h
  exact (List.map_inj_right (fun a b h => this h)).1 h
theorem Fr.of_block {lo : Nat} {w : World} {g : Nat} {C : List Value} (h : Fb w g C) (hlo : lo ≤ g) (hm : C.length ≤ maxLen) (K : List Nat) (hk : K.length ≤ C.length) (hK : C.take K.length = K.map Fw) : Fr lo w (.slice (some ⟨g, 0, none⟩) K.length C.length) K := by
  refine ⟨by simp, .inr ⟨g, C.length, _, rfl, hlo, h, hk, hm, by simp, ?_⟩⟩
  simpa using hK
theorem But.bel8 {g : Nat} {a w w' : World} (h : But g a w) (hb : Below w.heap.size w w') : But g a w' :=
  ⟨hb.os.trans h.os, hb.tape.trans h.tape, hb.output.trans h.output, Nat.le_trans h.size hb.size, fun k hk hne => (hb.block k (Nat.lt_of_lt_of_le hk h.size)).trans (h.block k hk hne)⟩
/-- The law for the walk. -/
theorem wpList_append8 {w : World} {ops : Array Oper} {rest : List Oper} {o : Oper} {a : Act} {Q : Exit → Act → World → Prop} (hgd : o.guard = none) (s x : Operand) (t : TypeId)
    (ho : o.op = .call { callee := .builtin .append, args := #[s, x], argTypes := #[t, t] }) (v u : Value) (hs : a.eval s = v) (hx : a.eval x = u) (v' : Value) (w' : World)
    (hrun : (Builtin.append_ #[t, t] o.type #[v, u]).run Tryz.prog w = .ok v' w') (h : wpList Tryz.prog ops Q rest (a.put o.dst v') w') : wpList Tryz.prog ops Q (o :: rest) a w := by
  refine wpList_plain hgd fun K hK => ?_
  unfold Oper.wp
  simp [execOp, ho, resolve, invoke, builtin, hs, hx, hrun, Result.andThen]
  exact hK _ _ h

theorem eqz8 {x : Nat} (h : Wd x ∧ finW x) : (FloatKind.f64.format.order x 0 == some .eq) = noW x := by
  have e := eq64 (negW x) false (magW x) 0 (Nat.le_of_lt h.2) (by decide)
  rw [← wd_of x h.1, show wd64 false 0 = 0 from rfl] at e
  rw [e]
  unfold noW sK
  rw [Bool.eq_iff_iff]
  simp only [decide_eq_true_eq, beq_iff_eq]
  cases negW x <;> simp <;> omega

/-- What comes of a block when a number is put at a place in it. -/
def putAt (C : List Value) (k x : Nat) : List Value := C.take k ++ (andN x).map Fw ++ C.drop (k + (andN x).length)
theorem putAt_len (C : List Value) (k x : Nat) (hk : k < C.length) : (putAt C k x).length = C.length := by
  unfold putAt andN
  split <;> simp <;> omega

set_option maxHeartbeats 1000000 in
theorem and_room (g k : Nat) (C : List Value) (x : Nat) (w : World) (hb : Fb w g C) (hk : k < C.length) (hx : Wd x ∧ finW x) :
    Calls Tryz.prog 161 #[.slice (some ⟨g, 0, none⟩) k C.length, .float .f64 x] w fun r w' => r = .returned (.slice (some ⟨g, 0, none⟩) (k + (andN x).length) C.length) ∧ Fb w' g (putAt C k x) ∧ But g w w' := by
  have hz := eqz8 hx
  cases hn : noW x
  · have hand : andN x = [x] := by unfold andN; rw [hn]; rfl
    rw [hn] at hz
    obtain ⟨i0, hi, hz0, hz1, hz2⟩ := info_parts Tryz.info_f8
    obtain ⟨W, hW⟩ : ∃ W, W = w.alloc (.cells #[.float .f64 x] 38) := ⟨_, rfl⟩
    have hcx : W.cell? ⟨w.heap.size, 0, none⟩ = some (.float .f64 x) := by subst hW; unfold World.cell?; simp only [heap_alloc_new]; rfl
    have hWb : Fb W g C := by subst hW; exact hb.alloc _
    have hr := run_append_room (P := Tryz.prog) W 105 105 38 i0 Tryz.desc_row8 hi g k C.length _ hWb ⟨w.heap.size, 0, none⟩ 1 1 [.float .f64 x] (by rw [hz1]; rfl) (by
      intro j u hj
      match j, hj with
      | 0, hj => simp at hj; subst hj; simpa [Addr.add] using hcx) (by intro u hu; simp at hu; subst hu; rfl) hk (by rw [hz1]; simp; omega)
    rw [hz1] at hr
    generalize hW2 : W.setRow g _ = W2 at hr
    have HR := Aside.intro hr
    have HF : Aside (Fb W2 g (putAt C k x) ∧ But g w W2) := by
      refine Aside.intro ⟨?_, ?_⟩
      · unfold Fb
        rw [← hW2, setRow_heap W g _ _ 38 _ hWb]
        congr 2
        unfold putAt
        rw [hand]
        simp [Fw]
      · rw [← hW2]
        refine ⟨by subst hW; rfl, by subst hW; rfl, by subst hW; rfl, by subst hW; simp, fun j hj hne => ?_⟩
        rw [setRow_other W g j _ hne]
        subst hW
        exact Below.heap_alloc _ _ _ hj
    rw [hand, List.length_singleton]
    clear hW2
    clear hr hWb hcx hb hk hx
    go_enter Tryz.func161, Tryz.ntmps161
    go_wp2_with (at_builtin; rw [← hW]; refine wpList_append8 rfl (.tmp 8) (.tmp 10) 105 rfl _ _ rfl rfl _ _ HR.out ?_)
    go_ret
    exact ⟨rfl, HF.out.1, HF.out.2⟩
  · have hand : andN x = [] := by unfold andN; rw [hn]; rfl
    rw [hn] at hz
    have HB : Aside (Fb w g (putAt C k x)) := by
      refine Aside.intro ?_
      unfold putAt; rw [hand]; simpa using hb
    rw [hand, List.length_nil, Nat.add_zero]
    clear hb hk hx
    go_enter Tryz.func161, Tryz.ntmps161
    go_wp2
    go_ret
    exact ⟨rfl, HB.out, But.refl _ _⟩

set_option maxHeartbeats 1000000 in
theorem and_any (lo : Nat) (v : Value) (K : List Nat) (x : Nat) (w : World) (hb : Fr lo w v K) (hlo : lo ≤ w.heap.size) (hk : K.length ≤ 1000000) (hx : Wd x ∧ finW x) :
    Calls Tryz.prog 161 #[v, .float .f64 x] w fun r w' => ∃ v', r = .returned v' ∧ Fr lo w' v' (K ++ andN x) ∧ w.grownBy w' v.ownBlock ∧ (v'.ownBlock = v.ownBlock ∨ ∃ g, v'.ownBlock = some g ∧ w.heap.size ≤ g) := by
  have hz := eqz8 hx
  cases hn : noW x
  · have hand : andN x = [x] := by unfold andN; rw [hn]; rfl
    rw [hn] at hz
    rw [hand]
    obtain ⟨i0, hi, hz0, hz1, hz2⟩ := info_parts Tryz.info_f8
    obtain ⟨W, hW⟩ : ∃ W, W = w.alloc (.cells #[.float .f64 x] 38) := ⟨_, rfl⟩
    have hcx : W.cell? ⟨w.heap.size, 0, none⟩ = some (.float .f64 x) := by subst hW; unfold World.cell?; simp only [heap_alloc_new]; rfl
    have hWb : Fr lo W v K := by subst hW; exact World.ownsRow.alloc hb _
    have hWs : w.heap.size ≤ W.heap.size := by subst hW; simp
    obtain ⟨v', w', r1, r2, r3, _, r5⟩ := run_append_own_at (P := Tryz.prog) W lo 105 105 38 i0 (.float .f64 0) 1 8 Tryz.desc_row8 hi hz0 hz1 hz2 rfl (by decide) v K.length (K.map Fw) hWb ⟨w.heap.size, 0, none⟩ 1 1 [.float .f64 x] rfl (by
      intro j u hj
      match j, hj with
      | 0, hj => simp at hj; subst hj; simpa [Addr.add] using hcx) (by intro u hu; simp at hu; subst hu; rfl) (by unfold maxLen; omega) (by omega) (by omega)
    have HR := Aside.intro r1
    have HF : Aside (Fr lo w' v' (K ++ [x]) ∧ w.grownBy w' v.ownBlock ∧ (v'.ownBlock = v.ownBlock ∨ ∃ g, v'.ownBlock = some g ∧ w.heap.size ≤ g)) := by
      refine Aside.intro ⟨?_, ⟨?_, ?_, ?_, ?_, fun j hj hne => ?_⟩, ?_⟩
      · unfold Fr; rw [List.length_append, List.map_append]; exact r2
      · rw [r3.os]; subst hW; rfl
      · rw [r3.tape]; subst hW; rfl
      · rw [r3.output]; subst hW; rfl
      · exact Nat.le_trans hWs r3.size
      · rw [r3.block j (by omega) hne]
        subst hW
        exact Below.heap_alloc _ _ _ hj
      · rcases r5 with h | h
        · exact .inl h
        · exact .inr ⟨_, h, hWs⟩
    clear r1 r2 r3 r5 hWb hcx hb hk hx hWs hlo
    go_enter Tryz.func161, Tryz.ntmps161
    go_wp2_with (at_builtin; rw [← hW]; refine wpList_append8 rfl (.tmp 8) (.tmp 10) 105 rfl _ _ rfl rfl _ _ HR.out ?_)
    go_ret
    exact ⟨v', rfl, HF.out.1, HF.out.2.1, HF.out.2.2⟩
  · have hand : andN x = [] := by unfold andN; rw [hn]; rfl
    rw [hn] at hz
    rw [hand, List.append_nil]
    have HB := Aside.intro hb
    clear hb hk hx
    go_enter Tryz.func161, Tryz.ntmps161
    go_wp2
    go_ret
    exact ⟨v, rfl, HB.out, ⟨rfl, rfl, rfl, Nat.le_refl _, fun _ _ _ => rfl⟩, .inl rfl⟩
end Go.Proofs.YtnnlicahgdcbdaaGreatDoor

/- The program's row: with. -/
namespace Go.Proofs.YtnnlicahgdcbdaaGreatDoor
open Go.RowKit
set_option linter.unusedVariables false
set_option maxRecDepth 20000
set_option linter.unusedSimpArgs false
attribute [local go_sem] st_float

/-- What stands while with walks. -/
structure Wi (g n cap : Nat) (A : List Nat) (x0 : Nat) (w : World) (i k x : Nat) (C : List Value) (wr : World) : Prop where
  blk : Fb wr g C
  len : C.length = cap
  ki : k ≤ i
  same : ∀ j, i ≤ j → j < n → C[j]? = some (Fw (A.getD j 0))
  done : ∃ K : List Nat, K.length = k ∧ C.take k = K.map Fw ∧ K ++ withL (A.drop i) x = withL A x0
  xok : Wd x ∧ finW x
  bound : avL (A.drop i) + (fvW x).natAbs + (A.drop i).length * GG ≤ 4503599627370496 * GG
  but : But g w wr
theorem get_putAt (C : List Value) (k x j : Nat) (hk : k < C.length) (hj : k + (andN x).length ≤ j) : (putAt C k x)[j]? = C[j]? := by
  unfold putAt
  have e : (C.take k ++ (andN x).map Fw).length = k + (andN x).length := by simp; omega
  rw [List.getElem?_append_right (by omega), e, List.getElem?_drop]
  congr 1
  omega
theorem drop_cons8 (A : List Nat) (i : Nat) (hi : i < A.length) : A.drop i = A.getD i 0 :: A.drop (i + 1) := by
  rw [List.getD_eq_getElem?_getD, List.getElem?_eq_getElem hi]
  exact List.drop_eq_getElem_cons hi
theorem FinL.drop {A : List Nat} (h : FinL A) (i : Nat) : FinL (A.drop i) := fun x hx => h x (List.mem_of_mem_drop hx)
theorem FinL.get {A : List Nat} (h : FinL A) (i : Nat) (hi : i < A.length) : Wd (A.getD i 0) ∧ finW (A.getD i 0) := by
  rw [List.getD_eq_getElem?_getD, List.getElem?_eq_getElem hi]
  exact h _ (List.getElem_mem hi)
theorem Wi.two {g n cap : Nat} {A : List Nat} {x0 : Nat} {w : World} {i k x : Nat} {C : List Value} {wr : World} (h : Wi g n cap A x0 w i k x C wr) (hA : FinL A) (hn : n = A.length) (hi : i < n) :
    TwoP (sumP x (A.getD i 0)) (fvW x + fvW (A.getD i 0)) ∧ avL (A.drop (i + 1)) + (fvW (sumP x (A.getD i 0)).1).natAbs + (A.drop (i + 1)).length * GG ≤ 4503599627370496 * GG := by
  have hb := h.bound
  rw [drop_cons8 A i (by omega)] at hb
  simp only [avL, List.length_cons] at hb
  rw [Nat.add_mul, Nat.one_mul] at hb
  obtain ⟨t, hg⟩ := sum_grows h.xok (hA.get i (by omega)) (G := GG) (by omega) G_Q
  exact ⟨t, by omega⟩
theorem Wi.next {g n cap : Nat} {A : List Nat} {x0 : Nat} {w : World} {i k x : Nat} {C : List Value} {wr w' : World} (h : Wi g n cap A x0 w i k x C wr) (hA : FinL A) (hn : n = A.length) (hnc : n ≤ cap) (hi : i < n)
    (h1 : Fb w' g (putAt C k (sumP x (A.getD i 0)).2)) (h2 : But g w w') :
    Wi g n cap A x0 w (i + 1) (k + (andN (sumP x (A.getD i 0)).2).length) (sumP x (A.getD i 0)).1 (putAt C k (sumP x (A.getD i 0)).2) w' := by
  obtain ⟨t, hb⟩ := h.two hA hn hi
  have hl := (andN_ok (sumP x (A.getD i 0)).2 ⟨t.w2, t.f2⟩).2.2.2
  have hk := h.ki
  have hlen := h.len
  refine ⟨h1, by rw [putAt_len _ _ _ (by omega)]; exact h.len, by omega, fun j hj hjn => ?_, ?_, ⟨t.w1, t.f1⟩, hb, h2⟩
  · rw [get_putAt _ _ _ _ (by omega) (by omega)]
    exact h.same j (by omega) hjn
  · obtain ⟨K, k1, k2, k3⟩ := h.done
    refine ⟨K ++ andN (sumP x (A.getD i 0)).2, by rw [List.length_append, k1], ?_, ?_⟩
    · unfold putAt
      have e : (C.take k ++ (andN (sumP x (A.getD i 0)).2).map Fw).length = k + (andN (sumP x (A.getD i 0)).2).length := by simp; omega
      rw [← e, List.take_left, List.map_append, k2]
    · rw [← k3, drop_cons8 A i (by omega)]
      show _ = K ++ (andN (sumP x (A.getD i 0)).2 ++ withL (A.drop (i + 1)) (sumP x (A.getD i 0)).1)
      rw [List.append_assoc]

set_option maxHeartbeats 2000000 in
theorem with_any (lo : Nat) (v : Value) (A : List Nat) (x : Nat) (w : World) (hv : Fr lo w v A) (hlo : lo ≤ w.heap.size) (hA : FinL A) (hx : Wd x ∧ finW x) (hl : A.length ≤ 100000) (hb : avL A + (fvW x).natAbs + A.length * GG ≤ 4503599627370496 * GG) :
    Calls Tryz.prog 110 #[v, .float .f64 x] w fun r w' => ∃ v', r = .returned v' ∧ Fr lo w' v' (withL A x) ∧ w.grownBy w' v.ownBlock ∧ (v'.ownBlock = v.ownBlock ∨ ∃ g, v'.ownBlock = some g ∧ w.heap.size ≤ g) := by
  rcases hv.2 with ⟨rfl, h0⟩ | ⟨g, cap, cur, rfl, hlog, hg, hnc, hcm, hcs, hct⟩
  · have hA0 : A = [] := List.eq_nil_of_length_eq_zero h0
    subst hA0
    have HL := hid (and_any lo (.slice none 0 0) [] x w hv hlo (by simp) hx)
    clear hv hlo hA hx hl hb h0
    go_enter Tryz.func110, Tryz.ntmps110
    go_wp2_with fail
    go_loopg [1, 5, 13] 0 (fun gk xv kv iv wr => xv = .float .f64 x ∧ kv = .slice none 0 0 ∧ iv = .int .i64 0 ∧ wr = w)
    case atStart => exact ⟨rfl, rfl, rfl, rfl⟩
    case round =>
      obtain ⟨rfl, rfl, rfl, rfl⟩ := hrel
      go_wp2_with fail
      with_reducible refine HL.out.mono ?_
      rintro r w1 ⟨v', rfl, h1, h2, h3⟩
      have H := Aside.intro (And.intro h1 (And.intro h2 h3))
      clear h1 h2 h3
      go_wp2
      go_ret
      exact ⟨v', rfl, H.out⟩
  · obtain ⟨n, hn⟩ : ∃ n, n = A.length := ⟨_, rfl⟩
    have hnc' : n ≤ cap := by omega
    have H0 : Aside (Wi g n cap A x w 0 0 x cur.toList w) := by
      refine Aside.intro ⟨by unfold Fb; simpa using hg, by simpa using hcs, Nat.le_refl _, fun j _ hj => ?_, ⟨[], rfl, by simp, by simp⟩, hx, by simpa using hb, But.refl _ _⟩
      have e : (cur.toList.take (A.length * 1))[j]? = some (Fw (A.getD j 0)) := by
        rw [hct, List.getElem?_map, List.getD_eq_getElem?_getD, List.getElem?_eq_getElem (by omega)]; rfl
      rw [List.getElem?_take, if_pos (by omega)] at e
      exact e
    have HA := Aside.intro (And.intro hA (And.intro hn (And.intro hnc' (And.intro hlog (And.intro hlo (And.intro hl (And.intro hcm (And.intro hcs hg))))))))
    rw [← hn]
    clear hv hlo hA hx hl hb hg hct hcs hlog hcm hnc hnc' hn
    go_enter Tryz.func110, Tryz.ntmps110
    go_wp2_with fail
    go_loopg [1, 5, 13] n (fun gk xv kv iv wr => ∃ (i k y : Nat) (C : List Value), gk + i = n ∧ xv = .float .f64 y ∧ kv = .slice (some ⟨g, 0, none⟩) k cap ∧ iv = .int .i64 (i : Nat) ∧ Aside (Wi g n cap A x w i k y C wr))
    case atStart => exact ⟨0, 0, x, cur.toList, by omega, rfl, rfl, rfl, H0⟩
    case round =>
      clear H0
      obtain ⟨i, k, z, C, hgi, rfl, rfl, rfl, HW⟩ := hrel
      by_cases hi : i < n
      · obtain ⟨y, hy⟩ : ∃ y, y = A.getD i 0 := ⟨_, rfl⟩
        have hc : wr.cell? ⟨g, i, none⟩ = some (.float .f64 y) := by
          rw [HW.out.blk.cell i _ (HW.out.same i (Nat.le_refl _) hi), hy]; rfl
        have HT := Aside.intro (HW.out.two HA.out.1 HA.out.2.1 hi)
        have HN := Aside.intro (fun w' => HW.out.next (w' := w') HA.out.1 HA.out.2.1 HA.out.2.2.1 hi)
        rw [← hy] at HT HN
        clear hy
        obtain ⟨⟨a, b⟩, hp⟩ : ∃ p, p = sumP z y := ⟨_, rfl⟩
        have HS := hid (fun u => Sum_all z y u)
        rw [← hp] at HS HT HN
        simp only at HS HT HN
        have HP : Aside (k < C.length ∧ C.length = cap) := ⟨by have := HW.out.ki; have := HW.out.len; have := HA.out.2.2.1; omega, HW.out.len⟩
        clear hp
        go_wp2_with fail
        refine (HS.out _).mono ?_
        rintro r w1 ⟨rfl, hb1⟩
        obtain ⟨W, hW⟩ : ∃ W, W = w1.alloc (.cells #[.float .f64 a, .float .f64 b] 202) := ⟨_, rfl⟩
        have H1 : Aside (Fb W g C ∧ But g wr W ∧ g < w1.heap.size) := by
          have h1 := HW.out.blk.below hb1
          subst hW
          exact ⟨h1.alloc _, ((But.refl g wr).bel8 hb1).alloc _, h1.lt⟩
        have hc0 : W.cell? ⟨w1.heap.size, 1, none⟩ = some (.float .f64 b) := by subst hW; unfold World.cell?; simp only [heap_alloc_new]; rfl
        have hc1 : Aside (W.heap[w1.heap.size]? = some (.cells #[.float .f64 a, .float .f64 b] 202 (0, 0)) ∧ w1.heap.size < W.heap.size) := by subst hW; exact ⟨heap_alloc_new _ _, by simp⟩
        clear hb1 hc
        have HD := hid (and_room g k C b W H1.out.1 HP.out.1 ⟨HT.out.1.w2, HT.out.1.f2⟩)
        rw [HP.out.2] at HD
        go_wp2_with fail
        rw [← hW]
        with_reducible refine HD.out.mono ?_
        rintro r w2 ⟨rfl, h2, h3⟩
        have H2 := Aside.intro (HN.out w2 h2 (HW.out.but.trans (H1.out.2.1.trans h3)))
        have hp0 : w2.cell? ⟨w1.heap.size, 0, none⟩ = some (.float .f64 a) := by
          unfold World.cell?
          rw [h3.block _ hc1.out.2 (by have := H1.out.2.2; omega), hc1.out.1]
          rfl
        clear h2 h3 hc0 hW HD
        have hi5 : i < 100000 := by have := HA.out.2.2.2.2.2.1; have := HA.out.2.1; omega
        go_wp2
        go_roundg (gk - 1)
        case measure => omega
        case rel => exact ⟨i + 1, _, a, _, by omega, rfl, rfl, by simp, H2⟩
      · obtain rfl : n = i := by omega
        obtain rfl : gk = 0 := by omega
        obtain ⟨K, k1, k2, k3⟩ := HW.out.done
        rw [show A.drop n = [] by rw [HA.out.2.1]; simp] at k3
        have hkn := HW.out.ki
        have hlc := HW.out.len
        have HF : Aside (Fr lo wr (.slice (some ⟨g, 0, none⟩) k cap) K) := by
          refine Aside.intro ?_
          have := Fr.of_block (lo := lo) HW.out.blk HA.out.2.2.2.1 (by rw [hlc]; exact HA.out.2.2.2.2.2.2.1) K (by have := HA.out.2.2.1; omega) (by rw [k1]; exact k2)
          rw [k1, hlc] at this
          exact this
        have HD := hid (and_any lo _ K z wr HF.out (Nat.le_trans HA.out.2.2.2.2.1 HW.out.but.size) (by have := HA.out.2.2.2.2.2.1; have := HA.out.2.1; omega) HW.out.xok)
        have hw : andN z = withL [] z := rfl
        rw [hw, k3] at HD
        have HG := Aside.intro HW.out.but
        clear k1 k2 k3 hkn hlc HF hw K HW
        go_wp2_with fail
        with_reducible refine HD.out.mono ?_
        rintro r w1 ⟨v', rfl, h1, h2, h3⟩
        have H : Aside (Fr lo w1 v' (withL A x) ∧ w.grownBy w1 (some g) ∧ (v'.ownBlock = some g ∨ ∃ g', v'.ownBlock = some g' ∧ w.heap.size ≤ g')) := by
          refine ⟨h1, ⟨h2.os.trans HG.out.os, h2.tape.trans HG.out.tape, h2.output.trans HG.out.output, Nat.le_trans HG.out.size h2.size, fun j hj hne => ?_⟩, ?_⟩
          · rw [h2.block j (Nat.lt_of_lt_of_le hj HG.out.size) hne]
            exact HG.out.block j hj (fun e => hne (by rw [e]))
          · rcases h3 with h | ⟨g', h, h'⟩
            · exact .inl h
            · exact .inr ⟨g', h, Nat.le_trans HG.out.size h'⟩
        clear h1 h2 h3 HD
        go_wp2
        go_ret
        exact ⟨v', rfl, H.out⟩
end Go.Proofs.YtnnlicahgdcbdaaGreatDoor

/- The program's row: slices.Clone, merged. -/
namespace Go.Proofs.YtnnlicahgdcbdaaGreatDoor
open Go.RowKit
set_option linter.unusedVariables false
set_option maxRecDepth 20000
set_option linter.unusedSimpArgs false

theorem Fr.keep {lo : Nat} {w w' : World} {v : Value} {L : List Nat} {row : Option Nat} (h : Fr lo w v L) (hg : w.grownBy w' row) (hr : ∀ g, v.ownBlock = some g → row ≠ some g) : Fr lo w' v L := by
  refine ⟨h.1, ?_⟩
  rcases h.2 with hn | ⟨g, cap, cur, rfl, hlo, hgc, rest⟩
  · exact .inl hn
  · refine .inr ⟨g, cap, cur, rfl, hlo, ?_, rest⟩
    rw [hg.block g (Array.getElem?_eq_some_iff.1 hgc).1 (fun e => hr g rfl e.symm)]; exact hgc
theorem Fr.below {lo : Nat} {w w' : World} {v : Value} {L : List Nat} (h : Fr lo w v L) (hb : Below w.heap.size w w') : Fr lo w' v L := by
  refine ⟨h.1, ?_⟩
  rcases h.2 with hn | ⟨g, cap, cur, rfl, hlo, hgc, rest⟩
  · exact .inl hn
  · refine .inr ⟨g, cap, cur, rfl, hlo, ?_, rest⟩
    rw [hb.block g (Array.getElem?_eq_some_iff.1 hgc).1]; exact hgc
theorem Fr.lt {lo : Nat} {w : World} {v : Value} {L : List Nat} (h : Fr lo w v L) {g : Nat} (hv : v.ownBlock = some g) : lo ≤ g ∧ g < w.heap.size := by
  rcases h.2 with ⟨rfl, hn⟩ | ⟨g', cap, cur, rfl, hlo, hgc, rest⟩
  · simp [Value.ownBlock] at hv
  · simp [Value.ownBlock] at hv
    subst hv
    exact ⟨hlo, (Array.getElem?_eq_some_iff.1 hgc).1⟩
theorem Fr.mono {lo lo' : Nat} {w : World} {v : Value} {L : List Nat} (h : Fr lo w v L) (hl : lo' ≤ lo) : Fr lo' w v L := by
  refine ⟨h.1, ?_⟩
  rcases h.2 with hn | ⟨g, cap, cur, rfl, hlo, rest⟩
  · exact .inl hn
  · exact .inr ⟨g, cap, cur, rfl, by omega, rest⟩
theorem Fr.shape {lo : Nat} {w : World} {v : Value} {L : List Nat} (h : Fr lo w v L) : (v = .slice none 0 0 ∧ L = []) ∨ ∃ g cap, v = .slice (some ⟨g, 0, none⟩) L.length cap ∧ lo ≤ g ∧ g < w.heap.size ∧ L.length ≤ cap ∧ cap ≤ maxLen ∧ ∀ i, i < L.length → w.cell? ⟨g, i, none⟩ = some (.float .f64 (L.getD i 0)) := by
  have h' := h
  rcases h.2 with ⟨rfl, hn⟩ | ⟨g, cap, cur, rfl, hlo, hg, hn, hm, hs, ht⟩
  · exact .inl ⟨rfl, List.eq_nil_of_length_eq_zero hn⟩
  · refine .inr ⟨g, cap, rfl, hlo, (Array.getElem?_eq_some_iff.1 hg).1, hn, hm, fun i hi => ?_⟩
    have := World.ownsRow.cellAt h' i (by omega)
    rw [this, List.getElem?_map, List.getElem?_eq_getElem hi, List.getD_eq_getElem?_getD, List.getElem?_eq_getElem hi]
    rfl

set_option maxHeartbeats 1000000 in
theorem clone8 (lo : Nat) (v : Value) (B : List Nat) (w : World) (hv : Fr lo w v B) (hn : B.length ≤ 1000000) :
    Calls Tryz.prog 162 #[v] w fun r w' => ∃ v', r = .returned v' ∧ Fr w.heap.size w' v' B ∧ Below w.heap.size w w' := by
  obtain ⟨i0, hi, hz0, hz1, hz2⟩ := info_parts Tryz.info_f8
  have q25 : ∀ (w : World) (a : Option Addr) (n c n' c' : Nat), (binOp .eql 105 (.slice a n c) (.slice none n' c')).run Tryz.prog w = .ok (.bool a.isNone) w := fun w a n c n' c' => Lib.run_eql_slice_nil w _ _ a n c n' c' Tryz.desc_row8
  rcases hv.shape with ⟨rfl, rfl⟩ | ⟨g, cap, rfl, hlo, hg, hc, hm, hcell⟩
  · clear hv hn
    go_enter Tryz.func162, Tryz.ntmps162
    go_wp2
    go_ret
    exact ⟨_, rfl, Fr.nil _ _, Below.refl _ _⟩
  · obtain ⟨n, hnl⟩ : ∃ n, n = B.length := ⟨_, rfl⟩
    have A := Aside.intro (And.intro hnl (And.intro hcell hn))
    rw [← hnl]
    clear hv hn hcell hm hlo hg hc hnl
    go_enter Tryz.func162, Tryz.ntmps162
    go_wp2_with (at_builtin; refine wpList_append_own _ rfl _ _ 105 rfl w.heap.size 38 i0 (.float .f64 0) 1 8 Tryz.desc_row8 hi hz0 hz1 hz2 rfl (by decide) _ _ _ rfl (World.ownsRow_made w #[] 0 (Nat.le_refl _) (Nat.zero_le _) (by simp)) ⟨g, 0, none⟩ n cap (B.map Fw) rfl ?qc1 ?qc2 ?qc3 ?qc4 ?qc5 ?qc6 ?_)
    case qc1 => simp [A.out.1]
    case qc2 =>
      intro j u hj
      have hj2 : j < B.length := by have := (List.getElem?_eq_some_iff.1 hj).1; simpa using this
      rw [Addr.add_lit]
      refine Lib.cell?_alloc_some _ ?_
      rw [Nat.zero_add, A.out.2.1 j hj2, ← hj, List.getElem?_map, List.getElem?_eq_getElem hj2, List.getD_eq_getElem?_getD, List.getElem?_eq_getElem hj2]
      rfl
    case qc3 => intro u hu; obtain ⟨x, _, rfl⟩ := List.mem_map.1 hu; rfl
    case qc4 => have := A.out.1; have := A.out.2.2; unfold maxLen; omega
    case qc5 => have := A.out.1; have := A.out.2.2; omega
    case qc6 => simp
    intro v' w1 hown hgrow hnil
    go_wp2
    go_ret
    refine ⟨v', rfl, ?_, ?_⟩
    · unfold Fr
      rw [← A.out.1]
      simpa using hown
    · exact ((Below.refl _ w).alloc (Nat.le_refl _) _).grown hgrow (by simp) (by intro k hk; simp [Value.ownBlock] at hk; omega)

/-- What stands while merged walks. -/
structure Mi (lo : Nat) (w : World) (v cv rv : Value) (A B : List Nat) (i : Nat) (R : List Nat) (wr : World) : Prop where
  row : Fr lo wr rv R
  copy : Fr w.heap.size wr cv B
  apart : ∀ g, cv.ownBlock = some g → rv.ownBlock ≠ some g
  own : rv.ownBlock = v.ownBlock ∨ ∃ g, rv.ownBlock = some g ∧ w.heap.size ≤ g
  grown : w.grownBy wr v.ownBlock
  val : mergeL R (B.drop i) = mergeL A B
  fin : FinL R
  len : R.length + (B.drop i).length ≤ A.length + B.length
  bound : avL R + avL (B.drop i) + (B.drop i).length * (R.length + (B.drop i).length) * GG ≤ 4503599627370496 * GG
theorem Mi.room {lo : Nat} {w : World} {v cv rv : Value} {A B : List Nat} {i : Nat} {R : List Nat} {wr : World} (h : Mi lo w v cv rv A B i R wr) (hi : i < B.length) : avL R + (fvW (B.getD i 0)).natAbs + R.length * GG ≤ 4503599627370496 * GG := by
  have hb := h.bound
  rw [drop_cons8 B i hi] at hb
  simp only [avL, List.length_cons] at hb
  have e : ((B.drop (i + 1)).length + 1) * (R.length + ((B.drop (i + 1)).length + 1)) * GG = R.length * GG + (B.drop (i + 1)).length * (R.length + 1 + (B.drop (i + 1)).length) * GG + ((B.drop (i + 1)).length + 1) * GG := by
    rw [← Nat.add_mul, ← Nat.add_mul]; congr 1; grind
  rw [e] at hb
  omega
theorem Mi.next {lo : Nat} {w : World} {v cv rv rv' : Value} {A B : List Nat} {i : Nat} {R : List Nat} {wr w' : World} (h : Mi lo w v cv rv A B i R wr) (hB : FinL B) (hi : i < B.length)
    (h1 : Fr lo w' rv' (withL R (B.getD i 0))) (h2 : wr.grownBy w' rv.ownBlock) (h3 : rv'.ownBlock = rv.ownBlock ∨ ∃ g, rv'.ownBlock = some g ∧ wr.heap.size ≤ g) :
    Mi lo w v cv rv' A B (i + 1) (withL R (B.getD i 0)) w' := by
  have hr := h.room hi
  obtain ⟨k1, k2, k3, k4⟩ := with_ok GG G_Q R (B.getD i 0) h.fin (hB.get i hi) hr
  have hb := h.bound
  have hl := h.len
  have hval := h.val
  rw [drop_cons8 B i hi] at hb hl hval
  simp only [avL, List.length_cons] at hb hl
  refine ⟨h1, h.copy.keep h2 (fun g hg => h.apart g hg), fun g hg => ?_, ?_, ?_, hval, k1, by omega, ?_⟩
  · rcases h3 with e | ⟨g', e, hg'⟩
    · rw [e]; exact h.apart g hg
    · rw [e]
      intro e2
      have := (h.copy.lt hg).2
      injection e2 with e3
      omega
  · rcases h3 with e | ⟨g', e, hg'⟩
    · rw [e]; exact h.own
    · exact .inr ⟨g', e, Nat.le_trans h.grown.size hg'⟩
  · refine ⟨h2.os.trans h.grown.os, h2.tape.trans h.grown.tape, h2.output.trans h.grown.output, Nat.le_trans h.grown.size h2.size, fun k hk hne => ?_⟩
    rw [h2.block k (Nat.lt_of_lt_of_le hk h.grown.size) ?_]
    · exact h.grown.block k hk hne
    · rcases h.own with e | ⟨g', e, hg'⟩
      · rw [e]; exact hne
      · rw [e]; intro e2; injection e2 with e3; omega
  · have e : ((B.drop (i + 1)).length + 1) * (R.length + ((B.drop (i + 1)).length + 1)) * GG = R.length * GG + (B.drop (i + 1)).length * (R.length + 1 + (B.drop (i + 1)).length) * GG + ((B.drop (i + 1)).length + 1) * GG := by
      rw [← Nat.add_mul, ← Nat.add_mul]; congr 1; grind
    rw [e] at hb
    have e2 : (B.drop (i + 1)).length * ((withL R (B.getD i 0)).length + (B.drop (i + 1)).length) * GG ≤ (B.drop (i + 1)).length * (R.length + 1 + (B.drop (i + 1)).length) * GG := Nat.mul_le_mul_right _ (Nat.mul_le_mul_left _ (by omega))
    omega

set_option maxHeartbeats 2000000 in
theorem merged_any (lo : Nat) (v vb : Value) (A B : List Nat) (w : World) (hv : Fr lo w v A) (hvb : Fr lo w vb B) (hlo : lo ≤ w.heap.size) (hA : FinL A) (hB : FinL B) (hl : A.length + B.length ≤ 100000) (hb : avL A + avL B + B.length * (A.length + B.length) * GG ≤ 4503599627370496 * GG) :
    Calls Tryz.prog 111 #[v, vb] w fun r w' => ∃ v', r = .returned v' ∧ Fr lo w' v' (mergeL A B) ∧ w.grownBy w' v.ownBlock ∧ (v'.ownBlock = v.ownBlock ∨ ∃ g, v'.ownBlock = some g ∧ w.heap.size ≤ g) := by
  have HC := hid (clone8 lo vb B w hvb (by omega))
  obtain ⟨n, hn⟩ : ∃ n, n = B.length := ⟨_, rfl⟩
  have HA := Aside.intro (And.intro hv (And.intro hlo (And.intro hA (And.intro hB (And.intro hl (And.intro hb hn))))))
  have hn5 : n ≤ 100000 := by omega
  clear hv hvb hlo hA hB hl hb hn
  go_enter Tryz.func111, Tryz.ntmps111
  go_wp2_with fail
  with_reducible refine HC.out.mono ?_
  rintro r w1 ⟨cv, rfl, hcv, hb1⟩
  have H0 : Aside (Mi lo w v cv v A B 0 A w1) := by
    obtain ⟨h1, h2, h3, h4, h5, h6, h7⟩ := HA.out
    refine ⟨h1.below hb1, hcv, fun g hg e => ?_, .inl rfl, ⟨hb1.os, hb1.tape, hb1.output, hb1.size, fun k hk _ => hb1.block k hk⟩, by simp, h3, by simp, by simpa using h6⟩
    have e1 := (hcv.lt hg).1
    have e2 := (h1.lt e).2
    omega
  have HL : Aside (∃ ao c, cv = .slice ao n c) := by
    rcases hcv.shape with ⟨rfl, h⟩ | ⟨g, cap, rfl, _⟩
    · exact ⟨none, 0, by rw [HA.out.2.2.2.2.2.2, h]; rfl⟩
    · exact ⟨_, _, by rw [HA.out.2.2.2.2.2.2]⟩
  clear hcv hb1 HC
  obtain ⟨ao, cc, rfl⟩ := HL.out
  clear HL
  go_wp2_with fail
  go_loopg [0, 10] n (fun gk rv iv wr => ∃ (i : Nat) (R : List Nat), gk + i = n ∧ iv = .int .i64 (i : Nat) ∧ Aside (Mi lo w v (.slice ao n cc) rv A B i R wr))
  case atStart => exact ⟨0, A, by omega, rfl, H0⟩
  case round =>
    clear H0
    obtain ⟨i, R, hgi, rfl, HW⟩ := hrel
    by_cases hi : i < n
    · have hi2 : i < B.length := by have := HA.out.2.2.2.2.2.2; omega
      have HI := Aside.intro hi2
      clear hi2
      rcases HW.out.copy.shape with ⟨h1, h2⟩ | ⟨g, cap, h1, _, _, _, _, hcell⟩
      · exfalso
        have := HI.out
        rw [h2] at this
        simp at this
      · cases h1
        obtain ⟨y, hy⟩ : ∃ y, y = B.getD i 0 := ⟨_, rfl⟩
        have hc := hcell i HI.out
        rw [← hy] at hc
        have HS := hid (with_any lo u0 R y wr HW.out.row (Nat.le_trans HA.out.2.1 HW.out.grown.size) HW.out.fin (by rw [hy]; exact HA.out.2.2.2.1.get i HI.out) (by have := HW.out.len; have := HA.out.2.2.2.2.1; omega) (by rw [hy]; exact HW.out.room HI.out))
        have HN := Aside.intro (fun w' rv' => HW.out.next (w' := w') (rv' := rv') HA.out.2.2.2.1 HI.out)
        rw [← hy] at HN
        clear hy hcell
        go_wp2_with fail
        with_reducible refine HS.out.mono ?_
        rintro r w2 ⟨v', rfl, k1, k2, k3⟩
        have H2 := Aside.intro (HN.out w2 v' k1 k2 k3)
        clear k1 k2 k3 hc HS
        go_wp2
        go_roundg (gk - 1)
        case measure => omega
        case rel => exact ⟨i + 1, _, by omega, by simp, H2⟩
    · obtain rfl : n = i := by omega
      obtain rfl : gk = 0 := by omega
      have e := HW.out.val
      rw [show B.drop n = [] by rw [HA.out.2.2.2.2.2.2]; simp] at e
      have H : Aside (Fr lo wr u0 (mergeL A B) ∧ w.grownBy wr v.ownBlock ∧ (u0.ownBlock = v.ownBlock ∨ ∃ g, u0.ownBlock = some g ∧ w.heap.size ≤ g)) := by
        refine ⟨?_, HW.out.grown, HW.out.own⟩
        rw [← e]
        exact HW.out.row
      clear e HW
      go_wp2
      go_ret
      exact ⟨u0, rfl, H.out⟩
end Go.Proofs.YtnnlicahgdcbdaaGreatDoor

/- Numbers' forms against powers of two, and against one another. -/
namespace Go.Proofs.YtnnlicahgdcbdaaGreatDoor
open Go.RowKit J
set_option linter.unusedVariables false
set_option maxRecDepth 20000
set_option linter.unusedSimpArgs false

/-- A value's size. -/
theorem fo_abs {n : Bool} {X : Nat} {e z L H : Int} (h : Fo (some (n, X, e)) z L H) : X * 2 ^ (e - -2097152).toNat = z.natAbs * SS := by
  obtain ⟨F, hv, _⟩ := h.frm
  unfold zv at hv
  simp only at hv
  have := congrArg Int.natAbs hv
  rw [Int.natAbs_mul, Int.natAbs_mul, Int.natAbs_natCast, Int.natAbs_natCast] at this
  rw [← this]
  unfold sg1; cases n <;> simp
theorem fo_zero {n : Bool} {X : Nat} {e z L H : Int} (h : Fo (some (n, X, e)) z L H) : X = 0 ↔ z = 0 := by
  have a := fo_abs h
  have hS := S_pos
  constructor
  · intro hX
    rw [hX, Nat.zero_mul] at a
    rcases Nat.mul_eq_zero.1 a.symm with q | q <;> omega
  · intro hz
    rw [hz, Int.natAbs_zero, Nat.zero_mul] at a
    rcases Nat.mul_eq_zero.1 a with q | q
    · exact q
    · have := Nat.two_pow_pos (e - -2097152).toNat; omega
theorem cmpZ_scale (x y : Int) (k : Nat) (hk : 0 < k) : cmpZ (x * (k : Int)) (y * (k : Int)) = cmpZ x y := by
  have hlt : ∀ a b : Int, a * (k : Int) < b * (k : Int) ↔ a < b := fun a b => ⟨fun h => Int.lt_of_mul_lt_mul_right h (by omega), fun h => Int.mul_lt_mul_of_pos_right h (by omega)⟩
  unfold cmpZ
  simp only [hlt]
/-- TwoP forms. -/
theorem cmp_fo {n m : Bool} {X Y : Nat} {e f x y L H L' H' : Int} (h1 : Fo (some (n, X, e)) x L H) (h2 : Fo (some (m, Y, f)) y L' H') : cmpV n X e m Y f = cmpZ x y := by
  obtain ⟨F, hv, _⟩ := h1.frm
  obtain ⟨G, hw, _⟩ := h2.frm
  have d1 := F.down
  have d2 := G.down
  rw [cmpV_z n X e m Y f (-2097152) (by omega) (by omega)]
  have a1 : sg1 n * ((X * 2 ^ (e - -2097152).toNat : Nat) : Int) = x * (SS : Int) := hv
  have a2 : sg1 m * ((Y * 2 ^ (f - -2097152).toNat : Nat) : Int) = y * (SS : Int) := hw
  rw [a1, a2, cmpZ_scale x y SS S_pos]
end Go.Proofs.YtnnlicahgdcbdaaGreatDoor

/- Exact sums as dyads, by value. -/
namespace Go.Proofs.YtnnlicahgdcbdaaGreatDoor
open Go.RowKit
set_option linter.unusedVariables false
set_option maxRecDepth 20000
set_option linter.unusedSimpArgs false

/-- The form of V times 2^-1074. -/
def fo8 (V : Int) : Option (Bool × Nat × Int) := mkS (decide (V < 0)) V.natAbs (-1074)
theorem sg1_abs (V : Int) : sg1 (decide (V < 0)) * (V.natAbs : Int) = V := by
  unfold sg1
  by_cases h : V < 0
  · rw [decide_eq_true h, if_pos rfl]; omega
  · rw [decide_eq_false h, if_neg (by decide)]; omega
theorem fo8_fo (V : Int) (m : Nat) (hm : m ≤ 200000) (hV : V.natAbs < 2 ^ m) : Fo (fo8 V) (V * (UU : Int)) (-1074) ((m : Int) - 1074) := by
  by_cases h0 : V = 0
  · subst h0
    refine ⟨⟨false, 0, 0, ?_, ?_, ?_, .inl rfl⟩⟩
    · unfold fo8; exact mkS_zero _ _
    · exact mkS_frm (mkS_zero false 0)
    · rw [zv_zero _ rfl]; simp
  · obtain ⟨X, e, h1, h2, h3, h4⟩ := mkS_sz (decide (V < 0)) V.natAbs (-1074) (-1074) ((m : Int) - 1074) (by omega) (by omega) (by have := blLe hV; omega) (by omega) (by omega) (by omega)
    refine ⟨⟨_, X, e, h1, mkS_frm h1, ?_, .inr ⟨h3, h4⟩⟩⟩
    rw [zv_mkS h1 (-2097152) (.inr (by omega))]
    have e1 : (2 : Nat) ^ ((-1074 : Int) - -2097152).toNat = UU * SS := US _ (by decide)
    rw [e1, Int.natCast_mul, Int.natCast_mul, ← Int.mul_assoc, sg1_abs, Int.mul_assoc]
theorem fo8_one {o : Option (Bool × Nat × Int)} {V L H : Int} (h : Fo o (V * (UU : Int)) L H) (m : Nat) (hm : m ≤ 200000) (hV : V.natAbs < 2 ^ m) : o = fo8 V := by
  obtain ⟨n, X, e, rfl, F1, z1, _⟩ := h.ex
  obtain ⟨n', X', e', h2, F2, z2, _⟩ := (fo8_fo V m hm hV).ex
  rw [h2]
  obtain ⟨rfl, rfl, rfl⟩ := zv_inj F1 F2 (-2097152) (by omega) (by rw [z1, z2])
  rfl
theorem fo8_frm (V : Int) (m : Nat) (hm : m ≤ 200000) (hV : V.natAbs < 2 ^ m) : ∃ n X e, fo8 V = some (n, X, e) ∧ Frm n X e ∧ (X = 0 ↔ V = 0) ∧ (V ≠ 0 → n = decide (V < 0)) ∧ -1074 ≤ e ∧ e ≤ 200000 := by
  have h := fo8_fo V m hm hV
  obtain ⟨n, X, e, h1, F, z, hb⟩ := h.ex
  have hz := fo_zero (h1 ▸ h)
  have hU := U_pos
  have hz2 : X = 0 ↔ V = 0 := by
    rw [hz]
    constructor
    · intro q
      rcases Int.mul_eq_zero.1 q with q | q
      · exact q
      · omega
    · intro q; rw [q]; simp
  refine ⟨n, X, e, h1, F, hz2, fun hV0 => ?_, ?_⟩
  · have := (round_fo (h1 ▸ h) (fun q => by rcases Int.mul_eq_zero.1 q with q | q; exact hV0 q; omega)).2.1
    rw [this, decide_eq_decide]
    constructor
    · intro q
      by_cases q2 : V < 0
      · exact q2
      · have := Int.mul_nonneg (show 0 ≤ V by omega) (show (0 : Int) ≤ UU by omega); omega
    · intro q; exact Int.mul_neg_of_neg_of_pos q (by omega)
  · rcases hb with q | ⟨q1, q2⟩
    · rcases F.odd with q3 | ⟨_, _, q3⟩
      · omega
      · omega
    · constructor
      · exact q1
      · omega
/-- Sums of forms. -/
theorem fo8_add (V U : Int) (m : Nat) (hm : m ≤ 100000) (hV : V.natAbs < 2 ^ m) (hU : U.natAbs < 2 ^ m) : addD (fo8 V) (fo8 U) = fo8 (V + U) := by
  have h1 := fo8_fo V m (by omega) hV
  have h2 := fo8_fo U m (by omega) hU
  have h3 := h1.add h2 (by omega) (by omega) (by omega)
  rw [← Int.add_mul] at h3
  have : 2 ^ (m + 1) = 2 * 2 ^ m := by rw [Nat.pow_succ, Nat.mul_comm]
  exact fo8_one h3 (m + 1) (by omega) (by omega)
theorem fo8_self (V : Int) (m : Nat) (hm : m ≤ 200000) (hV : V.natAbs < 2 ^ m) : mkS (dN (fo8 V)) (dX (fo8 V)) (dE (fo8 V)) = fo8 V := by
  obtain ⟨n, X, e, h1, F, _⟩ := fo8_frm V m hm hV
  rw [h1]
  exact mkS_idem F
theorem fo8_er (V : Int) (m : Nat) (hm : m ≤ 200000) (hV : V.natAbs < 2 ^ m) : erS (fo8 V) = 0 := by
  obtain ⟨n, X, e, h1, F, _⟩ := fo8_frm V m hm hV
  rw [h1]
  rfl
theorem fo8_neg (V : Int) (m : Nat) (hm : m ≤ 200000) (hV : V.natAbs < 2 ^ m) : mkS (!(dN (fo8 V))) (dX (fo8 V)) (dE (fo8 V)) = fo8 (-V) := by
  obtain ⟨n, X, e, h1, F, h2, h3, h4⟩ := fo8_frm V m hm hV
  have h := fo8_fo V m hm hV
  rw [h1] at h ⊢
  obtain ⟨_, hz, hb⟩ := h.frm
  show mkS (!n) X e = _
  by_cases hX : X = 0
  · have : V = 0 := h2.1 hX
    subst this
    rw [hX]
    unfold fo8
    simp only [Int.neg_zero, Int.natAbs_zero]
    rw [mkS_zero, mkS_zero]
  · have ho : X % 2 = 1 := by rcases F.odd with q | q; exact q; exact absurd q.1 hX
    have hs : mkS (!n) X e = some (!n, X, e) := by
      rw [mkS_odd _ _ _ ho, if_neg (by have := F.size; have := F.up; have := F.down; omega)]
    refine fo8_one (L := -1074) (H := (m : Int) - 1074) ⟨⟨!n, X, e, hs, mkS_frm hs, ?_, hb⟩⟩ m hm (by rw [Int.natAbs_neg]; exact hV)
    have : zv (-2097152) (!n, X, e) = -zv (-2097152) (n, X, e) := by
      unfold zv
      simp only
      rw [sg1_not, Int.neg_mul]
    rw [this, hz, Int.neg_mul, Int.neg_mul]
/-- A form, times a power of two. -/
theorem fo8_up (V : Int) (up m : Nat) (hm : m + up ≤ 100000) (hV : V.natAbs < 2 ^ m) : mkS (dN (fo8 V)) (dX (fo8 V)) (dE (fo8 V) + (up : Nat)) = fo8 (V * 2 ^ up) := by
  obtain ⟨n, X, e, h1, F, h2, h3, h4, h5⟩ := fo8_frm V m (by omega) hV
  have h := fo8_fo V m (by omega) hV
  rw [h1] at h ⊢
  obtain ⟨_, hz, hb⟩ := h.frm
  show mkS n X (e + (up : Nat)) = _
  by_cases hX : X = 0
  · have : V = 0 := h2.1 hX
    subst this
    rw [hX]
    unfold fo8
    simp only [Int.zero_mul, Int.natAbs_zero]
    rw [mkS_zero, mkS_zero]
  · have ho : X % 2 = 1 := by rcases F.odd with q | q; exact q; exact absurd q.1 hX
    rcases hb with hb | ⟨hb1, hb2⟩
    · exact absurd hb hX
    have hs : mkS n X (e + (up : Nat)) = some (n, X, e + (up : Nat)) := by
      rw [mkS_odd _ _ _ ho, if_neg (by have := F.size; have := F.up; have := F.down; omega)]
    refine fo8_one (L := -1074) (H := ((m + up : Nat) : Int) - 1074) ⟨⟨n, X, e + (up : Nat), hs, mkS_frm hs, ?_, .inr ⟨by omega, by omega⟩⟩⟩ (m + up) (by omega) ?_
    · have : zv (-2097152) (n, X, e + (up : Nat)) = zv (-2097152) (n, X, e) * 2 ^ up := by
        unfold zv
        simp only
        have e2 : (e + (up : Nat) - -2097152).toNat = (e - -2097152).toNat + up := by omega
        rw [e2, Nat.pow_add, ← Nat.mul_assoc, Int.natCast_mul, Int.natCast_pow 2 up, ← Int.mul_assoc]
        rfl
      rw [this, hz]
      rw [Int.mul_assoc, Int.mul_comm (SS : Int), ← Int.mul_assoc, Int.mul_assoc V, Int.mul_comm (UU : Int), ← Int.mul_assoc]
    · rw [Int.natAbs_mul, Int.natAbs_pow, Nat.pow_add]
      exact Nat.mul_lt_mul_of_pos_right hV (Nat.two_pow_pos _)
/-- What Of says of a number. -/
theorem top_fv {x : Nat} (hx : Wd x) (fx : finW x) (m : Nat) (hm : m = 2098) : (fvW x).natAbs < 2 ^ m := by
  unfold fvW
  rw [sg_abs]
  have := top_v (magW x) fx 2045 rfl
  obtain ⟨a, ha⟩ : ∃ a, a = 2045 := ⟨_, rfl⟩
  have h2 := top_v (magW x) fx a ha
  rw [show m = 53 + a by omega, Nat.pow_add]
  exact h2
theorem of_fo8 {x : Nat} (hx : Wd x) (fx : finW x) : ofK (negW x) (magW x) = fo8 (fvW x) := by
  obtain ⟨n, X, e, h1, h2, _⟩ := of_fo (negW x) (magW x) fx
  rw [h1]
  exact fo8_one h2 2098 (by omega) (top_fv hx fx 2098 rfl)
end Go.Proofs.YtnnlicahgdcbdaaGreatDoor

/- The program's row: exact. -/
namespace Go.Proofs.YtnnlicahgdcbdaaGreatDoor
open Go.RowKit
set_option linter.unusedVariables false
set_option maxRecDepth 20000
set_option linter.unusedSimpArgs false

theorem fo8_len (V : Int) (m : Nat) (hm : m ≤ 200000) (hV : V.natAbs < 2 ^ m) : (ws (dX (fo8 V))).length ≤ 8192 ∧ -9223372036854775808 ≤ dE (fo8 V) ∧ dE (fo8 V) ≤ 9223372036854775807 ∧ -1074 ≤ dE (fo8 V) ∧ dE (fo8 V) ≤ 200000 := by
  obtain ⟨n, X, e, h1, F, _, _, h4, h5⟩ := fo8_frm V m hm hV
  rw [h1]
  exact ⟨frmLen F, by show -9223372036854775808 ≤ e; omega, by show e ≤ 9223372036854775807; omega, h4, h5⟩
/-- Of, of a number that is finite. -/
theorem of_any8 (x : Nat) (hx : Wd x ∧ finW x) (w : World) (hT : Tab w) :
    Calls Tryz.prog 74 #[.float .f64 x] w fun r w' => (∃ v, r = .returned (.tuple #[.agg #[.bool (dN (fo8 (fvW x))), v, .int .i64 (dE (fo8 (fvW x)))], .int .i64 0]) ∧ Nt w.heap.size w' v (dX (fo8 (fvW x)))) ∧ Below w.heap.size w w' := by
  obtain ⟨h1, h2, h3, _⟩ := wd64_bw (negW x) (magW x) (Nat.le_of_lt hx.2)
  have := Of_any (negW x) (magW x / 4503599627370496) (magW x % 4503599627370496) h2 h3 w hT
  rw [← h1, ← wd_of x hx.1] at this
  refine this.mono ?_
  rintro r w' ⟨⟨v, rfl, hN⟩, hb⟩
  have e := of_fo8 hx.1 hx.2
  unfold ofK at e
  rw [e] at hN ⊢
  have he : ofE (magW x / 4503599627370496) = 0 := by unfold ofE; rw [if_neg (by have := hx.2; omega)]
  rw [he]
  exact ⟨⟨v, rfl, hN⟩, hb⟩
/-- Add, of two forms by value. -/
theorem add_any8 (V U : Int) (m : Nat) (hm : m ≤ 100000) (hV : V.natAbs < 2 ^ m) (hU : U.natAbs < 2 ^ m) (e : Int) (he0 : -9223372036854775808 ≤ e) (he1 : e ≤ 9223372036854775807) (n : Bool) (X : Nat) (hX : mkS n X e = fo8 U)
    (w : World) (a b : Option Addr) (c d : Nat) (hT : Tab w) (h1 : Arg w a (ws (dX (fo8 V))).length c (ws (dX (fo8 V)))) (h2 : Arg w b (ws X).length d (ws X)) :
    Calls Tryz.prog 68 #[.agg #[.bool (dN (fo8 V)), .slice a (ws (dX (fo8 V))).length c, .int .i64 (dE (fo8 V))], .agg #[.bool n, .slice b (ws X).length d, .int .i64 e]] w fun r w' =>
      (∃ v, r = .returned (.tuple #[.agg #[.bool (dN (fo8 (V + U))), v, .int .i64 (dE (fo8 (V + U)))], .int .i64 0]) ∧ Nt w.heap.size w' v (dX (fo8 (V + U)))) ∧ Below w.heap.size w w' := by
  obtain ⟨l1, l2, l3, _⟩ := fo8_len V m (by omega) hV
  have := Add_any3 h1 h2 hT (dN (fo8 V)) n (dE (fo8 V)) e l2 l3 he0 he1
  rw [val_ws, val_ws, fo8_self V m (by omega) hV, hX, fo8_add V U m hm hV hU] at this
  refine this.mono ?_
  rintro r w' ⟨⟨v, rfl, hN⟩, hb⟩
  have e2 : 2 ^ (m + 1) = 2 * 2 ^ m := by rw [Nat.pow_succ, Nat.mul_comm]
  rw [fo8_er (V + U) (m + 1) (by omega) (by omega)]
  exact ⟨⟨v, rfl, hN⟩, hb⟩

theorem fvL_take (L : List Nat) (i : Nat) (hi : i < L.length) : fvL (L.take (i + 1)) = fvL (L.take i) + fvW (L.getD i 0) := by
  have e : L.take (i + 1) = L.take i ++ [L.getD i 0] := by
    rw [List.getD_eq_getElem?_getD, List.getElem?_eq_getElem hi]
    exact List.take_succ_eq_append_getElem hi
  rw [e, fvL_append]
  simp [fvL]
theorem avL_take (L : List Nat) (i : Nat) : avL (L.take i) ≤ avL L := by
  have : avL L = avL (L.take i) + avL (L.drop i) := by rw [← avL_append, List.take_append_drop]
  omega
theorem fv_av (L : List Nat) : (fvL L).natAbs ≤ avL L := by
  induction L with
  | nil => simp [fvL, avL]
  | cons x L ih => simp only [fvL, avL]; omega
theorem avL_get (L : List Nat) (i : Nat) (hi : i < L.length) : (fvW (L.getD i 0)).natAbs ≤ avL L := by
  have : avL L = avL (L.take i) + avL (L.drop i) := by rw [← avL_append, List.take_append_drop]
  rw [drop_cons8 L i hi] at this
  simp only [avL] at this
  omega
/-- The bound, as a power. -/
theorem pw_up {V : Int} {m up : Nat} (h : V.natAbs < 2 ^ m) : (V * 2 ^ up).natAbs < 2 ^ (m + up) := by
  rw [Int.natAbs_mul, Int.natAbs_pow, Nat.pow_add]
  exact Nat.mul_lt_mul_of_pos_right h (Nat.two_pow_pos _)

theorem Nt.but8 {lo g : Nat} {w w' : World} {v : Value} {X : Nat} (h : Nt lo w v X) (hb : But g w w') (hg : g < lo) : Nt lo w' v X := by
  refine ⟨h.1, ?_⟩
  rcases h.2 with hn | ⟨g', cap, cur, rfl, hlo, hgc, rest⟩
  · exact .inl hn
  · exact .inr ⟨g', cap, cur, rfl, hlo, (hb.block g' (Array.getElem?_eq_some_iff.1 hgc).1 (by omega)).trans hgc, rest⟩
theorem Tryz.row_dyad8 : ∃ d : TypeDesc, Tryz.prog.underlying 33 = some d ∧ d.isRow = true := by
  have h : (Tryz.prog.underlying 33).any (·.isRow) = true := by kernel_rfl
  obtain ⟨d, h1, h2⟩ := (Option.any_eq_true _ _).1 h
  exact ⟨d, h1, h2⟩
theorem Tryz.size_dyad8 : (Tryz.prog.info? 33).map (·.size) = some 3 := by kernel_rfl
/-- The end of a function whose result is a Dyad in a variable. -/
theorem close8 {fn : Func} {p : Tmp} (h : fn.results = #[.cell p 33]) {tmps : Array Value} {W : World} {g : Nat} {n : Bool} {v : Value} {e : Int} {Q : Ending → World → Prop}
    (hp : tmps.getD p undef = .pointer (some ⟨g, 0, none⟩)) (hD : Dk W g n v e) (hQ : Q (.returned (.agg #[.bool n, v, .int .i64 e])) W) : bodyPost Tryz.prog fn Q .ret ⟨tmps, []⟩ W := by
  refine bodyPost_ret (v := .agg #[.bool n, v, .int .i64 e]) ?_ rfl hQ
  obtain ⟨d, h1, h2⟩ := Tryz.row_dyad8
  cases d <;> first
    | exact results_cell_row (P := Tryz.prog) h tmps W g 33 _ _ _ hp hD h1 rfl (by rw [Tryz.size_dyad8]; rfl)
    | exact absurd h2 (by simp [TypeDesc.isRow])
/-- What stands while exact walks. -/
structure Xi (w : World) (L : List Nat) (up i : Nat) (wr : World) : Prop where
  res : Dk wr w.heap.size false (.slice none 0 0) 0
  sum : ∃ v, Dk wr (w.heap.size + 1) (dN (fo8 (fvL (L.take i) * 2 ^ up))) v (dE (fo8 (fvL (L.take i) * 2 ^ up))) ∧ Nt (w.heap.size + 2) wr v (dX (fo8 (fvL (L.take i) * 2 ^ up)))
  bel : Below w.heap.size w wr
theorem st3_but8 (g : Nat) (w : World) (x y z : Value) : But g w (st3 w g x y z) := (((But.refl g w).set _ _).set _ _).set _ _

set_option maxHeartbeats 4000000 in
theorem exact_any8 (lo : Nat) (v : Value) (L : List Nat) (up : Nat) (w : World) (hv : Fr lo w v L) (hT : Tab w) (hF : FinL L) (hl : L.length ≤ 100000) (m : Nat) (hm : m + up ≤ 50000) (hup : up ≤ 1000) (hb : avL L < 2 ^ m) :
    Calls Tryz.prog 69 #[v, .int .i64 (up : Nat)] w fun r w' => (∃ u, r = .returned (.agg #[.bool (dN (fo8 (fvL L * 2 ^ up))), u, .int .i64 (dE (fo8 (fvL L * 2 ^ up)))]) ∧ Nt w.heap.size w' u (dX (fo8 (fvL L * 2 ^ up)))) ∧ Below w.heap.size w w' := by
  obtain ⟨ao, n, cc, rfl, hn⟩ : ∃ ao n cc, v = .slice ao n cc ∧ n = L.length := by
    rcases hv.shape with ⟨rfl, rfl⟩ | ⟨g, cap, rfl, _⟩
    · exact ⟨none, 0, 0, rfl, rfl⟩
    · exact ⟨_, _, _, rfl, rfl⟩
  have HA := Aside.intro (And.intro hv (And.intro hT (And.intro hF (And.intro hb (And.intro hm hn)))))
  have hn5 : n ≤ 100000 := by omega
  obtain ⟨W0, hW0⟩ : ∃ W, W = (w.alloc (Obj.cells #[.bool false, .slice none 0 0, .int .i64 0] 33)).alloc (Obj.cells #[.bool false, .slice none 0 0, .int .i64 0] 33) := ⟨_, rfl⟩
  have H0 : Aside (Xi w L up 0 W0) := by
    subst hW0
    have z0 : fo8 (fvL (L.take 0) * 2 ^ up) = some (false, 0, 0) := by
      rw [show fvL (L.take 0) = 0 by simp [fvL], Int.zero_mul]; unfold fo8; exact mkS_zero _ _
    refine ⟨(Dk.new w _ _ _).alloc _, ⟨.slice none 0 0, ?_, ?_⟩, (below_alloc _ _).trans ((below_alloc _ _).mono (by simp))⟩
    · rw [z0]
      have := Dk.new (w.alloc (Obj.cells #[.bool false, .slice none 0 0, .int .i64 0] 33)) false (.slice none 0 0) 0
      rw [show (w.alloc (Obj.cells #[.bool false, .slice none 0 0, .int .i64 0] 33)).heap.size = w.heap.size + 1 by simp] at this
      exact this
    · rw [z0]; exact Nt.nil _ _
  clear hv hT hF hb hn hl
  go_enter Tryz.func69, Tryz.ntmps69
  go_wp2_with fail
  rw [← hW0]
  clear hW0
  go_loopg [12] n (fun gk iv wr => ∃ i : Nat, gk + i = n ∧ iv = .int .i64 (i : Nat) ∧ Aside (Xi w L up i wr))
  case atStart => exact ⟨0, by omega, rfl, H0⟩
  case round =>
    clear H0 W0
    obtain ⟨i, hgi, rfl, HW⟩ := hrel
    by_cases hi : i < n
    · have HI : Aside (i < L.length) := by have := HA.out.2.2.2.2.2; exact Aside.intro (by omega)
      rcases HA.out.1.shape with ⟨h1, h2⟩ | ⟨g, cap, h1, _, hgw, _, _, hcell⟩
      · exfalso
        have := HI.out
        rw [h2] at this
        simp at this
      · cases h1
        obtain ⟨y, hy⟩ : ∃ y, y = L.getD i 0 := ⟨_, rfl⟩
        have hc : wr.cell? ⟨g, i, none⟩ = some (.float .f64 y) := by
          rw [hy, ← hcell i HI.out]
          exact HW.out.bel.cell (p := ⟨g, i, none⟩) hgw
        have HO := hid (of_any8 y (by rw [hy]; exact HA.out.2.2.1.get i HI.out) wr (HA.out.2.1.belows HW.out.bel))
        obtain ⟨Z, hZ⟩ : ∃ Z, Z = fvL (L.take i) * 2 ^ up := ⟨_, rfl⟩
        have HE : Aside (fvL (L.take (i + 1)) * 2 ^ up = Z + fvW y * 2 ^ up) := by
          rw [fvL_take L i HI.out, Int.add_mul, hZ, hy]; exact Aside.intro rfl
        have HB : Aside (Z.natAbs < 2 ^ (m + up) ∧ (fvW y).natAbs < 2 ^ m ∧ (fvW y * 2 ^ up).natAbs < 2 ^ (m + up)) := by
          have h1 := avL_take L i
          have h2 := fv_av (L.take i)
          have h3 := avL_get L i HI.out
          have h4 := HA.out.2.2.2.1
          rw [← hy] at h3
          exact ⟨by rw [hZ]; exact pw_up (by omega), by omega, pw_up (by omega)⟩
        obtain ⟨q1, q2, q3, q4, q5⟩ := fo8_len (fvW y) m (by have := HA.out.2.2.2.2.1; omega) HB.out.2.1
        have HQ := Aside.intro q1
        obtain ⟨sv, S1, S2⟩ := HW.out.sum
        rw [← hZ] at S1 S2
        have HS := Aside.intro (And.intro S1 (And.intro S2 (And.intro HW.out.res HW.out.bel)))
        clear hy hcell S1 S2 hZ q1 q2 q3 HW
        obtain ⟨⟨dn, dx, de⟩, hd⟩ : ∃ d : Bool × Nat × Int, dN (fo8 (fvW y)) = d.1 ∧ dX (fo8 (fvW y)) = d.2.1 ∧ dE (fo8 (fvW y)) = d.2.2 := ⟨(_, _, _), rfl, rfl, rfl⟩
        simp only at hd
        have HU := Aside.intro (fo8_up (fvW y) up m (by have := HA.out.2.2.2.2.1; omega) HB.out.2.1)
        rw [hd.1, hd.2.1, hd.2.2] at HU
        rw [hd.1, hd.2.2, hd.2.1] at HO
        rw [hd.2.2] at q4 q5
        rw [hd.2.1] at HQ
        clear hd
        go_wp2_with fail
        with_reducible refine HO.out.mono ?_
        rintro r w1 ⟨⟨v1, rfl, hN1⟩, hb1⟩
        obtain ⟨a1, c1, rfl, _⟩ := hN1.arg (Nat.le_trans HQ.out (by decide))
        obtain ⟨U, hU⟩ : ∃ U, U = w1.alloc (Obj.cells #[.bool dn, .slice a1 (ws dx).length c1, .int .i64 (de + (up : Nat))] 33) := ⟨_, rfl⟩
        have HU2 : Aside (Below wr.heap.size wr U ∧ Dk U w1.heap.size dn (.slice a1 (ws dx).length c1) (de + (up : Nat)) ∧ Nt wr.heap.size U (.slice a1 (ws dx).length c1) dx ∧ wr.heap.size ≤ w1.heap.size) := by
          subst hU
          exact ⟨hb1.trans ((below_alloc _ _).mono hb1.size), Dk.new _ _ _ _, hN1.below (below_alloc _ _), hb1.size⟩
        go_upto_region 7 with fail
        rw [← hU]
        clear hU hN1 hb1 hc HO
        obtain ⟨T1, T2, T3, T4⟩ := HS.out
        have D1 := T1.below HU2.out.1
        have D3 := T3.below HU2.out.1
        obtain ⟨x0, x1, x2, xf0, xf1, xf2⟩ := HU2.out.2.1.facts
        obtain ⟨y0, y1, y2, yf0, yf1, yf2⟩ := D1.facts
        have N1 := T2.below HU2.out.1
        obtain ⟨a0, c0, rfl, A0⟩ := N1.arg (Nat.le_trans (fo8_len Z (m + up) (by have := HA.out.2.2.2.2.1; omega) HB.out.1).1 (by decide))
        obtain ⟨_, A1⟩ := HU2.out.2.2.1.arg' (Nat.le_trans HQ.out (by decide))
        have HAdd := hid (add_any8 Z (fvW y * 2 ^ up) (m + up) (by have := HA.out.2.2.2.2.1; omega) HB.out.1 HB.out.2.2 (de + (up : Nat)) (by omega) (by omega) dn dx HU.out U a0 a1 c0 c1 ((HA.out.2.1.belows T4).belows HU2.out.1) A0 A1)
        have hlt := D1.lt
        have HD := Aside.intro (And.intro D1 (And.intro D3 (T4.trans (HU2.out.1.mono T4.size))))
        rw [← HE.out] at HAdd
        clear T1 T2 T3 T4 D1 D3 N1 A0 A1
        go_wp2_with fail
        with_reducible refine HAdd.out.mono ?_
        rintro r w2 ⟨⟨v2, rfl, hN2⟩, hb2⟩
        obtain ⟨a2, c2, rfl, _⟩ := hN2.arg (Nat.le_trans (fo8_len (fvL (L.take (i + 1)) * 2 ^ up) (m + up + 1) (by have := HA.out.2.2.2.2.1; omega) (by
          rw [HE.out, Nat.pow_succ]; have := HB.out.1; have := HB.out.2.2; omega)).1 (by decide))
        have D2 := HD.out.1.below hb2
        obtain ⟨z0, z1, z2, zf0, zf1, zf2⟩ := D2.facts
        have hlt2 := D2.lt
        obtain ⟨nn, hnn⟩ : ∃ b, b = dN (fo8 (fvL (L.take (i + 1)) * 2 ^ up)) := ⟨_, rfl⟩
        obtain ⟨ee, hee⟩ : ∃ b, b = dE (fo8 (fvL (L.take (i + 1)) * 2 ^ up)) := ⟨_, rfl⟩
        obtain ⟨xx, hxx⟩ : ∃ b, b = dX (fo8 (fvL (L.take (i + 1)) * 2 ^ up)) := ⟨_, rfl⟩
        rw [← hnn, ← hee]
        rw [← hxx] at hN2 ⊢
        have HX : Aside (Xi w L up (i + 1) (st3 w2 (w.heap.size + 1) (.bool nn) (.slice a2 (ws xx).length c2) (.int .i64 ee))) := by
          have hbt := st3_but8 (w.heap.size + 1) w2 (.bool nn) (.slice a2 (ws xx).length c2) (.int .i64 ee)
          have hsz : w.heap.size + 1 < U.heap.size := hlt
          refine ⟨((HD.out.2.1.below hb2)).but hbt (by omega), ⟨.slice a2 (ws xx).length c2, ?_, ?_⟩, ?_⟩
          · rw [← hnn, ← hee]; exact D2.set _ _ _
          · rw [← hxx]; exact (hN2.mono (by omega)).but8 hbt (by omega)
          · exact But.below (HD.out.2.2.trans (hb2.mono HD.out.2.2.size)) hbt (by have := HD.out.2.2.size; have := hb2.size; omega) (by omega)
        unfold st3 at HX
        clear hnn hee hxx hN2 hb2 D2 HAdd HD HE HB HU HU2 HS
        go_wp2
        go_roundg (gk - 1)
        case measure => omega
        case rel => exact ⟨i + 1, by omega, by simp, HX⟩
    · obtain rfl : n = i := by omega
      obtain rfl : gk = 0 := by omega
      obtain ⟨sv, S1, S2⟩ := HW.out.sum
      rw [show L.take n = L by rw [HA.out.2.2.2.2.2, List.take_length]] at S1 S2
      have hs := HW.out.bel.size
      obtain ⟨a0, c0, rfl, _⟩ := S2.arg (Nat.le_trans (fo8_len (fvL L * 2 ^ up) (m + up) (by have := HA.out.2.2.2.2.1; omega) (pw_up (by have := fv_av L; have := HA.out.2.2.2.1; omega))).1 (by decide))
      obtain ⟨y0, y1, y2, yf0, yf1, yf2⟩ := S1.facts
      obtain ⟨z0, z1, z2, zf0, zf1, zf2⟩ := HW.out.res.facts
      have HD := Aside.intro (And.intro HW.out.res (And.intro S2 HW.out.bel))
      have hl1 := S1.lt
      obtain ⟨nn, hnn⟩ : ∃ b, b = dN (fo8 (fvL L * 2 ^ up)) := ⟨_, rfl⟩
      obtain ⟨ee, hee⟩ : ∃ b, b = dE (fo8 (fvL L * 2 ^ up)) := ⟨_, rfl⟩
      obtain ⟨xx, hxx⟩ : ∃ b, b = dX (fo8 (fvL L * 2 ^ up)) := ⟨_, rfl⟩
      rw [← hnn] at y0
      rw [← hee] at y2
      rw [← hxx] at y1 HD
      have HN := Aside.intro (And.intro hnn (And.intro hee hxx))
      clear S1 S2 HW hnn hee hxx
      go_wp2
      obtain ⟨R1, R2, R3⟩ := HD.out
      have hbt := st3_but8 w.heap.size wr (.bool nn) (.slice a0 (ws xx).length c0) (.int .i64 ee)
      refine close8 Tryz.results69 (g := w.heap.size) (n := nn) (v := .slice a0 (ws xx).length c0) (e := ee) rfl (R1.set _ _ _) ?_
      rw [← HN.out.1, ← HN.out.2.1, ← HN.out.2.2]
      exact ⟨⟨_, rfl, (R2.but8 hbt (by omega)).mono (by omega)⟩, But.below R3 hbt hs (Nat.le_refl _)⟩
end Go.Proofs.YtnnlicahgdcbdaaGreatDoor

/- A Spread in memory; New, Add. -/
namespace Go.Proofs.YtnnlicahgdcbdaaGreatDoor
open Go.RowKit
set_option linter.unusedVariables false
set_option maxRecDepth 20000
set_option linter.unusedSimpArgs false

/-- A Spread's block. -/
def Sk (w : World) (g : Nat) (n : Nat) (va vb : Value) : Prop := w.heap[g]? = some (.cells #[.int .i64 (n : Nat), va, vb] 107 (0, 0))
theorem Sk.lt {w : World} {g n : Nat} {va vb : Value} (h : Sk w g n va vb) : g < w.heap.size := (Array.getElem?_eq_some_iff.1 h).1
theorem Sk.of_block {w w' : World} {g n : Nat} {va vb : Value} (h : Sk w g n va vb) (hb : w'.heap[g]? = w.heap[g]?) : Sk w' g n va vb := by unfold Sk at h ⊢; rw [hb]; exact h
theorem Sk.facts {w : World} {g n : Nat} {va vb : Value} (h : Sk w g n va vb) :
    w.cell? ⟨g, 0, none⟩ = some (.int .i64 (n : Nat)) ∧ w.cell? ⟨g, 1, none⟩ = some va ∧ w.cell? ⟨g, 2, none⟩ = some vb ∧ w.frozen? ⟨g, 0, none⟩ = false ∧ w.frozen? ⟨g, 1, none⟩ = false ∧ w.frozen? ⟨g, 2, none⟩ = false := by
  unfold Sk at h
  refine ⟨?_, ?_, ?_, ?_, ?_, ?_⟩ <;> simp [World.cell?, World.frozen?, h]
theorem Sk.set0 {w : World} {g n : Nat} {va vb : Value} (h : Sk w g n va vb) (m : Nat) : Sk (w.setCell ⟨g, 0, none⟩ (.int .i64 (m : Nat))) g m va vb := by
  unfold Sk at h ⊢
  simp [World.setCell, Array.getElem?_modify, h]
theorem Sk.set1 {w : World} {g n : Nat} {va vb : Value} (h : Sk w g n va vb) (v : Value) : Sk (w.setCell ⟨g, 1, none⟩ v) g n v vb := by
  unfold Sk at h ⊢
  simp [World.setCell, Array.getElem?_modify, h]
theorem Sk.set2 {w : World} {g n : Nat} {va vb : Value} (h : Sk w g n va vb) (v : Value) : Sk (w.setCell ⟨g, 2, none⟩ v) g n va v := by
  unfold Sk at h ⊢
  simp [World.setCell, Array.getElem?_modify, h]
/-- Blocks of numbers are no Spreads. -/
theorem Sk.not_row {w : World} {g n : Nat} {va vb : Value} (h : Sk w g n va vb) {lo : Nat} {v : Value} {L : List Nat} (k : Fr lo w v L) : v.ownBlock ≠ some g := by
  intro e
  rcases k.2 with ⟨rfl, hn⟩ | ⟨g', cap, cur, rfl, hlo, hgc, rest⟩
  · simp [Value.ownBlock] at e
  · simp [Value.ownBlock] at e
    subst e
    unfold Sk at h
    rw [h] at hgc
    cases hgc
/-- Only blocks of F were written. -/
structure Tch (F : Nat → Prop) (w w' : World) : Prop where
  os : w'.os = w.os
  tape : w'.tape = w.tape
  output : w'.output = w.output
  size : w.heap.size ≤ w'.heap.size
  block : ∀ k, k < w.heap.size → ¬ F k → w'.heap[k]? = w.heap[k]?
theorem Tch.refl (F : Nat → Prop) (w : World) : Tch F w w := ⟨rfl, rfl, rfl, Nat.le_refl _, fun _ _ _ => rfl⟩
/-- F, and what is new. -/
def Gr (F : Nat → Prop) (w w' : World) : Nat → Prop := fun k => F k ∨ (w.heap.size ≤ k ∧ k < w'.heap.size)
theorem Tch.trans {F : Nat → Prop} {a b c : World} (h : Tch F a b) (k : Tch (Gr F a b) b c) : Tch F a c :=
  ⟨k.os.trans h.os, k.tape.trans h.tape, k.output.trans h.output, Nat.le_trans h.size k.size, fun j hj hn =>
    (k.block j (Nat.lt_of_lt_of_le hj h.size) (fun q => by rcases q with q | q; exact hn q; omega)).trans (h.block j hj hn)⟩
theorem Tch.trans' {F : Nat → Prop} {a b c : World} (h : Tch F a b) (k : Tch F b c) : Tch F a c :=
  ⟨k.os.trans h.os, k.tape.trans h.tape, k.output.trans h.output, Nat.le_trans h.size k.size, fun j hj hn =>
    (k.block j (Nat.lt_of_lt_of_le hj h.size) hn).trans (h.block j hj hn)⟩
theorem Tch.below {F : Nat → Prop} {B : Nat} {a w w' : World} (h : Below B a w) (k : Tch F w w') (hF : ∀ j, F j → B ≤ j) (hB : B ≤ w.heap.size) : Below B a w' :=
  ⟨k.os.trans h.os, k.tape.trans h.tape, k.output.trans h.output, Nat.le_trans h.size k.size, fun j hj =>
    (k.block j (Nat.lt_of_lt_of_le hj hB) (fun q => by have := hF j q; omega)).trans (h.block j hj)⟩
theorem Tch.of_below {F : Nat → Prop} {w w' : World} (h : Below w.heap.size w w') : Tch F w w' := ⟨h.os, h.tape, h.output, h.size, fun j hj _ => h.block j hj⟩
theorem Tch.grown {F : Nat → Prop} {w w' : World} {row : Option Nat} (h : w.grownBy w' row) (hF : ∀ k, row = some k → F k) : Tch F w w' :=
  ⟨h.os, h.tape, h.output, h.size, fun j hj hn => h.block j hj (fun e => hn (hF j e.symm))⟩
theorem Tch.set {F : Nat → Prop} {w w' : World} (h : Tch F w w') (g i : Nat) (u : Value) (hF : F g) : Tch F w (w'.setCell ⟨g, i, none⟩ u) :=
  ⟨h.os, h.tape, h.output, by simpa [World.setCell] using h.size, fun j hj hn => by
    rw [← h.block j hj hn]
    exact Below.heap_setCell _ _ _ _ (fun e => hn (by rw [e]; exact hF))⟩

/-- A Spread: n numbers, whose sum is V (in units of 2^-1074); all its memory is F's; c bounds how its rows grew. -/
def Sx (F : Nat → Prop) (w : World) (g n : Nat) (V : Int) (c : Nat) : Prop :=
  ∃ (va vb : Value) (A B : List Nat) (V1 V2 : Int), Sk w g n va vb ∧ Fr 0 w va A ∧ Fr 0 w vb B ∧ (∀ k, va.ownBlock = some k → vb.ownBlock ≠ some k) ∧ F g ∧ (∀ k, va.ownBlock = some k → F k) ∧ (∀ k, vb.ownBlock = some k → F k) ∧
    (∀ k, F k → k < w.heap.size) ∧ Rk A V1 n c ∧ Rk B V2 n c ∧ V = V1 + V2 * 18446744073709551616 ∧ n ≤ 65536 ∧ n * 17179869184 + c ≤ 4503599627370496
theorem Rk.mono {L : List Nat} {V : Int} {n c n' c' : Nat} (h : Rk L V n c) (hn : n ≤ n') (hc : c ≤ c') : Rk L V n' c' :=
  ⟨h.fin, h.val, Nat.le_trans h.len hn, Nat.le_trans h.size (Nat.mul_le_mul_right _ (by omega))⟩
theorem Sx.keep {F G : Nat → Prop} {w w' : World} {g n : Nat} {V : Int} {c : Nat} (h : Sx F w g n V c) (t : Tch G w w') (hd : ∀ k, F k → ¬ G k) : Sx F w' g n V c := by
  obtain ⟨va, vb, A, B, V1, V2, h1, h2, h3, h4, h5, h6, h7, h8, rest⟩ := h
  have fr : ∀ (v : Value) (L : List Nat), Fr 0 w v L → (∀ k, v.ownBlock = some k → F k) → Fr 0 w' v L := by
    intro v L hv hk
    refine ⟨hv.1, ?_⟩
    rcases hv.2 with hn | ⟨g', cap, cur, rfl, hlo, hgc, rest⟩
    · exact .inl hn
    · refine .inr ⟨g', cap, cur, rfl, hlo, ?_, rest⟩
      rw [t.block g' (Array.getElem?_eq_some_iff.1 hgc).1 (hd _ (hk g' rfl))]; exact hgc
  exact ⟨va, vb, A, B, V1, V2, h1.of_block (t.block g h1.lt (hd _ h5)), fr va A h2 h6, fr vb B h3 h7, h4, h5, h6, h7, fun k hk => Nat.lt_of_lt_of_le (h8 k hk) t.size, rest⟩
theorem Sx.below {F : Nat → Prop} {w w' : World} {g n : Nat} {V : Int} {c : Nat} (h : Sx F w g n V c) (hb : Below w.heap.size w w') : Sx F w' g n V c :=
  h.keep (G := fun _ => False) (Tch.of_below hb) (fun _ _ q => q)
theorem Sx.wide {F G : Nat → Prop} {w : World} {g n : Nat} {V : Int} {c : Nat} (h : Sx F w g n V c) (hs : ∀ k, F k → G k) (hG : ∀ k, G k → k < w.heap.size) : Sx G w g n V c := by
  obtain ⟨va, vb, A, B, V1, V2, h1, h2, h3, h4, h5, h6, h7, h8, rest⟩ := h
  exact ⟨va, vb, A, B, V1, V2, h1, h2, h3, h4, hs _ h5, fun k hk => hs _ (h6 k hk), fun k hk => hs _ (h7 k hk), hG, rest⟩
theorem Sx.more {F : Nat → Prop} {w : World} {g n : Nat} {V : Int} {c c' : Nat} (h : Sx F w g n V c) (hc : c ≤ c') (hb : n * 17179869184 + c' ≤ 4503599627370496) : Sx F w g n V c' := by
  obtain ⟨va, vb, A, B, V1, V2, h1, h2, h3, h4, h5, h6, h7, h8, r1, r2, r3, r4, r5⟩ := h
  exact ⟨va, vb, A, B, V1, V2, h1, h2, h3, h4, h5, h6, h7, h8, r1.mono (Nat.le_refl _) hc, r2.mono (Nat.le_refl _) hc, r3, r4, hb⟩

set_option maxHeartbeats 1000000 in
theorem new8 (w : World) : Calls Tryz.prog 14 #[] w fun r w' => r = .returned (.pointer (some ⟨w.heap.size, 0, none⟩)) ∧ Sx (fun k => w.heap.size ≤ k ∧ k < w'.heap.size) w' w.heap.size 0 0 0 ∧ Below w.heap.size w w' ∧ w'.heap.size = w.heap.size + 1 := by
  go_enter Tryz.func14, Tryz.ntmps14
  go_wp2
  go_ret
  refine ⟨rfl, ⟨.slice none 0 0, .slice none 0 0, [], [], 0, 0, heap_alloc_new _ _, Fr.nil _ _, Fr.nil _ _, fun k hk => by simp [Value.ownBlock] at hk, ⟨Nat.le_refl _, by simp⟩, fun k hk => by simp [Value.ownBlock] at hk, fun k hk => by simp [Value.ownBlock] at hk, fun k hk => hk.2, Rk.nil, Rk.nil, by simp, by omega, by omega⟩, below_alloc _ _, by simp⟩

/-- Numbers far from nought, made smaller. -/
theorem abs_w8 (x : Nat) (hx : Wd x) (w : World) : Calls Tryz.prog 109 #[.float .f64 x] w fun r w' => r = .returned (.float .f64 (magW x)) ∧ w' = w := by
  obtain ⟨s, e, f, he, hf, h1, h2⟩ := bwz x hx
  have := B.abs_any s e f he hf w
  rw [← h1] at this
  have e2 : B.bw false e f = magW x := by
    rw [h1]
    unfold B.bw magW
    cases s <;> simp <;> omega
  rw [e2] at this
  exact this
set_option maxHeartbeats 1000000 in
theorem isInf_w8 (x : Nat) (hx : Wd x) (w : World) : Calls Tryz.prog 72 #[.float .f64 x, .int .i64 0] w fun r w' => r = .returned (.bool (magW x == 9218868437227405312)) ∧ w' = w := by
  have H := hid (abs_w8 x hx w)
  obtain ⟨s, e, f, he, hf, h1, h2⟩ := bwz x hx
  have e2 : B.bw false e f = magW x := by
    rw [h1]
    unfold B.bw magW
    cases s <;> simp <;> omega
  have h3 := B.gt_max false e f he hf
  rw [e2] at h3
  have h4 : (!false && (e == 2047 && f == 0)) = (magW x == 9218868437227405312) := by
    rw [← e2]
    unfold B.bw
    rw [Bool.eq_iff_iff]
    simp
    omega
  rw [h4] at h3
  clear h1 h2 e2 h4
  generalize (magW x == 9218868437227405312) = b at *
  generalize magW x = y at *
  go_enter Tryz.func72, Tryz.ntmps72
  go_wp2_with fail
  refine (Calls.mono H.out) ?_
  rintro r w1 ⟨rfl, rfl⟩
  go_wp2
  go_ret
  exact ⟨rfl, rfl⟩
end Go.Proofs.YtnnlicahgdcbdaaGreatDoor

