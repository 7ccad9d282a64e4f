/- What the model's sums and products are, by words; what the document's forms are rounded to: the same word. -/
import Derived.Test.YtnnlicahgdcbdaaDoorD33x
import Derived.Test.YtnnlicahgdcbdaaDoorD21x
import Derived.Test.YtnnlicahgdcbdaaDoorD14x
import Derived.BigQuiet
import Derived.Deep.Cut
import Derived.Test.YtnnlicahgdcbdaaDoorJ3x
import Derived.Test.YtnnlicahgdcbdaaDoorW45x
import Derived.Test.YtnnlicahgdcbdaaDoorBIeeex
import Derived.Deep.RegionHeld3
import Derived.Deep.CutRange
import Derived.KernelRfl
import Derived.ArgAppend
import Derived.Maps.AppendAt
import Derived.WalkMore
import Derived.OwnWalk
namespace Go.Proofs.YtnnlicahgdcbdaaDoor
open Go.RowKit J
set_option linter.unusedVariables false
set_option maxRecDepth 20000

theorem wd_word (s : Bool) (K : Nat) : wd64 s K = Ieee.double.word s K := by
  unfold wd64
  have e : Ieee.double.word s K = (if s then 9223372036854775808 + K else K) := rfl
  rw [e]
  cases s <;> simp; omega
theorem hInf : Ieee.double.infRung < Ieee.double.signWeight := by rw [B.dInf, B.dSign]; omega
theorem hBin : Ieee.double.binade ≤ Ieee.double.infRung := by rw [B.dInf, B.dBin]; omega
theorem wd_of (x : Nat) (h : x < 18446744073709551616) : x = wd64 (negW x) (magW x) := by
  unfold wd64 negW magW
  by_cases hx : 9223372036854775808 ≤ x
  · rw [decide_eq_true hx, if_pos rfl]; omega
  · rw [decide_eq_false hx, if_neg (by simp)]; omega
theorem magW_wd (s : Bool) (K : Nat) (h : K < 9223372036854775808) : magW (wd64 s K) = K ∧ negW (wd64 s K) = s ∧ wd64 s K < 18446744073709551616 := by
  unfold magW negW wd64
  cases s <;> simp <;> omega

/-- The model's sum of two finite numbers. -/
theorem add_wd (s t : Bool) (K L : Nat) (hK : K < 9218868437227405312) (hL : L < 9218868437227405312) :
    ∃ R, NE R (B.sg s (vK K) + B.sg t (vK L)).natAbs 1 ∧ Ieee.double.add (wd64 s K) (wd64 t L) = some (wd64 (if B.sg s (vK K) + B.sg t (vK L) = 0 then s && t else decide (B.sg s (vK K) + B.sg t (vK L) < 0)) (min R 9218868437227405312)) := by
  obtain ⟨m, j, e1, v1⟩ := B.read_word Ieee.double s K (by rw [B.dInf]; exact hK) hInf
  obtain ⟨n, k, e2, v2⟩ := B.read_word Ieee.double t L (by rw [B.dInf]; exact hL) hInf
  obtain ⟨mag, c, es, ev⟩ := B.sum_num s t m n j k Ieee.double.leastPlace
  rw [v1, v2] at es ev
  rw [wd_word, wd_word]
  unfold Ieee.Format.add
  rw [e1, e2, es]
  show ∃ R, NE R (B.sg s (vK K) + B.sg t (vK L)).natAbs 1 ∧ some (Ieee.double.nearest _ mag _) = _
  generalize hT : B.sg s (vK K) + B.sg t (vK L) = T at *
  by_cases hm : mag = 0
  · subst hm
    have hT0 : T = 0 := by rw [Nat.zero_mul] at ev; omega
    refine ⟨0, NEf.own (by decide) (by rw [hT0, B.val_zero]; rfl), ?_⟩
    unfold Ieee.Format.nearest
    rw [if_pos rfl, if_pos hT0, wd_word, Nat.zero_min]
  · obtain ⟨R, h1, h2⟩ := nearest_ne (if T = 0 then s && t else decide (T < 0)) mag c 0 hm
    refine ⟨R, by rw [ev, Nat.pow_zero] at h2; exact h2, ?_⟩
    rw [show Ieee.double.leastPlace + (c : Int) - ((0 : Nat) : Int) = Ieee.double.leastPlace + (c : Int) by omega] at h1
    rw [h1, wd_word, B.dInf]

theorem leastP : Ieee.double.leastPlace = -1074 := by decide
/-- The model's product of two finite numbers. -/
theorem mul_wd (a : Nat) (ha : a = 1074) (s t : Bool) (K L : Nat) (hK : K < 9218868437227405312) (hL : L < 9218868437227405312) :
    ∃ R, NE R (vK K * vK L) (2 ^ a) ∧ Ieee.double.mul (wd64 s K) (wd64 t L) = some (wd64 (s != t) (min R 9218868437227405312)) := by
  obtain ⟨m, j, e1, v1⟩ := B.read_word Ieee.double s K (by rw [B.dInf]; exact hK) hInf
  obtain ⟨n, k, e2, v2⟩ := B.read_word Ieee.double t L (by rw [B.dInf]; exact hL) hInf
  have hp : vK K * vK L = m * n * 2 ^ (j + k) := by
    show B.val Ieee.double K * B.val Ieee.double L = _
    rw [← v1, ← v2, Nat.pow_add, Nat.mul_mul_mul_comm]
  rw [wd_word, wd_word]
  unfold Ieee.Format.mul
  rw [e1, e2]
  show ∃ R, _ ∧ some (Ieee.double.nearest (s ^^ t) (m * n) (Ieee.double.leastPlace + (j : Int) + (Ieee.double.leastPlace + (k : Int)))) = _
  have hx : (s ^^ t) = (s != t) := by cases s <;> cases t <;> rfl
  rw [hx]
  by_cases hm : m * n = 0
  · refine ⟨0, NEf.own (Nat.two_pow_pos _) (by rw [hp, hm, B.val_zero, Nat.zero_mul, Nat.zero_mul]), ?_⟩
    unfold Ieee.Format.nearest
    rw [if_pos hm, wd_word, Nat.zero_min]
  · obtain ⟨R, h1, h2⟩ := nearest_ne (s != t) (m * n) (j + k) a hm
    refine ⟨R, by rw [hp]; exact h2, ?_⟩
    rw [show Ieee.double.leastPlace + (j : Int) + (Ieee.double.leastPlace + (k : Int)) = Ieee.double.leastPlace + ((j + k : Nat) : Int) - (a : Int) by rw [leastP, ha]; omega, h1, wd_word, B.dInf]

/-- What the document's search finds is the nearest, between two the even one. -/
theorem rK_ne {K R : Nat} {t n : Bool} {m : Int} {V S : Nat} (h : Lies K t m V S) (hR : NE R V S) : rK 0 n K t m = min R 9218868437227405312 := by
  have hf := h.fin
  have hS := h.pos
  cases t with
  | true =>
    have : NE K V S := NEf.own hS (h.one rfl)
    rw [hR.one this hS]
    unfold rK
    rw [if_pos rfl, Nat.min_eq_left (by omega)]
  | false =>
    have hlow : B.val Ieee.double K * S < V := h.low rfl
    have hmids : V < B.val Ieee.double (K + 1) * S → (m = -1 ∧ 2 * V < B.val Ieee.double K * S + B.val Ieee.double (K + 1) * S ∨ m = 0 ∧ 2 * V = B.val Ieee.double K * S + B.val Ieee.double (K + 1) * S ∨ m = 1 ∧ B.val Ieee.double K * S + B.val Ieee.double (K + 1) * S < 2 * V) := h.mids rfl
    have hhigh : V < B.val Ieee.double (K + 1) * S ∨ (K = 9218868437227405311 ∧ m = 1) := h.high rfl
    unfold rK
    rw [if_neg (by simp)]
    by_cases hh : V < B.val Ieee.double (K + 1) * S
    · have e : (B.val Ieee.double K + B.val Ieee.double (K + 1)) * S = B.val Ieee.double K * S + B.val Ieee.double (K + 1) * S := Nat.add_mul _ _ _
      have s2 : B.val Ieee.double (K + 1) * S < B.val Ieee.double (K + 2) * S := Nat.mul_lt_mul_of_pos_right (B.val_lt_succ Ieee.double (K + 1)) hS
      have eU : (B.val Ieee.double (K + 1) + B.val Ieee.double (K + 2)) * S = B.val Ieee.double (K + 1) * S + B.val Ieee.double (K + 2) * S := Nat.add_mul _ _ _
      have stay : (2 * V < B.val Ieee.double K * S + B.val Ieee.double (K + 1) * S ∨ 2 * V = B.val Ieee.double K * S + B.val Ieee.double (K + 1) * S ∧ K % 2 = 0) → NE K V S := by
        intro hc
        refine ⟨by rw [e]; omega, fun h1 => by rw [e] at h1; omega, fun h0 => ?_, fun h0 h1 => ?_⟩
        · have := Nat.mul_lt_mul_of_pos_right (B.val_lt Ieee.double (show K - 1 < K by omega)) hS
          rw [Nat.add_mul]; omega
        · have := Nat.mul_lt_mul_of_pos_right (B.val_lt Ieee.double (show K - 1 < K by omega)) hS
          rw [Nat.add_mul] at h1; omega
      have go : (B.val Ieee.double K * S + B.val Ieee.double (K + 1) * S < 2 * V ∨ 2 * V = B.val Ieee.double K * S + B.val Ieee.double (K + 1) * S ∧ K % 2 = 1) → NE (K + 1) V S := by
        intro hc
        refine ⟨by rw [eU]; omega, fun h1 => by rw [eU] at h1; omega, fun h0 => ?_, fun h0 h1 => ?_⟩
        · rw [show K + 1 - 1 = K from rfl, e]; omega
        · rw [show K + 1 - 1 = K from rfl, e] at h1; omega
      rcases hmids hh with ⟨h1, h2⟩ | ⟨h1, h2⟩ | ⟨h1, h2⟩
      · have ho : outS 0 K m n = false := by unfold outS; subst h1; simp
        rw [ho, if_neg (by simp), hR.one (stay (.inl h2)) hS, Nat.min_eq_left (by omega)]
      · by_cases hp : K % 2 = 1
        · have ho : outS 0 K m n = true := by unfold outS; subst h1; simp [hp]
          rw [ho, if_pos rfl, hR.one (go (.inr ⟨h2, hp⟩)) hS, Nat.min_eq_left (by omega)]
        · have ho : outS 0 K m n = false := by unfold outS; subst h1; simp [hp]
          rw [ho, if_neg (by simp), hR.one (stay (.inr ⟨h2, by omega⟩)) hS, Nat.min_eq_left (by omega)]
      · have ho : outS 0 K m n = true := by unfold outS; subst h1; simp
        rw [ho, if_pos rfl, hR.one (go (.inl h2)) hS, Nat.min_eq_left (by omega)]
    · obtain ⟨h1, h2⟩ : K = 9218868437227405311 ∧ m = 1 := by
        rcases hhigh with q | q
        · exact absurd q hh
        · exact q
      have ho : outS 0 K m n = true := by unfold outS; subst h2; simp
      rw [ho, if_pos rfl]
      have hRi : 9218868437227405312 ≤ R := by
        apply Nat.le_of_not_lt; intro hlt
        have u := hR.up
        have m1 : B.val Ieee.double R * S < B.val Ieee.double (R + 1) * S := Nat.mul_lt_mul_of_pos_right (B.val_lt_succ Ieee.double R) hS
        have m2 : B.val Ieee.double (R + 1) * S ≤ B.val Ieee.double (K + 1) * S := Nat.mul_le_mul_right S (vmono (by omega))
        rw [Nat.add_mul] at u
        omega
      rw [Nat.min_eq_right hRi]; omega

/-- A form's rounding, by its value. -/
theorem rW_ne {n : Bool} {X : Nat} {e : Int} (F : Frm n X e) (hX : X ≠ 0) (Bs : Int) (hB : Bs ≤ -1048576) {V U S R : Nat} (h1 : X * 2 ^ (e - Bs).toNat = V * S) (h2 : 2 ^ (-1074 - Bs).toNat = U * S) (hR : NE R V U) : rW 0 n X e = min R 9218868437227405312 := by
  have ho := frm_odd F hX
  have L := lies X e ho F.down F.up Bs (by have := F.down; omega) (by omega)
  have hS : 0 < S := by
    rcases Nat.eq_zero_or_pos S with h | h
    · rw [h, Nat.mul_zero] at h2; have := Nat.two_pow_pos (-1074 - Bs).toNat; omega
    · exact h
  unfold rW
  rw [if_neg hX, rndK_eq]
  rw [h1, h2] at L
  exact rK_ne L (hR.scale S hS)
end Go.Proofs.YtnnlicahgdcbdaaDoor

/- Forms by their values in units of 2^-2148; sums, products, roundings of forms of numbers. -/
namespace Go.Proofs.YtnnlicahgdcbdaaDoor
open Go.RowKit J
set_option linter.unusedVariables false
set_option maxRecDepth 20000

theorem exU (a : Nat) : ∃ u : Nat, u = 2 ^ a := ⟨_, rfl⟩
def EU : Nat := 1074
def ES : Nat := 2095004
def EH : Nat := 1047502
/-- 2^1074, 2^2095004: never reckoned. -/
noncomputable def UU : Nat := Classical.choose (exU EU)
noncomputable def SS : Nat := Classical.choose (exU ES)
theorem U_eq : UU = 2 ^ EU := Classical.choose_spec (exU EU)
theorem S_eq : SS = 2 ^ ES := Classical.choose_spec (exU ES)
theorem U_pos : 0 < UU := by rw [U_eq]; exact Nat.two_pow_pos _
theorem S_pos : 0 < SS := by rw [S_eq]; exact Nat.two_pow_pos _
theorem EUS : EU + ES = 2096078 := by unfold EU ES; rfl
theorem EHH : EH + EH = ES := by unfold EH ES; rfl
theorem US (a : Nat) (h : a = 2096078) : 2 ^ a = UU * SS := by
  rw [U_eq, S_eq, ← Nat.pow_add, EUS, h]
theorem mkSz (n : Bool) (e : Int) : mkS n 0 e = some (false, 0, 0) := by unfold mkS; rw [if_pos rfl]

/-- A form, what it stands for (in units of 2^-2148), where its bits lie. -/
structure Fo (o : Option (Bool × Nat × Int)) (z : Int) (L H : Int) : Prop where
  ex : ∃ n X e, o = some (n, X, e) ∧ Frm n X e ∧ zv (-2097152) (n, X, e) = z * (SS : Int) ∧ (X = 0 ∨ L ≤ e ∧ e + (bl X : Int) ≤ H)

theorem Fo.frm {n : Bool} {X : Nat} {e z L H : Int} (h : Fo (some (n, X, e)) z L H) : Frm n X e ∧ zv (-2097152) (n, X, e) = z * (SS : Int) ∧ (X = 0 ∨ L ≤ e ∧ e + (bl X : Int) ≤ H) := by
  obtain ⟨n', X', e', h1, h2, h3, h4⟩ := h.ex
  cases h1
  exact ⟨h2, h3, h4⟩
theorem mkS_sz (n : Bool) (Z : Nat) (f L H : Int) (hZ : Z ≠ 0) (h1 : L ≤ f) (h2 : f + (bl Z : Int) ≤ H) (hL : -1000000 ≤ L) (hH : H ≤ 1000000) (hd : H - L ≤ 262144) :
    ∃ X e, mkS n Z f = some (n, X, e) ∧ X ≠ 0 ∧ L ≤ e ∧ e + (bl X : Int) ≤ H := by
  obtain ⟨m, e0, e1, e2⟩ := odd_part Z hZ
  unfold mkS
  rw [if_neg hZ, if_neg (by omega)]
  exact ⟨_, _, rfl, by omega, by omega, by omega⟩

theorem blLe {X m : Nat} (h : X < 2 ^ m) : bl X ≤ m := by
  apply Nat.le_of_not_lt; intro hh
  have := (bl_gt X m).1 hh
  omega
theorem lt_bl (X : Nat) : X < 2 ^ bl X := bl_lt X

theorem addUp_sz (n : Bool) (X : Nat) (e : Int) (m : Bool) (Y : Nat) (f L H : Int) (hX : X ≠ 0) (hY : Y ≠ 0) (hfe : f ≤ e) (h1 : L ≤ f) (h2 : e + (bl X : Int) ≤ H) (h3 : f + (bl Y : Int) ≤ H) (hL : -1000000 ≤ L) (hH : H ≤ 999999) (hd : H - L ≤ 262143) :
    ∃ n' Z g, addUp n X e m Y f = some (n', Z, g) ∧ (Z = 0 ∨ L ≤ g ∧ g + (bl Z : Int) ≤ H + 1) := by
  obtain ⟨d, hdd⟩ : ∃ d : Nat, (e - f).toNat = d := ⟨_, rfl⟩
  have hb : X * 2 ^ d < 2 ^ (bl X + d) := by rw [Nat.pow_add]; exact Nat.mul_lt_mul_of_pos_right (lt_bl X) (Nat.two_pow_pos _)
  obtain ⟨q, hq⟩ : ∃ q : Nat, max (bl X + d) (bl Y) = q := ⟨_, rfl⟩
  have q1 : X * 2 ^ d < 2 ^ q := Nat.lt_of_lt_of_le hb (Nat.pow_le_pow_right (by decide) (by omega))
  have q2 : Y < 2 ^ q := Nat.lt_of_lt_of_le (lt_bl Y) (Nat.pow_le_pow_right (by decide) (by omega))
  have q3 : 2 ^ (q + 1) = 2 ^ q + 2 ^ q := by rw [Nat.pow_succ]; omega
  have hq4 : f + (q : Int) ≤ H := by omega
  have out : ∀ (n'' : Bool) (Z : Nat), Z < 2 ^ (q + 1) → ∃ n' Z' g, mkS n'' Z f = some (n', Z', g) ∧ (Z' = 0 ∨ L ≤ g ∧ g + (bl Z' : Int) ≤ H + 1) := by
    intro n'' Z hZ
    by_cases h0 : Z = 0
    · subst h0; rw [mkSz]; exact ⟨_, _, _, rfl, .inl rfl⟩
    · have := blLe hZ
      obtain ⟨X', e', k1, k2, k3, k4⟩ := mkS_sz n'' Z f L (H + 1) h0 h1 (by omega) hL (by omega) (by omega)
      exact ⟨_, _, _, k1, .inr ⟨k3, k4⟩⟩
  unfold addUp
  rw [hdd, if_neg (by omega)]
  split
  · exact out _ _ (by omega)
  · split
    · exact out _ _ (by omega)
    · exact out _ _ (by omega)
theorem addD_sz {o p : Option (Bool × Nat × Int)} {x y L H : Int} (h1 : Fo o x L H) (h2 : Fo p y L H) (hL : -1000000 ≤ L) (hH : H ≤ 999999) (hd : H - L ≤ 262143) : ∃ n Z g, addD o p = some (n, Z, g) ∧ (Z = 0 ∨ L ≤ g ∧ g + (bl Z : Int) ≤ H + 1) := by
  obtain ⟨n, X, e, rfl, F, _, b1⟩ := h1.ex
  obtain ⟨m, Y, f, rfl, G, _, b2⟩ := h2.ex
  unfold addD addF
  simp only
  by_cases hX : X = 0
  · rw [if_pos hX]; exact ⟨_, _, _, rfl, by omega⟩
  · rw [if_neg hX]
    by_cases hY : Y = 0
    · rw [if_pos hY]; exact ⟨_, _, _, rfl, by omega⟩
    · rw [if_neg hY]
      by_cases hlt : e < f
      · rw [if_pos hlt]; exact addUp_sz m Y f n X e L H hY hX (by omega) (by omega) (by omega) (by omega) hL hH hd
      · rw [if_neg hlt]; exact addUp_sz n X e m Y f L H hX hY (by omega) (by omega) (by omega) (by omega) hL hH hd
/-- Sums. -/
theorem Fo.add {o p : Option (Bool × Nat × Int)} {x y L H : Int} (h1 : Fo o x L H) (h2 : Fo p y L H) (hL : -1000000 ≤ L) (hH : H ≤ 999999) (hd : H - L ≤ 262143) : Fo (addD o p) (x + y) L (H + 1) := by
  obtain ⟨n, Z, g, hz, hb⟩ := addD_sz h1 h2 hL hH hd
  obtain ⟨n1, X1, e1, r1, F1, v1, _⟩ := h1.ex
  obtain ⟨n2, X2, e2, r2, F2, v2, _⟩ := h2.ex
  have V := Fv.add (B := -2097152) (by omega) ⟨n1, X1, e1, r1, F1, v1⟩ ⟨n2, X2, e2, r2, F2, v2⟩ (by rw [hz]; rfl)
  obtain ⟨n', Z', g', r, F, v⟩ := V.ex
  rw [hz] at r
  cases r
  exact ⟨n, Z, g, hz, F, by rw [v, Int.add_mul], hb⟩

theorem zvUp {x : Bool × Nat × Int} (B C : Int) (hB : x.2.1 = 0 ∨ B ≤ x.2.2) (hC : C ≤ B) : zv C x = zv B x * ((2 ^ (B - C).toNat : Nat) : Int) := by
  unfold zv
  rcases hB with h | h
  · rw [h]; simp
  · rw [show (x.2.2 - C).toNat = (x.2.2 - B).toNat + (B - C).toNat by omega, Nat.pow_add, ← Nat.mul_assoc, Int.natCast_mul, Int.mul_assoc]

theorem wide1 (a : Nat) (h : a = 1048576) : ∀ x : Int, x * (UU : Int) * (SS : Int) = x * ((2 ^ EH : Nat) : Int) * ((2 ^ a : Nat) : Int) := by
  intro x
  have e : EU + ES = EH + a := by rw [h]; unfold EU ES EH; rfl
  have e2 : UU * SS = 2 ^ EH * 2 ^ a := by rw [U_eq, S_eq, ← Nat.pow_add, ← Nat.pow_add, e]
  rw [Int.mul_assoc, Int.mul_assoc, ← Int.natCast_mul, ← Int.natCast_mul, e2]
/-- Products of what is whole in units of 2^-1074. -/
theorem Fo.mul {o p : Option (Bool × Nat × Int)} {x y L H : Int} (h1 : Fo o (x * (UU : Int)) L H) (h2 : Fo p (y * (UU : Int)) L H) (hL : -500000 ≤ L) (hH : H ≤ 500000) (hd : H - L ≤ 131072) : Fo (mulD o p) (x * y) (2 * L) (2 * H) := by
  obtain ⟨n1, X1, e1, r1, F1, v1, b1⟩ := h1.ex
  obtain ⟨n2, X2, e2, r2, F2, v2, b2⟩ := h2.ex
  have sz : ∃ n Z g, mulD o p = some (n, Z, g) ∧ (Z = 0 ∨ 2 * L ≤ g ∧ g + (bl Z : Int) ≤ 2 * H) := by
    rw [r1, r2]
    unfold mulD mulF
    simp only
    by_cases hZ : X1 * X2 = 0
    · rw [hZ, mkSz]; exact ⟨_, _, _, rfl, .inl rfl⟩
    · have hX : X1 ≠ 0 := fun h => hZ (by rw [h, Nat.zero_mul])
      have hY : X2 ≠ 0 := fun h => hZ (by rw [h, Nat.mul_zero])
      have hb : bl (X1 * X2) ≤ bl X1 + bl X2 := blLe (by rw [Nat.pow_add]; exact Nat.mul_lt_mul'' (lt_bl X1) (lt_bl X2))
      obtain ⟨X', e', k1, k2, k3, k4⟩ := mkS_sz (n1 != n2) (X1 * X2) (e1 + e2) (2 * L) (2 * H) hZ (by omega) (by omega) (by omega) (by omega) (by omega)
      exact ⟨_, _, _, k1, .inr ⟨k3, k4⟩⟩
  obtain ⟨n, Z, g, hz, hb⟩ := sz
  have half : ∀ (n : Bool) (X : Nat) (e x : Int), Frm n X e → zv (-2097152) (n, X, e) = x * (UU : Int) * (SS : Int) → zv (-1048576) (n, X, e) = x * ((2 ^ EH : Nat) : Int) := by
    intro n X e x F hv
    have up := zvUp (x := (n, X, e)) (-1048576) (-2097152) (.inr F.down) (by omega)
    rw [hv] at up
    obtain ⟨a, ha⟩ : ∃ a : Nat, (-1048576 - -2097152 : Int).toNat = a := ⟨_, rfl⟩
    rw [ha, wide1 a (by omega)] at up
    exact (Int.eq_of_mul_eq_mul_right (by have := Nat.two_pow_pos a; omega) up).symm
  have V := Fv.mul (B := -1048576) (C := -1048576) (by omega) (by omega) ⟨n1, X1, e1, r1, F1, half _ _ _ _ F1 v1⟩ ⟨n2, X2, e2, r2, F2, half _ _ _ _ F2 v2⟩ (by rw [hz]; rfl)
  obtain ⟨n', Z', g', r, F, v⟩ := V.ex
  rw [hz] at r
  cases r
  refine ⟨n, Z, g, hz, F, ?_, hb⟩
  rw [show (-2097152 : Int) = -1048576 + -1048576 by omega, v, S_eq, ← EHH, Nat.pow_add, Int.natCast_mul]
  simp only [Int.mul_assoc, Int.mul_left_comm, Int.mul_comm]
end Go.Proofs.YtnnlicahgdcbdaaDoor

/- DyadRounds: the document's search by halves. -/
namespace Go.Proofs.YtnnlicahgdcbdaaDoor
open Go.RowKit
set_option linter.unusedVariables false
set_option maxRecDepth 20000
set_option linter.unusedSimpArgs false

/-- A width of the document's, in a block. -/
def Zk (w : World) (g : Nat) (dg ls En : Int) : Prop := w.heap[g]? = some (.cells #[.int .i64 dg, .int .i64 ls, .int .u64 En] 125 (0, 0))
theorem Zk.lt {w : World} {g : Nat} {dg ls En : Int} (h : Zk w g dg ls En) : g < w.heap.size := (Array.getElem?_eq_some_iff.1 h).1
theorem Zk.below {w w' : World} {g : Nat} {dg ls En : Int} (h : Zk w g dg ls En) (hb : Below w.heap.size w w') : Zk w' g dg ls En := by
  unfold Zk; rw [hb.block g h.lt]; exact h
theorem Zk.facts {w : World} {g : Nat} {dg ls En : Int} (h : Zk w g dg ls En) : w.cell? ⟨g, 0, none⟩ = some (.int .i64 dg) ∧ w.cell? ⟨g, 1, none⟩ = some (.int .i64 ls) ∧ w.cell? ⟨g, 2, none⟩ = some (.int .u64 En) := by
  unfold Zk at h
  simp [World.cell?, h]

end Go.Proofs.YtnnlicahgdcbdaaDoor

/- The document's Plus, Minus, Times of any two numbers are the model's own steps. -/
namespace Go.Proofs.YtnnlicahgdcbdaaDoor
open Go.RowKit J
set_option linter.unusedVariables false
set_option maxRecDepth 20000

theorem sg1_sg (s : Bool) (v : Nat) : sg1 s * (v : Int) = B.sg s v := by unfold sg1 B.sg; cases s <;> simp
theorem top_v (K : Nat) (hK : K < 9218868437227405312) (a : Nat) (ha : a = 2045) : vK K < 9007199254740992 * 2 ^ a := by
  have h := vK_word a 9007199254740992 (.inr (by omega)) (by omega)
  have h2 : a * 4503599627370496 + 9007199254740992 = 9218868437227405312 := by rw [ha]
  rw [← h, h2]
  exact vK_lt.2 hK
/-- A number's form. -/
theorem of_fo (s : Bool) (K : Nat) (hK : K < 9218868437227405312) : ∃ n X e, ofK s K = some (n, X, e) ∧ Fo (some (n, X, e)) (B.sg s (vK K) * (UU : Int)) (-1074) 1024 ∧ (X = 0 ↔ K = 0) := by
  obtain ⟨n, X, e, h1, F, h2, h3, h4⟩ := ofK_val s K hK
  refine ⟨n, X, e, h1, ⟨n, X, e, rfl, F, ?_, ?_⟩, h3⟩
  · obtain ⟨a, ha⟩ : ∃ a : Nat, (-1074 - -2097152 : Int).toNat = a := ⟨_, rfl⟩
    have h5 := h4 (-2097152) (by omega)
    rw [ha] at h5
    rw [h5, US a (by omega), Int.natCast_mul, Int.natCast_mul, ← Int.mul_assoc, ← Int.mul_assoc, sg1_sg]
  · by_cases hX : X = 0
    · exact .inl hX
    · right
      have ho := frm_odd F hX
      have hd := F.down
      -- in units of the form's own place
      have h5 := h4 (min e (-1074)) (by omega)
      unfold zv at h5
      simp only at h5
      rw [h2 hX] at h5
      have h6 : X * 2 ^ (e - min e (-1074)).toNat = vK K * 2 ^ (-1074 - min e (-1074)).toNat := by
        unfold sg1 at h5
        cases s
        · simp only [Bool.false_eq_true, if_false, Int.one_mul] at h5; exact_mod_cast h5
        · simp only [if_true] at h5; have := Int.eq_of_mul_eq_mul_left (by decide) h5; exact_mod_cast this
      have he : -1074 ≤ e := by
        apply Int.le_of_not_gt; intro hlt
        rw [show (e - min e (-1074)).toNat = 0 by omega, Nat.pow_zero, Nat.mul_one] at h6
        obtain ⟨q, hq⟩ : ∃ q, (-1074 - min e (-1074)).toNat = q + 1 := ⟨(-1074 - min e (-1074)).toNat - 1, by omega⟩
        rw [hq, Nat.pow_succ, ← Nat.mul_assoc] at h6
        omega
      refine ⟨he, ?_⟩
      rw [show (-1074 - min e (-1074)).toNat = 0 by omega, Nat.pow_zero, Nat.mul_one] at h6
      obtain ⟨q, hq⟩ : ∃ q, (e - min e (-1074)).toNat = q := ⟨_, rfl⟩
      rw [hq] at h6
      obtain ⟨c, hc⟩ : ∃ c : Nat, c = 2045 := ⟨_, rfl⟩
      have h7 := top_v K hK c hc
      have h8 := bl_ge X hX
      have h9 := bl_pos X hX
      obtain ⟨b, hb⟩ : ∃ b, bl X = b + 1 := ⟨bl X - 1, by omega⟩
      rw [hb, Nat.add_sub_cancel] at h8
      have h10 : 2 ^ b * 2 ^ q < 9007199254740992 * 2 ^ c := Nat.lt_of_le_of_lt (Nat.mul_le_mul_right _ h8) (by rw [h6]; exact h7)
      rw [← Nat.pow_add, show (9007199254740992 : Nat) = 2 ^ 53 from rfl, ← Nat.pow_add] at h10
      have h11 := (Nat.pow_lt_pow_iff_right (by decide : 1 < 2)).1 h10
      omega

/-- A form's sign, and what it is rounded to. -/
theorem round_fo {n : Bool} {X : Nat} {e T L H : Int} (h : Fo (some (n, X, e)) T L H) (hT : T ≠ 0) : X ≠ 0 ∧ n = decide (T < 0) ∧ ∀ R, NE R T.natAbs UU → rW 0 n X e = min R 9218868437227405312 := by
  obtain ⟨F, hv, _⟩ := h.frm
  have hS := S_pos
  unfold zv at hv
  simp only at hv
  have hX : X ≠ 0 := by
    intro h0
    rw [h0, Nat.zero_mul] at hv
    have : T * (SS : Int) = 0 := by rw [← hv]; simp
    rcases Int.mul_eq_zero.1 this with h | h <;> omega
  obtain ⟨q, hq⟩ : ∃ q, X * 2 ^ (e - -2097152).toNat = q := ⟨_, rfl⟩
  have hq0 : 0 < q := by rw [← hq]; exact Nat.mul_pos (by omega) (Nat.two_pow_pos _)
  rw [hq] at hv
  have hab : q = T.natAbs * SS := by
    have := congrArg Int.natAbs hv
    rw [Int.natAbs_mul, Int.natAbs_mul, Int.natAbs_natCast, Int.natAbs_natCast] at this
    rw [← this]
    unfold sg1; cases n <;> simp
  refine ⟨hX, ?_, fun R hR => ?_⟩
  · have hTS : T < 0 → T * (SS : Int) < 0 := fun h => Int.mul_neg_of_neg_of_pos h (by omega)
    have hTP : 0 < T → 0 < T * (SS : Int) := fun h => Int.mul_pos h (by omega)
    unfold sg1 at hv
    cases n
    · simp only [Bool.false_eq_true, if_false, Int.one_mul] at hv
      rw [decide_eq_false (by intro h; have := hTS h; omega)]
    · simp only [if_true] at hv
      rw [decide_eq_true (by apply Int.lt_of_not_ge; intro h; have := hTP (by omega); omega)]
  · exact rW_ne F hX (-2097152) (by omega) (V := T.natAbs) (U := UU) (S := SS) (by rw [hq, hab]) (US _ (by omega)) hR

theorem frmLen {n : Bool} {X : Nat} {e : Int} (F : Frm n X e) : (ws X).length ≤ 8192 := by
  have := mkS_len n X e
  rw [mkS_idem F] at this
  exact this
/-- What a word is: a NaN, an infinity, or finite. -/
theorem kinds (x : Nat) (hx : x < 18446744073709551616) : (nanW x = true ∧ (magW x == 9218868437227405312) = false ∧ (magW x == 0) = false ∧ 9218868437227405312 < magW x) ∨ (nanW x = false ∧ (magW x == 9218868437227405312) = true ∧ (magW x == 0) = false ∧ magW x = 9218868437227405312) ∨ (nanW x = false ∧ (magW x == 9218868437227405312) = false ∧ magW x < 9218868437227405312) := by
  have e : nanW x = decide (9218868437227405312 < magW x) := rfl
  rcases Nat.lt_trichotomy (magW x) 9218868437227405312 with h | h | h
  · refine .inr (.inr ⟨?_, ?_, h⟩)
    · rw [e]; simp; omega
    · simp; omega
  · refine .inr (.inl ⟨?_, ?_, ?_, h⟩)
    · rw [e]; simp; omega
    · simp; omega
    · simp; omega
  · refine .inl ⟨?_, ?_, ?_, h⟩
    · rw [e]; simp; omega
    · simp; omega
    · simp; omega
theorem read_nanW (x : Nat) (h : 9218868437227405312 < magW x) : ∃ s t, Ieee.double.read x = .nan s t := ⟨_, _, B.read_nan Ieee.double x (by rw [B.dInf, B.dSign]; exact h) hBin⟩
theorem read_infW (x : Nat) (hx : x < 18446744073709551616) (h : magW x = 9218868437227405312) : Ieee.double.read x = .infinity (negW x) := by
  have e := wd_of x hx
  rw [h, wd_word, ← B.dInf] at e
  rw [e, B.read_inf Ieee.double _ hInf hBin, ← e]
end Go.Proofs.YtnnlicahgdcbdaaDoor

/- The document's Plus, Minus, Times: whole. -/
namespace Go.Proofs.YtnnlicahgdcbdaaDoor
open Go.RowKit J
set_option linter.unusedVariables false
set_option maxRecDepth 20000
set_option linter.unusedSimpArgs false

theorem arW_add (x y : Nat) : arW .add x y = (((Ieee.double.read x).sum (Ieee.double.read y)).map Ieee.double.write).getD oddW := rfl
theorem arW_sub (x y : Nat) : arW .sub x y = (((Ieee.double.read x).sum (Ieee.double.read y).opposite).map Ieee.double.write).getD oddW := rfl
theorem turn_wd (s : Bool) (K : Nat) (h : K < 9223372036854775808) : turnW (wd64 s K) = wd64 (!s) K := by
  unfold turnW wd64
  cases s <;> simp <;> omega
theorem turn_lt (y : Nat) (hy : y < 18446744073709551616) : turnW y < 18446744073709551616 := by unfold turnW; split <;> omega
theorem readOpp (f : Ieee.Format) (hs : f.infRung < f.signWeight) (t : Bool) (u : Nat) (hu : u < f.infRung) : (f.read (f.word t u)).opposite = f.read (f.word (!t) u) := by
  have key : ∀ b : Bool, (f.word b u / f.signWeight % 2 == 1) = b ∧ f.word b u % f.signWeight = u := by
    intro b
    unfold Ieee.Format.word
    cases b
    · simp only [Bool.false_eq_true, if_false]
      rw [Nat.div_eq_of_lt (by omega)]; exact ⟨rfl, Nat.mod_eq_of_lt (by omega)⟩
    · simp only [if_true]
      rw [Nat.add_div_left _ (by omega), Nat.div_eq_of_lt (by omega), Nat.add_mod_left]; exact ⟨rfl, Nat.mod_eq_of_lt (by omega)⟩
  unfold Ieee.Format.read
  simp only [(key t).1, (key t).2, (key (!t)).1, (key (!t)).2]
  by_cases h : u < f.binade
  · rw [if_pos h, if_pos h]; rfl
  · rw [if_neg h, if_neg h, if_pos hu, if_pos hu]; rfl

theorem sub_turn (x y : Nat) (hy : y < 18446744073709551616) : arW .sub x y = arW .add x (turnW y) := by
  rw [arW_sub, arW_add]
  have ey := wd_of y hy
  have hm : magW y < 9223372036854775808 := Nat.mod_lt _ (by decide)
  have et : turnW y = wd64 (!negW y) (magW y) := by rw [← turn_wd _ _ hm, ← ey]
  obtain ⟨m1, m2, m3⟩ := magW_wd (!negW y) (magW y) hm
  rcases kinds y hy with ⟨b1, b2, b3, b4⟩ | ⟨b1, b2, b3, b4⟩ | ⟨b1, b2, b4⟩
  · obtain ⟨s, t, hr⟩ := read_nanW y b4
    obtain ⟨s2, t2, hr2⟩ := read_nanW (turnW y) (by rw [et, m1]; exact b4)
    rw [hr, hr2]
    cases Ieee.double.read x <;> rfl
  · have hr := read_infW y hy b4
    have hr2 := read_infW (turnW y) (turn_lt y hy) (by rw [et, m1]; exact b4)
    rw [hr, hr2, et, m2]
    rfl
  · have hr := readOpp Ieee.double hInf (negW y) (magW y) (by rw [B.dInf]; exact b4)
    rw [← wd_word, ← ey, ← wd_word, ← et] at hr
    rw [hr]
end Go.Proofs.YtnnlicahgdcbdaaDoor

/- The document's Times: whole. -/
namespace Go.Proofs.YtnnlicahgdcbdaaDoor
open Go.RowKit J
set_option linter.unusedVariables false
set_option maxRecDepth 20000
set_option linter.unusedSimpArgs false

theorem absSg (s : Bool) (v : Nat) : (B.sg s v).natAbs = v := by unfold B.sg; cases s <;> simp
end Go.Proofs.YtnnlicahgdcbdaaDoor

/- The program's Sum, Quick, Halves: chains of steps. -/
namespace Go.Proofs.YtnnlicahgdcbdaaDoor
open Go.RowKit
set_option linter.unusedVariables false
set_option maxRecDepth 20000
set_option linter.unusedSimpArgs false
attribute [local go_sem] st_float
set_option maxHeartbeats 4000000 in
theorem Sum_core (a b h t u v x l : Nat) (w : World)
    (H1 : Hid (∀ uu, Calls Tryd.prog 108 #[.float .f64 a, .func (.func 109) #[] #[], .float .f64 b] uu fun r w' => r = .returned (.float .f64 h) ∧ Below uu.heap.size uu w'))
    (H2 : Hid (∀ uu, Calls Tryd.prog 108 #[.float .f64 h, .func (.func 110) #[] #[], .float .f64 a] uu fun r w' => r = .returned (.float .f64 t) ∧ Below uu.heap.size uu w'))
    (H3 : Hid (∀ uu, Calls Tryd.prog 108 #[.float .f64 h, .func (.func 110) #[] #[], .float .f64 t] uu fun r w' => r = .returned (.float .f64 u) ∧ Below uu.heap.size uu w'))
    (H4 : Hid (∀ uu, Calls Tryd.prog 108 #[.float .f64 a, .func (.func 110) #[] #[], .float .f64 u] uu fun r w' => r = .returned (.float .f64 v) ∧ Below uu.heap.size uu w'))
    (H5 : Hid (∀ uu, Calls Tryd.prog 108 #[.float .f64 b, .func (.func 110) #[] #[], .float .f64 t] uu fun r w' => r = .returned (.float .f64 x) ∧ Below uu.heap.size uu w'))
    (H6 : Hid (∀ uu, Calls Tryd.prog 108 #[.float .f64 v, .func (.func 109) #[] #[], .float .f64 x] uu fun r w' => r = .returned (.float .f64 l) ∧ Below uu.heap.size uu w')) :
    Calls Tryd.prog 80 #[.float .f64 a, .float .f64 b] w fun r w' => r = .returned (.agg #[.float .f64 h, .float .f64 l]) ∧ Below w.heap.size w w' := by
  go_enter Tryd.func80, Tryd.ntmps80
  go_wp2_with fail
  refine (Calls.mono (H1.out _)) ?_
  rintro r w1 ⟨rfl, hb1⟩
  clear H1
  have hz1_0 : w.heap.size < w1.heap.size := by
    have := hb1.size
    try simp at this
    omega
  have S1 := Aside.intro (Below.trans (B := w.heap.size) (a := w) (by repeat (first | exact Below.refl _ _ | assumption | exact Aside.out ‹_› | exact Nat.le_refl _ | (simp only [World.size_alloc, World.size_setCell]; omega) | (simp; done) | (simp; omega) | omega | refine Below.alloc ?_ ?_ _ | refine Below.setCell ?_ ?_ _ | refine Below.drew ?_)) (hb1.mono (by first | omega | (simp only [World.size_alloc, World.size_setCell]; omega) | (simp; omega) | (simp; done))))
  obtain ⟨hc1, hf1⟩ := bcell hb1
  clear hb1
  go_wp2_with fail
  refine (Calls.mono (H2.out _)) ?_
  rintro r w2 ⟨rfl, hb2⟩
  clear H2
  have hz2_0 : w.heap.size < w2.heap.size := by
    have := hb2.size
    try simp at this
    omega
  have hy2 : w1.heap.size ≤ w2.heap.size := by
    have := hb2.size
    try simp at this
    omega
  have S2 := Aside.intro (Below.trans (B := w.heap.size) (a := w) (by repeat (first | exact Below.refl _ _ | assumption | exact Aside.out ‹_› | exact Nat.le_refl _ | (simp only [World.size_alloc, World.size_setCell]; omega) | (simp; done) | (simp; omega) | omega | refine Below.alloc ?_ ?_ _ | refine Below.setCell ?_ ?_ _ | refine Below.drew ?_)) (hb2.mono (by first | omega | (simp only [World.size_alloc, World.size_setCell]; omega) | (simp; omega) | (simp; done))))
  clear S1
  obtain ⟨hc2, hf2⟩ := bcell hb2
  clear hb2
  go_wp2_with fail
  refine (Calls.mono (H3.out _)) ?_
  rintro r w3 ⟨rfl, hb3⟩
  clear H3
  have hz3_0 : w.heap.size < w3.heap.size := by
    have := hb3.size
    try simp at this
    omega
  have hy3 : w2.heap.size ≤ w3.heap.size := by
    have := hb3.size
    try simp at this
    omega
  have S3 := Aside.intro (Below.trans (B := w.heap.size) (a := w) (by repeat (first | exact Below.refl _ _ | assumption | exact Aside.out ‹_› | exact Nat.le_refl _ | (simp only [World.size_alloc, World.size_setCell]; omega) | (simp; done) | (simp; omega) | omega | refine Below.alloc ?_ ?_ _ | refine Below.setCell ?_ ?_ _ | refine Below.drew ?_)) (hb3.mono (by first | omega | (simp only [World.size_alloc, World.size_setCell]; omega) | (simp; omega) | (simp; done))))
  clear S2
  obtain ⟨hc3, hf3⟩ := bcell hb3
  clear hb3
  go_wp2_with fail
  refine (Calls.mono (H4.out _)) ?_
  rintro r w4 ⟨rfl, hb4⟩
  clear H4
  have hz4_0 : w.heap.size < w4.heap.size := by
    have := hb4.size
    try simp at this
    omega
  have hy4 : w3.heap.size ≤ w4.heap.size := by
    have := hb4.size
    try simp at this
    omega
  have S4 := Aside.intro (Below.trans (B := w.heap.size) (a := w) (by repeat (first | exact Below.refl _ _ | assumption | exact Aside.out ‹_› | exact Nat.le_refl _ | (simp only [World.size_alloc, World.size_setCell]; omega) | (simp; done) | (simp; omega) | omega | refine Below.alloc ?_ ?_ _ | refine Below.setCell ?_ ?_ _ | refine Below.drew ?_)) (hb4.mono (by first | omega | (simp only [World.size_alloc, World.size_setCell]; omega) | (simp; omega) | (simp; done))))
  clear S3
  obtain ⟨hc4, hf4⟩ := bcell hb4
  clear hb4
  go_wp2_with fail
  refine (Calls.mono (H5.out _)) ?_
  rintro r w5 ⟨rfl, hb5⟩
  clear H5
  have hz5_0 : w.heap.size < w5.heap.size := by
    have := hb5.size
    try simp at this
    omega
  have hy5 : w4.heap.size ≤ w5.heap.size := by
    have := hb5.size
    try simp at this
    omega
  have S5 := Aside.intro (Below.trans (B := w.heap.size) (a := w) (by repeat (first | exact Below.refl _ _ | assumption | exact Aside.out ‹_› | exact Nat.le_refl _ | (simp only [World.size_alloc, World.size_setCell]; omega) | (simp; done) | (simp; omega) | omega | refine Below.alloc ?_ ?_ _ | refine Below.setCell ?_ ?_ _ | refine Below.drew ?_)) (hb5.mono (by first | omega | (simp only [World.size_alloc, World.size_setCell]; omega) | (simp; omega) | (simp; done))))
  clear S4
  obtain ⟨hc5, hf5⟩ := bcell hb5
  clear hb5
  go_wp2_with fail
  refine (Calls.mono (H6.out _)) ?_
  rintro r w6 ⟨rfl, hb6⟩
  clear H6
  have hz6_0 : w.heap.size < w6.heap.size := by
    have := hb6.size
    try simp at this
    omega
  have hy6 : w5.heap.size ≤ w6.heap.size := by
    have := hb6.size
    try simp at this
    omega
  have S6 := Aside.intro (Below.trans (B := w.heap.size) (a := w) (by repeat (first | exact Below.refl _ _ | assumption | exact Aside.out ‹_› | exact Nat.le_refl _ | (simp only [World.size_alloc, World.size_setCell]; omega) | (simp; done) | (simp; omega) | omega | refine Below.alloc ?_ ?_ _ | refine Below.setCell ?_ ?_ _ | refine Below.drew ?_)) (hb6.mono (by first | omega | (simp only [World.size_alloc, World.size_setCell]; omega) | (simp; omega) | (simp; done))))
  clear S5
  obtain ⟨hc6, hf6⟩ := bcell hb6
  clear hb6
  go_wp2
  exact bodyPost_ret (v := .agg #[.float .f64 h, .float .f64 l]) (by simp [results, Tryd.results80, go_sem, hc1, hc2, hc3, hc4, hc5, hc6, hz1_0, hz2_0, hz3_0, hz4_0, hz5_0, hz6_0]) rfl ⟨rfl, (by repeat (first | exact Below.refl _ _ | assumption | exact Aside.out ‹_› | exact Nat.le_refl _ | (simp only [World.size_alloc, World.size_setCell]; omega) | (simp; done) | (simp; omega) | omega | refine Below.alloc ?_ ?_ _ | refine Below.setCell ?_ ?_ _ | refine Below.drew ?_))⟩
end Go.Proofs.YtnnlicahgdcbdaaDoor

/- What each call of the package and of the document answers, as a plain function of the numbers' bits. -/
namespace Go.Proofs.YtnnlicahgdcbdaaDoor
open Go.RowKit J
set_option linter.unusedVariables false
set_option maxRecDepth 20000

abbrev Wd (x : Nat) : Prop := x < 18446744073709551616
theorem odd_wd : Wd oddW := by unfold Wd oddW; decide
theorem ar_wd (op : BinOp) (ho : op = .add ∨ op = .sub ∨ op = .mul) (x y : Nat) : Wd (arW op x y) := by
  unfold arW
  cases h : floatBits op .f64 x y with
  | none => exact odd_wd
  | some z => exact (bits_fin ho h).2
def plW (x y : Nat) : Nat := arW .add x y
def miW (x y : Nat) : Nat := arW .sub x y
def tiW (x y : Nat) : Nat := arW .mul x y
theorem pl_wd (x y : Nat) : Wd (plW x y) := ar_wd .add (.inl rfl) x y
theorem mi_wd (x y : Nat) : Wd (miW x y) := ar_wd .sub (.inr (.inl rfl)) x y
def sumP (a b : Nat) : Nat × Nat := (plW a b, plW (miW a (miW (plW a b) (miW (plW a b) a))) (miW b (miW (plW a b) a)))
theorem Sum_all (a b : Nat) (w : World) : Calls Tryd.prog 80 #[.float .f64 a, .float .f64 b] w fun r w' => r = .returned (.agg #[.float .f64 (sumP a b).1, .float .f64 (sumP a b).2]) ∧ Below w.heap.size w w' :=
  Sum_core a b _ _ _ _ _ _ w (hid fun u => step_plus _ _ u) (hid fun u => step_minus _ _ u) (hid fun u => step_minus _ _ u) (hid fun u => step_minus _ _ u) (hid fun u => step_minus _ _ u) (hid fun u => step_plus _ _ u)
end Go.Proofs.YtnnlicahgdcbdaaDoor

/- Steps of finite numbers by their values (whole numbers of units of 2^-1074): what is rounded is the nearest. -/
namespace Go.Proofs.YtnnlicahgdcbdaaDoor
open Go.RowKit J
set_option linter.unusedVariables false
set_option maxRecDepth 20000

/-- A finite word; its value. -/
abbrev finW (x : Nat) : Prop := magW x < 9218868437227405312
def fvW (x : Nat) : Int := B.sg (negW x) (vK (magW x))
/-- Two to the power of 1022, in those units: 2^2096. -/
def EQ : Nat := 2096
theorem exQ : ∃ q : Nat, q = 2 ^ EQ := ⟨_, rfl⟩
noncomputable def QQ : Nat := Classical.choose exQ
theorem Q_eq : QQ = 2 ^ EQ := Classical.choose_spec exQ
theorem Q_pos : 0 < QQ := by rw [Q_eq]; exact Nat.two_pow_pos _

theorem sg_abs (s : Bool) (v : Nat) : (B.sg s v).natAbs = v := absSg s v
theorem vK_F (K : Nat) : ∃ m k : Nat, vK K = m * 2 ^ k ∧ m ≤ 9007199254740992 := by
  show ∃ m k, B.val Ieee.double K = m * 2 ^ k ∧ m ≤ 9007199254740992
  unfold B.val
  rw [B.dBin]
  split
  · exact ⟨K, 0, by simp, by omega⟩
  · exact ⟨_, _, rfl, by omega⟩
theorem fv_F (x : Nat) : IsF (fvW x) := by
  obtain ⟨m, k, h1, h2⟩ := vK_F (magW x)
  unfold fvW B.sg
  rw [h1]
  cases negW x
  · exact ⟨(m : Int), k, by simp, by omega, by omega⟩
  · exact ⟨-(m : Int), k, by simp [Int.neg_mul], by omega, by omega⟩
theorem F_vK {f : Int} (h : IsF f) : ∃ L, vK L = f.natAbs := by
  by_cases hs : f.natAbs ≤ 9007199254740992
  · refine ⟨f.natAbs, ?_⟩
    have := vK_word 0 f.natAbs (.inl rfl) hs
    simpa using this
  · obtain ⟨k, h1, h2, h3⟩ := h.placed
    have h2' : 2 ^ (52 + k) ≤ f.natAbs := by
      rcases h2 with rfl | h2
      · omega
      · exact h2
    obtain ⟨q, hq⟩ := h3
    have hf : f.natAbs = q.natAbs * 2 ^ k := by rw [hq, Int.natAbs_mul, natAbs_p2, Nat.mul_comm]
    rw [hf] at h1 h2' ⊢
    rw [Nat.pow_add] at h1 h2'
    have a1 := Nat.lt_of_mul_lt_mul_right h1
    have a2 := Nat.le_of_mul_le_mul_right h2' (Nat.two_pow_pos _)
    exact ⟨_, vK_word k q.natAbs (.inr (by omega)) (by omega)⟩

/-- The nearest rung is the nearest. -/
theorem ne_near {R V L : Nat} (h : NE R V 1) : ((vK R : Int) - V).natAbs ≤ ((vK L : Int) - V).natAbs := by
  have u : 2 * V ≤ vK R + vK (R + 1) := by have := h.up; rw [Nat.mul_one] at this; exact this
  rcases Nat.lt_trichotomy L R with c | c | c
  · have d : vK (R - 1) + vK R ≤ 2 * V := by have := h.dn (by omega); rw [Nat.mul_one] at this; exact this
    have m1 : vK L ≤ vK (R - 1) := vmono (by omega)
    have m2 : vK (R - 1) < vK R := vK_lt.2 (by omega)
    omega
  · rw [c]; omega
  · have m1 : vK (R + 1) ≤ vK L := vmono (by omega)
    have m2 : vK R < vK (R + 1) := vK_lt.2 (by omega)
    omega
theorem ne_rn {R : Nat} {T : Int} (h : NE R T.natAbs 1) {s : Bool} (hs : T ≠ 0 → s = decide (T < 0)) : IsRn T (B.sg s (vK R)) := by
  have hF : IsF (B.sg s (vK R)) := by
    obtain ⟨m, k, h1, h2⟩ := vK_F R
    unfold B.sg
    rw [h1]
    cases s
    · exact ⟨(m : Int), k, by simp, by omega, by omega⟩
    · exact ⟨-(m : Int), k, by simp [Int.neg_mul], by omega, by omega⟩
  refine ⟨hF, fun f hf => ?_⟩
  obtain ⟨L, hL⟩ := F_vK hf
  have n := ne_near (L := L) h
  by_cases hT : T = 0
  · subst hT
    have : NE 0 (0 : Int).natAbs 1 := NEf.own (by decide) (by rw [B.val_zero]; rfl)
    rw [h.one this (by decide), show vK 0 = 0 from B.val_zero _]
    unfold B.sg
    cases s <;> simp
  · have e := hs hT
    unfold B.sg
    by_cases hn : T < 0
    · rw [decide_eq_true hn] at e; subst e
      simp only [if_true]
      omega
    · rw [decide_eq_false hn] at e; subst e
      simp only [Bool.false_eq_true, if_false]
      omega
theorem top_half (K : Nat) (h : 9218868437227405311 ≤ K) : 2 * QQ < vK K := by
  obtain ⟨c, hc⟩ : ∃ c : Nat, c = 2045 := ⟨_, rfl⟩
  have h1 := vK_word c 4503599627370496 (.inr (by omega)) (by omega)
  have h2 : c * 4503599627370496 + 4503599627370496 < K := by rw [hc]; omega
  have h3 := vK_lt.2 h2
  rw [h1] at h3
  have h4 : 2 * QQ = 4503599627370496 * 2 ^ c := by
    have a1 : EQ + 1 = 52 + c := by rw [hc]; unfold EQ; rfl
    have a2 : 2 * 2 ^ EQ = 2 ^ (EQ + 1) := by rw [Nat.pow_succ, Nat.mul_comm]
    rw [Q_eq, a2, a1, Nat.pow_add]
  omega
theorem ne_fin {R V : Nat} (h : NE R V 1) (hV : V ≤ 3 * QQ) : R < 9218868437227405312 := by
  apply Nat.lt_of_not_le; intro hh
  have d : vK (R - 1) + vK R ≤ 2 * V := by have := h.dn (by omega); rw [Nat.mul_one] at this; exact this
  have a1 := top_half (R - 1) (by omega)
  obtain ⟨c, hc⟩ : ∃ c : Nat, c = 2045 := ⟨_, rfl⟩
  have h1 := vK_word c 9007199254740992 (.inr (by omega)) (by omega)
  have h2 : c * 4503599627370496 + 9007199254740992 ≤ R := by rw [hc]; omega
  have h3 : vK (c * 4503599627370496 + 9007199254740992) ≤ vK R := vmono h2
  rw [h1] at h3
  have h4 : 4 * QQ = 9007199254740992 * 2 ^ c := by
    have a1 : EQ + 2 = 53 + c := by rw [hc]; unfold EQ; rfl
    have a2 : 4 * 2 ^ EQ = 2 ^ (EQ + 2) := by rw [Nat.pow_add, Nat.mul_comm]
    rw [Q_eq, a2, a1, Nat.pow_add]
  omega

theorem fv_wd (s : Bool) (K : Nat) (h : K < 9218868437227405312) : finW (wd64 s K) ∧ fvW (wd64 s K) = B.sg s (vK K) := by
  obtain ⟨h1, h2, _⟩ := magW_wd s K (by omega)
  unfold fvW
  rw [h1, h2]
  exact ⟨by unfold finW; rw [h1]; exact h, rfl⟩
/-- A sum. -/
theorem pl_fin {x y : Nat} (hx : Wd x) (hy : Wd y) (fx : finW x) (fy : finW y) (hT : (fvW x + fvW y).natAbs ≤ 3 * QQ) : finW (plW x y) ∧ IsRn (fvW x + fvW y) (fvW (plW x y)) := by
  obtain ⟨R, hR, hA⟩ := add_wd (negW x) (negW y) (magW x) (magW y) fx fy
  rw [← wd_of x hx, ← wd_of y hy] at hA
  have e : plW x y = wd64 (if fvW x + fvW y = 0 then negW x && negW y else decide (fvW x + fvW y < 0)) (min R 9218868437227405312) := by
    show (Ieee.double.add x y).getD oddW = _
    rw [hA]; rfl
  have hf := ne_fin hR hT
  rw [Nat.min_eq_left (by omega)] at e
  obtain ⟨k1, k2⟩ := fv_wd (if fvW x + fvW y = 0 then negW x && negW y else decide (fvW x + fvW y < 0)) R hf
  rw [e]
  refine ⟨k1, ?_⟩
  rw [k2]
  exact ne_rn (T := fvW x + fvW y) hR (fun h => if_neg h)
theorem fv_turn {y : Nat} (hy : Wd y) (fy : finW y) : finW (turnW y) ∧ fvW (turnW y) = -fvW y := by
  have hm : magW y < 9223372036854775808 := Nat.mod_lt _ (by decide)
  have e : turnW y = wd64 (!negW y) (magW y) := by rw [← turn_wd _ _ hm, ← wd_of y hy]
  rw [e]
  obtain ⟨k1, k2⟩ := fv_wd (!negW y) (magW y) fy
  refine ⟨k1, ?_⟩
  rw [k2]
  unfold fvW B.sg
  cases negW y <;> simp
/-- A difference. -/
theorem mi_fin {x y : Nat} (hx : Wd x) (hy : Wd y) (fx : finW x) (fy : finW y) (hT : (fvW x - fvW y).natAbs ≤ 3 * QQ) : finW (miW x y) ∧ IsRn (fvW x - fvW y) (fvW (miW x y)) := by
  obtain ⟨k1, k2⟩ := fv_turn hy fy
  have e : miW x y = plW x (turnW y) := sub_turn x y hy
  have := pl_fin hx (turn_lt y hy) fx k1 (by rw [k2]; rwa [Int.sub_eq_add_neg] at hT)
  rw [e, Int.sub_eq_add_neg, ← k2]
  exact this
/-- A product that is whole in those units. -/
theorem ti_fin {x y : Nat} (hx : Wd x) (hy : Wd y) (fx : finW x) (fy : finW y) {P : Int} (hP : fvW x * fvW y = P * (UU : Int)) (hT : P.natAbs ≤ 3 * QQ) : finW (tiW x y) ∧ IsRn P (fvW (tiW x y)) := by
  obtain ⟨R, hR, hA⟩ := mul_wd EU rfl (negW x) (negW y) (magW x) (magW y) fx fy
  rw [← wd_of x hx, ← wd_of y hy] at hA
  rw [← U_eq] at hR
  have hU := U_pos
  have e : tiW x y = wd64 (negW x != negW y) (min R 9218868437227405312) := by
    show (Ieee.double.mul x y).getD oddW = _
    rw [hA]; rfl
  have ha : vK (magW x) * vK (magW y) = P.natAbs * UU := by
    have := congrArg Int.natAbs hP
    rw [Int.natAbs_mul, Int.natAbs_mul, Int.natAbs_natCast] at this
    unfold fvW at this
    rw [sg_abs, sg_abs] at this
    exact this
  have hR1 : NE R P.natAbs 1 := by
    rw [ha] at hR
    refine NEf.unscale hU ?_
    rw [Nat.one_mul]; exact hR
  have hf := ne_fin hR1 hT
  rw [Nat.min_eq_left (by omega)] at e
  obtain ⟨k1, k2⟩ := fv_wd (negW x != negW y) R hf
  rw [e]
  refine ⟨k1, ?_⟩
  rw [k2]
  refine ne_rn hR1 (fun h => ?_)
  -- the sign
  have hv : (0 : Int) < (vK (magW x) : Int) * (vK (magW y) : Int) := by
    rw [← Int.natCast_mul, ha]
    have := Nat.mul_pos (show 0 < P.natAbs by omega) hU
    omega
  have hlt : P < 0 ↔ fvW x * fvW y < 0 := by
    rw [hP]
    constructor
    · intro h1; exact Int.mul_neg_of_neg_of_pos h1 (by omega)
    · intro h1; apply Int.lt_of_not_ge; intro h2; have := Int.mul_nonneg h2 (show (0 : Int) ≤ UU by omega); omega
  have hd : decide (P < 0) = decide (fvW x * fvW y < 0) := decide_eq_decide.2 hlt
  rw [hd]
  unfold fvW B.sg
  cases negW x <;> cases negW y <;> simp [Int.neg_mul, Int.mul_neg] <;> omega
end Go.Proofs.YtnnlicahgdcbdaaDoor

/- P5.6 by words: Sum, Quick, Halves, Product of finite numbers. -/
namespace Go.Proofs.YtnnlicahgdcbdaaDoor
open Go.RowKit J
set_option linter.unusedVariables false
set_option maxRecDepth 20000

theorem two_Q : 2 * QQ = 2 ^ (EQ + 1) := by rw [Q_eq, Nat.pow_succ, Nat.mul_comm]
theorem rn_2Q {V s : Int} (h : IsRn V s) (hV : V.natAbs ≤ 2 * QQ) : s.natAbs ≤ 2 * QQ := by
  rw [two_Q] at hV ⊢; exact h.abs_le hV

/-- What came of a call: two finite numbers, and their sum. -/
structure TwoP (p : Nat × Nat) (V : Int) : Prop where
  w1 : Wd p.1
  w2 : Wd p.2
  f1 : finW p.1
  f2 : finW p.2
  val : fvW p.1 + fvW p.2 = V

theorem tiny {V s : Int} {Q : Nat} (h : 4503599627370496 * 2 * (s - V).natAbs ≤ V.natAbs) (hV : V.natAbs ≤ 4 * Q) : -(Q : Int) ≤ 64 * (s - V) ∧ 64 * (s - V) ≤ Q := by omega
theorem sum_bound {A C H T G V X : Int} {Q : Nat} (t1 : -(Q : Int) ≤ 64 * (H - (A + C)) ∧ 64 * (H - (A + C)) ≤ Q) (t2 : -(Q : Int) ≤ 64 * (T - (H - A)) ∧ 64 * (T - (H - A)) ≤ Q) (t3 : -(Q : Int) ≤ 64 * (G - (H - T)) ∧ 64 * (G - (H - T)) ≤ Q)
    (e4 : 4503599627370496 * 2 * (V - (A - G)).natAbs ≤ (A - G).natAbs) (e5 : 4503599627370496 * 2 * (X - (C - T)).natAbs ≤ (C - T).natAbs) : (V + X).natAbs ≤ 3 * Q := by
  have k3 : (A - G).natAbs ≤ 4 * Q := by omega
  have k4 : (C - T).natAbs ≤ 4 * Q := by omega
  have t4 := tiny e4 k3
  have t5 := tiny e5 k4
  clear e4 e5 k3 k4
  omega
theorem sum_two {a b : Nat} (ha : Wd a) (hb : Wd b) (fa : finW a) (fb : finW b) (la : (fvW a).natAbs ≤ QQ) (lb : (fvW b).natAbs ≤ QQ) : TwoP (sumP a b) (fvW a + fvW b) := by
  have hQ := Q_pos
  obtain ⟨f1, r1⟩ := pl_fin ha hb fa fb (by omega)
  have n1 := r1.near _ (fv_F a)
  have s1 := rn_2Q r1 (by omega)
  have t1 := Aside.intro (tiny (Q := QQ) r1.rel (by omega))
  obtain ⟨f2, r2⟩ := mi_fin (pl_wd a b) ha f1 fa (by omega)
  have s2 := rn_2Q r2 (by omega)
  have t2 := Aside.intro (tiny (Q := QQ) r2.rel (by omega))
  have n2 := r2.near _ (fv_F (plW a b))
  clear n1
  obtain ⟨f3, r3⟩ := mi_fin (pl_wd a b) (mi_wd (plW a b) a) f1 f2 (by omega)
  have s3 := rn_2Q r3 (by omega)
  have t3 := Aside.intro (tiny (Q := QQ) r3.rel (by omega))
  clear n2
  obtain ⟨f4, r4⟩ := mi_fin ha (mi_wd (plW a b) (miW (plW a b) a)) fa f3 (by omega)
  obtain ⟨f5, r5⟩ := mi_fin hb (mi_wd (plW a b) a) fb f2 (by omega)
  obtain ⟨f6, r6⟩ := pl_fin (mi_wd a (miW (plW a b) (miW (plW a b) a))) (mi_wd b (miW (plW a b) a)) f4 f5 (sum_bound t1.out t2.out t3.out r4.rel r5.rel)
  exact ⟨pl_wd _ _, pl_wd _ _, f1, f6, sum_just (fv_F a) (fv_F b) r1 r2 r3 r4 r5 r6⟩

end Go.Proofs.YtnnlicahgdcbdaaDoor

/- Rows of numbers: what with and merged do to a row, in plain terms. -/
namespace Go.Proofs.YtnnlicahgdcbdaaDoor
open Go.RowKit
set_option linter.unusedVariables false
set_option maxRecDepth 20000
set_option linter.unusedSimpArgs false

/-- Is it a nought? -/
def noW (x : Nat) : Bool := magW x == 0
def andN (x : Nat) : List Nat := if noW x then [] else [x]
/-- The row with x in its sum. -/
def withL : List Nat → Nat → List Nat
  | [], x => andN x
  | y :: ys, x => andN (sumP x y).2 ++ withL ys (sumP x y).1
/-- The row with all of another one's in its sum. -/
def mergeL : List Nat → List Nat → List Nat
  | A, [] => A
  | A, x :: xs => mergeL (withL A x) xs
def fvL : List Nat → Int
  | [] => 0
  | x :: xs => fvW x + fvL xs
def avL : List Nat → Nat
  | [] => 0
  | x :: xs => (fvW x).natAbs + avL xs
def FinL (L : List Nat) : Prop := ∀ x ∈ L, Wd x ∧ finW x

theorem FinL.nil : FinL [] := fun x h => by simp at h
theorem FinL.head {x : Nat} {L : List Nat} (h : FinL (x :: L)) : Wd x ∧ finW x := h x (by simp)
theorem FinL.tail {x : Nat} {L : List Nat} (h : FinL (x :: L)) : FinL L := fun y hy => h y (by simp [hy])
theorem FinL.append {A B : List Nat} (h : FinL A) (k : FinL B) : FinL (A ++ B) := fun x hx => by
  rcases List.mem_append.1 hx with q | q
  · exact h x q
  · exact k x q
theorem fvL_append (A B : List Nat) : fvL (A ++ B) = fvL A + fvL B := by
  induction A with
  | nil => simp [fvL]
  | cons x A ih => simp only [List.cons_append, fvL, ih]; omega
theorem avL_append (A B : List Nat) : avL (A ++ B) = avL A + avL B := by
  induction A with
  | nil => simp [avL]
  | cons x A ih => simp only [List.cons_append, avL, ih]; omega
theorem vK_zero : vK 0 = 0 := by
  have := vK_word 0 0 (.inl rfl) (by omega)
  simpa using this
theorem fv_no {x : Nat} (h : noW x = true) : fvW x = 0 := by
  have e : magW x = 0 := by simpa [noW] using h
  unfold fvW
  rw [e, vK_zero]
  cases negW x <;> rfl
theorem andN_ok (x : Nat) (h : Wd x ∧ finW x) : FinL (andN x) ∧ fvL (andN x) = fvW x ∧ avL (andN x) ≤ (fvW x).natAbs ∧ (andN x).length ≤ 1 := by
  unfold andN
  cases hn : noW x
  · rw [if_neg (by decide)]
    refine ⟨fun y hy => ?_, by simp [fvL], by simp [avL], by simp⟩
    simp at hy; subst hy; exact h
  · rw [if_pos rfl]
    exact ⟨FinL.nil, by rw [fv_no hn]; rfl, by simp [avL], by simp⟩

/-- A step's growth: both together are at most a little greater than what was put together. -/
theorem sum_grows {a b : Nat} (ha : Wd a ∧ finW a) (hb : Wd b ∧ finW b) {G : Nat} (hab : (fvW a).natAbs + (fvW b).natAbs ≤ 4503599627370496 * G) (hG : 4503599627370496 * G ≤ QQ) :
    TwoP (sumP a b) (fvW a + fvW b) ∧ (fvW (sumP a b).1).natAbs + (fvW (sumP a b).2).natAbs ≤ (fvW a).natAbs + (fvW b).natAbs + G := by
  have t := sum_two ha.1 hb.1 ha.2 hb.2 (by omega) (by omega)
  refine ⟨t, ?_⟩
  have r := (pl_fin ha.1 hb.1 ha.2 hb.2 (by have := Q_pos; omega)).2.rel
  have e := t.val
  have e1 : (sumP a b).1 = plW a b := rfl
  rw [e1] at e ⊢
  generalize fvW (plW a b) = s at *
  generalize fvW (sumP a b).2 = l at *
  generalize fvW a = x at *
  generalize fvW b = y at *
  have e2 : s - (x + y) = -l := by omega
  rw [e2] at r
  have e3 : (-l).natAbs = l.natAbs := Int.natAbs_neg l
  rw [e3] at r
  omega

theorem with_ok (G : Nat) (hG : 4503599627370496 * G ≤ QQ) : ∀ (L : List Nat) (x : Nat), FinL L → Wd x ∧ finW x → avL L + (fvW x).natAbs + L.length * G ≤ 4503599627370496 * G →
    FinL (withL L x) ∧ fvL (withL L x) = fvL L + fvW x ∧ avL (withL L x) ≤ avL L + (fvW x).natAbs + L.length * G ∧ (withL L x).length ≤ L.length + 1 := by
  intro L
  induction L with
  | nil =>
    intro x _ hx _
    obtain ⟨h1, h2, h3, h4⟩ := andN_ok x hx
    refine ⟨h1, ?_, ?_, ?_⟩
    · show fvL (andN x) = _
      rw [h2]; simp [fvL]
    · show avL (andN x) ≤ _
      simp [avL]; omega
    · show (andN x).length ≤ _
      simp; omega
  | cons y ys ih =>
    intro x hL hx hb
    have hy := hL.head
    simp only [avL, List.length_cons] at hb
    rw [Nat.add_mul, Nat.one_mul] at hb
    obtain ⟨t, hg⟩ := sum_grows hx hy (G := G) (by omega) hG
    obtain ⟨h1, h2, h3, h4⟩ := ih (sumP x y).1 hL.tail ⟨t.w1, t.f1⟩ (by omega)
    obtain ⟨k1, k2, k3, k4⟩ := andN_ok (sumP x y).2 ⟨t.w2, t.f2⟩
    show FinL (andN (sumP x y).2 ++ withL ys (sumP x y).1) ∧ fvL (andN (sumP x y).2 ++ withL ys (sumP x y).1) = _ ∧ avL (andN (sumP x y).2 ++ withL ys (sumP x y).1) ≤ _ ∧ (andN (sumP x y).2 ++ withL ys (sumP x y).1).length ≤ _
    refine ⟨k1.append h1, ?_, ?_, ?_⟩
    · rw [fvL_append, k2, h2]
      have := t.val
      simp only [fvL]
      omega
    · rw [avL_append]
      simp only [avL, List.length_cons]
      rw [Nat.add_mul, Nat.one_mul]
      omega
    · rw [List.length_append, List.length_cons]
      omega

theorem merge_ok (G : Nat) (hG : 4503599627370496 * G ≤ QQ) : ∀ (B A : List Nat), FinL A → FinL B → avL A + avL B + B.length * (A.length + B.length) * G ≤ 4503599627370496 * G →
    FinL (mergeL A B) ∧ fvL (mergeL A B) = fvL A + fvL B ∧ avL (mergeL A B) ≤ avL A + avL B + B.length * (A.length + B.length) * G ∧ (mergeL A B).length ≤ A.length + B.length := by
  intro B
  induction B with
  | nil =>
    intro A hA _ _
    exact ⟨hA, by simp [mergeL, fvL], by simp [mergeL, avL], by simp [mergeL]⟩
  | cons x xs ih =>
    intro A hA hB hb
    simp only [avL, List.length_cons] at hb
    have e : (xs.length + 1) * (A.length + (xs.length + 1)) * G = A.length * G + xs.length * (A.length + 1 + xs.length) * G + (xs.length + 1) * G := by
      rw [← Nat.add_mul, ← Nat.add_mul]; congr 1; grind
    rw [e] at hb
    obtain ⟨h1, h2, h3, h4⟩ := with_ok G hG A x hA hB.head (by omega)
    have e2 : xs.length * ((withL A x).length + xs.length) * G ≤ xs.length * (A.length + 1 + xs.length) * G := Nat.mul_le_mul_right _ (Nat.mul_le_mul_left _ (by omega))
    obtain ⟨k1, k2, k3, k4⟩ := ih (withL A x) h1 hB.tail (by omega)
    refine ⟨k1, ?_, ?_, ?_⟩
    · show fvL (mergeL (withL A x) xs) = _
      rw [k2, h2]; simp only [fvL]; omega
    · show avL (mergeL (withL A x) xs) ≤ _
      simp only [avL, List.length_cons]
      rw [e]
      omega
    · show (mergeL (withL A x) xs).length ≤ _
      rw [List.length_cons]; omega

/-- The unit of growth: 2^926. -/
def EG : Nat := 2000
theorem exG : ∃ q : Nat, q = 2 ^ EG := ⟨_, rfl⟩
noncomputable def GG : Nat := Classical.choose exG
theorem G_eq : GG = 2 ^ EG := Classical.choose_spec exG
theorem G_pos : 0 < GG := by rw [G_eq]; exact Nat.two_pow_pos _
theorem G_Q : 4503599627370496 * GG ≤ QQ := by
  rw [G_eq, Q_eq, show (4503599627370496 : Nat) = 2 ^ 52 by decide, ← Nat.pow_add]
  exact Nat.pow_le_pow_right (by decide) (by decide)

theorem dist4 (a b c d G : Nat) : (a + b + c + d) * G = (a + c) * G + b * G + d * G := by
  rw [Nat.add_mul, Nat.add_mul, Nat.add_mul, Nat.add_mul]; omega
theorem dist5 (a b c d e G : Nat) : (a + b + c + d + e) * G = (a + c) * G + (b + d) * G + e * G := by
  rw [Nat.add_mul, Nat.add_mul, Nat.add_mul, Nat.add_mul, Nat.add_mul, Nat.add_mul]; omega
/-- What a row is: its sum; at most n numbers; c steps that it grew by. -/
structure Rk (L : List Nat) (V : Int) (n c : Nat) : Prop where
  fin : FinL L
  val : fvL L = V
  len : L.length ≤ n
  size : avL L ≤ (n * 17179869184 + c) * GG
theorem Rk.nil : Rk [] 0 0 0 := ⟨FinL.nil, rfl, by simp, by simp [avL]⟩
theorem Rk.with {L : List Nat} {V : Int} {n c : Nat} (h : Rk L V n c) {x : Nat} (hx : Wd x ∧ finW x) (hs : (fvW x).natAbs ≤ 17179869184 * GG) (hb : n * 17179869184 + 17179869184 + c + n ≤ 4503599627370496) :
    Rk (withL L x) (V + fvW x) (n + 1) (c + n) := by
  have e1 : L.length * GG ≤ n * GG := Nat.mul_le_mul_right _ h.len
  have e2 : (n * 17179869184 + 17179869184 + c + n) * GG ≤ 4503599627370496 * GG := Nat.mul_le_mul_right _ hb
  have e3 : (n * 17179869184 + 17179869184 + c + n) * GG = (n * 17179869184 + c) * GG + 17179869184 * GG + n * GG := dist4 _ _ _ _ _
  have hsz := h.size
  obtain ⟨h1, h2, h3, h4⟩ := with_ok GG G_Q L x h.fin hx (by omega)
  refine ⟨h1, by rw [h2, h.val], by have := h.len; omega, ?_⟩
  have e4 : ((n + 1) * 17179869184 + (c + n)) * GG = (n * 17179869184 + c) * GG + 17179869184 * GG + n * GG := by rw [Nat.add_mul n 1, Nat.one_mul, ← Nat.add_assoc]; exact dist4 _ _ _ _ _
  rw [e4]
  omega
theorem Rk.merge {A B : List Nat} {V U : Int} {n c m d : Nat} (h : Rk A V n c) (k : Rk B U m d) (hb : (n + m) * 17179869184 + c + d + m * (n + m) ≤ 4503599627370496) :
    Rk (mergeL A B) (V + U) (n + m) (c + d + m * (n + m)) := by
  have e0 : B.length * (A.length + B.length) ≤ m * (n + m) := Nat.mul_le_mul k.len (by have := h.len; have := k.len; omega)
  have e1 : B.length * (A.length + B.length) * GG ≤ m * (n + m) * GG := Nat.mul_le_mul_right _ e0
  have e2 : ((n + m) * 17179869184 + c + d + m * (n + m)) * GG ≤ 4503599627370496 * GG := Nat.mul_le_mul_right _ hb
  have e3 : ((n + m) * 17179869184 + c + d + m * (n + m)) * GG = (n * 17179869184 + c) * GG + (m * 17179869184 + d) * GG + m * (n + m) * GG := by rw [Nat.add_mul n m 17179869184]; exact dist5 _ _ _ _ _ _
  have hs1 := h.size
  have hs2 := k.size
  obtain ⟨h1, h2, h3, h4⟩ := merge_ok GG G_Q B A h.fin k.fin (by omega)
  refine ⟨h1, by rw [h2, h.val, k.val], by have := h.len; have := k.len; omega, ?_⟩
  have e4 : ((n + m) * 17179869184 + (c + d + m * (n + m))) * GG = ((n + m) * 17179869184 + c + d + m * (n + m)) * GG := by rw [← Nat.add_assoc, ← Nat.add_assoc]
  rw [e4, e3]
  omega
end Go.Proofs.YtnnlicahgdcbdaaDoor

/- The program's row: and, with. -/
namespace Go.Proofs.YtnnlicahgdcbdaaDoor
open Go.RowKit
set_option linter.unusedVariables false
set_option maxRecDepth 20000
set_option linter.unusedSimpArgs false

def Fw (n : Nat) : Value := .float .f64 n
theorem Tryd.info_f8 : (Tryd.prog.info? 28).map (fun i => (i.zero, i.size, i.bytes)) = some (some (.float .f64 0), 1, 8) := by kernel_rfl
theorem Tryd.desc_row8 : Tryd.prog.underlying 85 = some (.slice 28) := by kernel_rfl
/-- A block of numbers. -/
def Fb (w : World) (g : Nat) (C : List Value) : Prop := w.heap[g]? = some (.cells C.toArray 28 (0, 0))
theorem Fb.lt {w : World} {g : Nat} {C : List Value} (h : Fb w g C) : g < w.heap.size := (Array.getElem?_eq_some_iff.1 h).1
theorem Fb.cell {w : World} {g : Nat} {C : List Value} (h : Fb w g C) (i : Nat) (v : Value) (hi : C[i]? = some v) : w.cell? ⟨g, i, none⟩ = some v := by
  unfold World.cell?
  rw [h]
  simpa using hi
theorem Fb.of_block {w w' : World} {g : Nat} {C : List Value} (h : Fb w g C) (hb : w'.heap[g]? = w.heap[g]?) : Fb w' g C := by unfold Fb at h ⊢; rw [hb]; exact h
theorem Fb.below {w w' : World} {g : Nat} {C : List Value} (h : Fb w g C) (hb : Below w.heap.size w w') : Fb w' g C := h.of_block (hb.block g h.lt)
theorem Fb.alloc {w : World} {g : Nat} {C : List Value} (h : Fb w g C) (o : Obj) : Fb (w.alloc o) g C := h.of_block (Below.heap_alloc _ _ _ h.lt)
/-- A row of numbers of one's own. -/
def Fr (lo : Nat) (w : World) (v : Value) (L : List Nat) : Prop := w.ownsRow lo 28 1 v L.length (L.map Fw)
theorem Fr.nil (lo : Nat) (w : World) : Fr lo w (.slice none 0 0) [] := World.ownsRow_nil w lo 28 1
theorem map_inj8 {A B : List Nat} (h : A.map Fw = B.map Fw) : A = B := by
  have : Function.Injective Fw := fun a b h => by unfold Fw at h; injection h
  exact (List.map_inj_right (fun a b h => this h)).1 h
theorem Fr.of_block {lo : Nat} {w : World} {g : Nat} {C : List Value} (h : Fb w g C) (hlo : lo ≤ g) (hm : C.length ≤ maxLen) (K : List Nat) (hk : K.length ≤ C.length) (hK : C.take K.length = K.map Fw) : Fr lo w (.slice (some ⟨g, 0, none⟩) K.length C.length) K := by
  refine ⟨by simp, .inr ⟨g, C.length, _, rfl, hlo, h, hk, hm, by simp, ?_⟩⟩
  simpa using hK
theorem But.bel8 {g : Nat} {a w w' : World} (h : But g a w) (hb : Below w.heap.size w w') : But g a w' :=
  ⟨hb.os.trans h.os, hb.tape.trans h.tape, hb.output.trans h.output, Nat.le_trans h.size hb.size, fun k hk hne => (hb.block k (Nat.lt_of_lt_of_le hk h.size)).trans (h.block k hk hne)⟩
/-- The law for the walk. -/
theorem wpList_append8 {w : World} {ops : Array Oper} {rest : List Oper} {o : Oper} {a : Act} {Q : Exit → Act → World → Prop} (hgd : o.guard = none) (s x : Operand) (t : TypeId)
    (ho : o.op = .call { callee := .builtin .append, args := #[s, x], argTypes := #[t, t] }) (v u : Value) (hs : a.eval s = v) (hx : a.eval x = u) (v' : Value) (w' : World)
    (hrun : (Builtin.append_ #[t, t] o.type #[v, u]).run Tryd.prog w = .ok v' w') (h : wpList Tryd.prog ops Q rest (a.put o.dst v') w') : wpList Tryd.prog ops Q (o :: rest) a w := by
  refine wpList_plain hgd fun K hK => ?_
  unfold Oper.wp
  simp [execOp, ho, resolve, invoke, builtin, hs, hx, hrun, Result.andThen]
  exact hK _ _ h

theorem eqz8 {x : Nat} (h : Wd x ∧ finW x) : (FloatKind.f64.format.order x 0 == some .eq) = noW x := by
  have e := eq64 (negW x) false (magW x) 0 (Nat.le_of_lt h.2) (by decide)
  rw [← wd_of x h.1, show wd64 false 0 = 0 from rfl] at e
  rw [e]
  unfold noW sK
  rw [Bool.eq_iff_iff]
  simp only [decide_eq_true_eq, beq_iff_eq]
  cases negW x <;> simp <;> omega

/-- What comes of a block when a number is put at a place in it. -/
def putAt (C : List Value) (k x : Nat) : List Value := C.take k ++ (andN x).map Fw ++ C.drop (k + (andN x).length)
theorem putAt_len (C : List Value) (k x : Nat) (hk : k < C.length) : (putAt C k x).length = C.length := by
  unfold putAt andN
  split <;> simp <;> omega

set_option maxHeartbeats 1000000 in
theorem and_room (g k : Nat) (C : List Value) (x : Nat) (w : World) (hb : Fb w g C) (hk : k < C.length) (hx : Wd x ∧ finW x) :
    Calls Tryd.prog 81 #[.slice (some ⟨g, 0, none⟩) k C.length, .float .f64 x] w fun r w' => r = .returned (.slice (some ⟨g, 0, none⟩) (k + (andN x).length) C.length) ∧ Fb w' g (putAt C k x) ∧ But g w w' := by
  have hz := eqz8 hx
  cases hn : noW x
  · have hand : andN x = [x] := by unfold andN; rw [hn]; rfl
    rw [hn] at hz
    obtain ⟨i0, hi, hz0, hz1, hz2⟩ := info_parts Tryd.info_f8
    obtain ⟨W, hW⟩ : ∃ W, W = w.alloc (.cells #[.float .f64 x] 28) := ⟨_, rfl⟩
    have hcx : W.cell? ⟨w.heap.size, 0, none⟩ = some (.float .f64 x) := by subst hW; unfold World.cell?; simp only [heap_alloc_new]; rfl
    have hWb : Fb W g C := by subst hW; exact hb.alloc _
    have hr := run_append_room (P := Tryd.prog) W 85 85 28 i0 Tryd.desc_row8 hi g k C.length _ hWb ⟨w.heap.size, 0, none⟩ 1 1 [.float .f64 x] (by rw [hz1]; rfl) (by
      intro j u hj
      match j, hj with
      | 0, hj => simp at hj; subst hj; simpa [Addr.add] using hcx) (by intro u hu; simp at hu; subst hu; rfl) hk (by rw [hz1]; simp; omega)
    rw [hz1] at hr
    generalize hW2 : W.setRow g _ = W2 at hr
    have HR := Aside.intro hr
    have HF : Aside (Fb W2 g (putAt C k x) ∧ But g w W2) := by
      refine Aside.intro ⟨?_, ?_⟩
      · unfold Fb
        rw [← hW2, setRow_heap W g _ _ 28 _ hWb]
        congr 2
        unfold putAt
        rw [hand]
        simp [Fw]
      · rw [← hW2]
        refine ⟨by subst hW; rfl, by subst hW; rfl, by subst hW; rfl, by subst hW; simp, fun j hj hne => ?_⟩
        rw [setRow_other W g j _ hne]
        subst hW
        exact Below.heap_alloc _ _ _ hj
    rw [hand, List.length_singleton]
    clear hW2
    clear hr hWb hcx hb hk hx
    go_enter Tryd.func81, Tryd.ntmps81
    go_wp2_with (at_builtin; rw [← hW]; refine wpList_append8 rfl (.tmp 8) (.tmp 10) 85 rfl _ _ rfl rfl _ _ HR.out ?_)
    go_ret
    exact ⟨rfl, HF.out.1, HF.out.2⟩
  · have hand : andN x = [] := by unfold andN; rw [hn]; rfl
    rw [hn] at hz
    have HB : Aside (Fb w g (putAt C k x)) := by
      refine Aside.intro ?_
      unfold putAt; rw [hand]; simpa using hb
    rw [hand, List.length_nil, Nat.add_zero]
    clear hb hk hx
    go_enter Tryd.func81, Tryd.ntmps81
    go_wp2
    go_ret
    exact ⟨rfl, HB.out, But.refl _ _⟩

set_option maxHeartbeats 1000000 in
theorem and_any (lo : Nat) (v : Value) (K : List Nat) (x : Nat) (w : World) (hb : Fr lo w v K) (hlo : lo ≤ w.heap.size) (hk : K.length ≤ 1000000) (hx : Wd x ∧ finW x) :
    Calls Tryd.prog 81 #[v, .float .f64 x] w fun r w' => ∃ v', r = .returned v' ∧ Fr lo w' v' (K ++ andN x) ∧ w.grownBy w' v.ownBlock ∧ (v'.ownBlock = v.ownBlock ∨ ∃ g, v'.ownBlock = some g ∧ w.heap.size ≤ g) := by
  have hz := eqz8 hx
  cases hn : noW x
  · have hand : andN x = [x] := by unfold andN; rw [hn]; rfl
    rw [hn] at hz
    rw [hand]
    obtain ⟨i0, hi, hz0, hz1, hz2⟩ := info_parts Tryd.info_f8
    obtain ⟨W, hW⟩ : ∃ W, W = w.alloc (.cells #[.float .f64 x] 28) := ⟨_, rfl⟩
    have hcx : W.cell? ⟨w.heap.size, 0, none⟩ = some (.float .f64 x) := by subst hW; unfold World.cell?; simp only [heap_alloc_new]; rfl
    have hWb : Fr lo W v K := by subst hW; exact World.ownsRow.alloc hb _
    have hWs : w.heap.size ≤ W.heap.size := by subst hW; simp
    obtain ⟨v', w', r1, r2, r3, _, r5⟩ := run_append_own_at (P := Tryd.prog) W lo 85 85 28 i0 (.float .f64 0) 1 8 Tryd.desc_row8 hi hz0 hz1 hz2 rfl (by decide) v K.length (K.map Fw) hWb ⟨w.heap.size, 0, none⟩ 1 1 [.float .f64 x] rfl (by
      intro j u hj
      match j, hj with
      | 0, hj => simp at hj; subst hj; simpa [Addr.add] using hcx) (by intro u hu; simp at hu; subst hu; rfl) (by unfold maxLen; omega) (by omega) (by omega)
    have HR := Aside.intro r1
    have HF : Aside (Fr lo w' v' (K ++ [x]) ∧ w.grownBy w' v.ownBlock ∧ (v'.ownBlock = v.ownBlock ∨ ∃ g, v'.ownBlock = some g ∧ w.heap.size ≤ g)) := by
      refine Aside.intro ⟨?_, ⟨?_, ?_, ?_, ?_, fun j hj hne => ?_⟩, ?_⟩
      · unfold Fr; rw [List.length_append, List.map_append]; exact r2
      · rw [r3.os]; subst hW; rfl
      · rw [r3.tape]; subst hW; rfl
      · rw [r3.output]; subst hW; rfl
      · exact Nat.le_trans hWs r3.size
      · rw [r3.block j (by omega) hne]
        subst hW
        exact Below.heap_alloc _ _ _ hj
      · rcases r5 with h | h
        · exact .inl h
        · exact .inr ⟨_, h, hWs⟩
    clear r1 r2 r3 r5 hWb hcx hb hk hx hWs hlo
    go_enter Tryd.func81, Tryd.ntmps81
    go_wp2_with (at_builtin; rw [← hW]; refine wpList_append8 rfl (.tmp 8) (.tmp 10) 85 rfl _ _ rfl rfl _ _ HR.out ?_)
    go_ret
    exact ⟨v', rfl, HF.out.1, HF.out.2.1, HF.out.2.2⟩
  · have hand : andN x = [] := by unfold andN; rw [hn]; rfl
    rw [hn] at hz
    rw [hand, List.append_nil]
    have HB := Aside.intro hb
    clear hb hk hx
    go_enter Tryd.func81, Tryd.ntmps81
    go_wp2
    go_ret
    exact ⟨v, rfl, HB.out, ⟨rfl, rfl, rfl, Nat.le_refl _, fun _ _ _ => rfl⟩, .inl rfl⟩
end Go.Proofs.YtnnlicahgdcbdaaDoor

/- The program's row: with. -/
namespace Go.Proofs.YtnnlicahgdcbdaaDoor
open Go.RowKit
set_option linter.unusedVariables false
set_option maxRecDepth 20000
set_option linter.unusedSimpArgs false
attribute [local go_sem] st_float

/-- What stands while with walks. -/
structure Wi (g n cap : Nat) (A : List Nat) (x0 : Nat) (w : World) (i k x : Nat) (C : List Value) (wr : World) : Prop where
  blk : Fb wr g C
  len : C.length = cap
  ki : k ≤ i
  same : ∀ j, i ≤ j → j < n → C[j]? = some (Fw (A.getD j 0))
  done : ∃ K : List Nat, K.length = k ∧ C.take k = K.map Fw ∧ K ++ withL (A.drop i) x = withL A x0
  xok : Wd x ∧ finW x
  bound : avL (A.drop i) + (fvW x).natAbs + (A.drop i).length * GG ≤ 4503599627370496 * GG
  but : But g w wr
theorem get_putAt (C : List Value) (k x j : Nat) (hk : k < C.length) (hj : k + (andN x).length ≤ j) : (putAt C k x)[j]? = C[j]? := by
  unfold putAt
  have e : (C.take k ++ (andN x).map Fw).length = k + (andN x).length := by simp; omega
  rw [List.getElem?_append_right (by omega), e, List.getElem?_drop]
  congr 1
  omega
theorem drop_cons8 (A : List Nat) (i : Nat) (hi : i < A.length) : A.drop i = A.getD i 0 :: A.drop (i + 1) := by
  rw [List.getD_eq_getElem?_getD, List.getElem?_eq_getElem hi]
  exact List.drop_eq_getElem_cons hi
theorem FinL.drop {A : List Nat} (h : FinL A) (i : Nat) : FinL (A.drop i) := fun x hx => h x (List.mem_of_mem_drop hx)
theorem FinL.get {A : List Nat} (h : FinL A) (i : Nat) (hi : i < A.length) : Wd (A.getD i 0) ∧ finW (A.getD i 0) := by
  rw [List.getD_eq_getElem?_getD, List.getElem?_eq_getElem hi]
  exact h _ (List.getElem_mem hi)
theorem Wi.two {g n cap : Nat} {A : List Nat} {x0 : Nat} {w : World} {i k x : Nat} {C : List Value} {wr : World} (h : Wi g n cap A x0 w i k x C wr) (hA : FinL A) (hn : n = A.length) (hi : i < n) :
    TwoP (sumP x (A.getD i 0)) (fvW x + fvW (A.getD i 0)) ∧ avL (A.drop (i + 1)) + (fvW (sumP x (A.getD i 0)).1).natAbs + (A.drop (i + 1)).length * GG ≤ 4503599627370496 * GG := by
  have hb := h.bound
  rw [drop_cons8 A i (by omega)] at hb
  simp only [avL, List.length_cons] at hb
  rw [Nat.add_mul, Nat.one_mul] at hb
  obtain ⟨t, hg⟩ := sum_grows h.xok (hA.get i (by omega)) (G := GG) (by omega) G_Q
  exact ⟨t, by omega⟩
theorem Wi.next {g n cap : Nat} {A : List Nat} {x0 : Nat} {w : World} {i k x : Nat} {C : List Value} {wr w' : World} (h : Wi g n cap A x0 w i k x C wr) (hA : FinL A) (hn : n = A.length) (hnc : n ≤ cap) (hi : i < n)
    (h1 : Fb w' g (putAt C k (sumP x (A.getD i 0)).2)) (h2 : But g w w') :
    Wi g n cap A x0 w (i + 1) (k + (andN (sumP x (A.getD i 0)).2).length) (sumP x (A.getD i 0)).1 (putAt C k (sumP x (A.getD i 0)).2) w' := by
  obtain ⟨t, hb⟩ := h.two hA hn hi
  have hl := (andN_ok (sumP x (A.getD i 0)).2 ⟨t.w2, t.f2⟩).2.2.2
  have hk := h.ki
  have hlen := h.len
  refine ⟨h1, by rw [putAt_len _ _ _ (by omega)]; exact h.len, by omega, fun j hj hjn => ?_, ?_, ⟨t.w1, t.f1⟩, hb, h2⟩
  · rw [get_putAt _ _ _ _ (by omega) (by omega)]
    exact h.same j (by omega) hjn
  · obtain ⟨K, k1, k2, k3⟩ := h.done
    refine ⟨K ++ andN (sumP x (A.getD i 0)).2, by rw [List.length_append, k1], ?_, ?_⟩
    · unfold putAt
      have e : (C.take k ++ (andN (sumP x (A.getD i 0)).2).map Fw).length = k + (andN (sumP x (A.getD i 0)).2).length := by simp; omega
      rw [← e, List.take_left, List.map_append, k2]
    · rw [← k3, drop_cons8 A i (by omega)]
      show _ = K ++ (andN (sumP x (A.getD i 0)).2 ++ withL (A.drop (i + 1)) (sumP x (A.getD i 0)).1)
      rw [List.append_assoc]

set_option maxHeartbeats 2000000 in
theorem with_any (lo : Nat) (v : Value) (A : List Nat) (x : Nat) (w : World) (hv : Fr lo w v A) (hlo : lo ≤ w.heap.size) (hA : FinL A) (hx : Wd x ∧ finW x) (hl : A.length ≤ 100000) (hb : avL A + (fvW x).natAbs + A.length * GG ≤ 4503599627370496 * GG) :
    Calls Tryd.prog 50 #[v, .float .f64 x] w fun r w' => ∃ v', r = .returned v' ∧ Fr lo w' v' (withL A x) ∧ w.grownBy w' v.ownBlock ∧ (v'.ownBlock = v.ownBlock ∨ ∃ g, v'.ownBlock = some g ∧ w.heap.size ≤ g) := by
  rcases hv.2 with ⟨rfl, h0⟩ | ⟨g, cap, cur, rfl, hlog, hg, hnc, hcm, hcs, hct⟩
  · have hA0 : A = [] := List.eq_nil_of_length_eq_zero h0
    subst hA0
    have HL := hid (and_any lo (.slice none 0 0) [] x w hv hlo (by simp) hx)
    clear hv hlo hA hx hl hb h0
    go_enter Tryd.func50, Tryd.ntmps50
    go_wp2_with fail
    go_loopg [1, 5, 13] 0 (fun gk xv kv iv wr => xv = .float .f64 x ∧ kv = .slice none 0 0 ∧ iv = .int .i64 0 ∧ wr = w)
    case atStart => exact ⟨rfl, rfl, rfl, rfl⟩
    case round =>
      obtain ⟨rfl, rfl, rfl, rfl⟩ := hrel
      go_wp2_with fail
      with_reducible refine HL.out.mono ?_
      rintro r w1 ⟨v', rfl, h1, h2, h3⟩
      have H := Aside.intro (And.intro h1 (And.intro h2 h3))
      clear h1 h2 h3
      go_wp2
      go_ret
      exact ⟨v', rfl, H.out⟩
  · obtain ⟨n, hn⟩ : ∃ n, n = A.length := ⟨_, rfl⟩
    have hnc' : n ≤ cap := by omega
    have H0 : Aside (Wi g n cap A x w 0 0 x cur.toList w) := by
      refine Aside.intro ⟨by unfold Fb; simpa using hg, by simpa using hcs, Nat.le_refl _, fun j _ hj => ?_, ⟨[], rfl, by simp, by simp⟩, hx, by simpa using hb, But.refl _ _⟩
      have e : (cur.toList.take (A.length * 1))[j]? = some (Fw (A.getD j 0)) := by
        rw [hct, List.getElem?_map, List.getD_eq_getElem?_getD, List.getElem?_eq_getElem (by omega)]; rfl
      rw [List.getElem?_take, if_pos (by omega)] at e
      exact e
    have HA := Aside.intro (And.intro hA (And.intro hn (And.intro hnc' (And.intro hlog (And.intro hlo (And.intro hl (And.intro hcm (And.intro hcs hg))))))))
    rw [← hn]
    clear hv hlo hA hx hl hb hg hct hcs hlog hcm hnc hnc' hn
    go_enter Tryd.func50, Tryd.ntmps50
    go_wp2_with fail
    go_loopg [1, 5, 13] n (fun gk xv kv iv wr => ∃ (i k y : Nat) (C : List Value), gk + i = n ∧ xv = .float .f64 y ∧ kv = .slice (some ⟨g, 0, none⟩) k cap ∧ iv = .int .i64 (i : Nat) ∧ Aside (Wi g n cap A x w i k y C wr))
    case atStart => exact ⟨0, 0, x, cur.toList, by omega, rfl, rfl, rfl, H0⟩
    case round =>
      clear H0
      obtain ⟨i, k, z, C, hgi, rfl, rfl, rfl, HW⟩ := hrel
      by_cases hi : i < n
      · obtain ⟨y, hy⟩ : ∃ y, y = A.getD i 0 := ⟨_, rfl⟩
        have hc : wr.cell? ⟨g, i, none⟩ = some (.float .f64 y) := by
          rw [HW.out.blk.cell i _ (HW.out.same i (Nat.le_refl _) hi), hy]; rfl
        have HT := Aside.intro (HW.out.two HA.out.1 HA.out.2.1 hi)
        have HN := Aside.intro (fun w' => HW.out.next (w' := w') HA.out.1 HA.out.2.1 HA.out.2.2.1 hi)
        rw [← hy] at HT HN
        clear hy
        obtain ⟨⟨a, b⟩, hp⟩ : ∃ p, p = sumP z y := ⟨_, rfl⟩
        have HS := hid (fun u => Sum_all z y u)
        rw [← hp] at HS HT HN
        simp only at HS HT HN
        have HP : Aside (k < C.length ∧ C.length = cap) := ⟨by have := HW.out.ki; have := HW.out.len; have := HA.out.2.2.1; omega, HW.out.len⟩
        clear hp
        go_wp2_with fail
        refine (HS.out _).mono ?_
        rintro r w1 ⟨rfl, hb1⟩
        obtain ⟨W, hW⟩ : ∃ W, W = w1.alloc (.cells #[.float .f64 a, .float .f64 b] 120) := ⟨_, rfl⟩
        have H1 : Aside (Fb W g C ∧ But g wr W ∧ g < w1.heap.size) := by
          have h1 := HW.out.blk.below hb1
          subst hW
          exact ⟨h1.alloc _, ((But.refl g wr).bel8 hb1).alloc _, h1.lt⟩
        have hc0 : W.cell? ⟨w1.heap.size, 1, none⟩ = some (.float .f64 b) := by subst hW; unfold World.cell?; simp only [heap_alloc_new]; rfl
        have hc1 : Aside (W.heap[w1.heap.size]? = some (.cells #[.float .f64 a, .float .f64 b] 120 (0, 0)) ∧ w1.heap.size < W.heap.size) := by subst hW; exact ⟨heap_alloc_new _ _, by simp⟩
        clear hb1 hc
        have HD := hid (and_room g k C b W H1.out.1 HP.out.1 ⟨HT.out.1.w2, HT.out.1.f2⟩)
        rw [HP.out.2] at HD
        go_wp2_with fail
        rw [← hW]
        with_reducible refine HD.out.mono ?_
        rintro r w2 ⟨rfl, h2, h3⟩
        have H2 := Aside.intro (HN.out w2 h2 (HW.out.but.trans (H1.out.2.1.trans h3)))
        have hp0 : w2.cell? ⟨w1.heap.size, 0, none⟩ = some (.float .f64 a) := by
          unfold World.cell?
          rw [h3.block _ hc1.out.2 (by have := H1.out.2.2; omega), hc1.out.1]
          rfl
        clear h2 h3 hc0 hW HD
        have hi5 : i < 100000 := by have := HA.out.2.2.2.2.2.1; have := HA.out.2.1; omega
        go_wp2
        go_roundg (gk - 1)
        case measure => omega
        case rel => exact ⟨i + 1, _, a, _, by omega, rfl, rfl, by simp, H2⟩
      · obtain rfl : n = i := by omega
        obtain rfl : gk = 0 := by omega
        obtain ⟨K, k1, k2, k3⟩ := HW.out.done
        rw [show A.drop n = [] by rw [HA.out.2.1]; simp] at k3
        have hkn := HW.out.ki
        have hlc := HW.out.len
        have HF : Aside (Fr lo wr (.slice (some ⟨g, 0, none⟩) k cap) K) := by
          refine Aside.intro ?_
          have := Fr.of_block (lo := lo) HW.out.blk HA.out.2.2.2.1 (by rw [hlc]; exact HA.out.2.2.2.2.2.2.1) K (by have := HA.out.2.2.1; omega) (by rw [k1]; exact k2)
          rw [k1, hlc] at this
          exact this
        have HD := hid (and_any lo _ K z wr HF.out (Nat.le_trans HA.out.2.2.2.2.1 HW.out.but.size) (by have := HA.out.2.2.2.2.2.1; have := HA.out.2.1; omega) HW.out.xok)
        have hw : andN z = withL [] z := rfl
        rw [hw, k3] at HD
        have HG := Aside.intro HW.out.but
        clear k1 k2 k3 hkn hlc HF hw K HW
        go_wp2_with fail
        with_reducible refine HD.out.mono ?_
        rintro r w1 ⟨v', rfl, h1, h2, h3⟩
        have H : Aside (Fr lo w1 v' (withL A x) ∧ w.grownBy w1 (some g) ∧ (v'.ownBlock = some g ∨ ∃ g', v'.ownBlock = some g' ∧ w.heap.size ≤ g')) := by
          refine ⟨h1, ⟨h2.os.trans HG.out.os, h2.tape.trans HG.out.tape, h2.output.trans HG.out.output, Nat.le_trans HG.out.size h2.size, fun j hj hne => ?_⟩, ?_⟩
          · rw [h2.block j (Nat.lt_of_lt_of_le hj HG.out.size) hne]
            exact HG.out.block j hj (fun e => hne (by rw [e]))
          · rcases h3 with h | ⟨g', h, h'⟩
            · exact .inl h
            · exact .inr ⟨g', h, Nat.le_trans HG.out.size h'⟩
        clear h1 h2 h3 HD
        go_wp2
        go_ret
        exact ⟨v', rfl, H.out⟩
end Go.Proofs.YtnnlicahgdcbdaaDoor

/- The program's row: slices.Clone, merged. -/
namespace Go.Proofs.YtnnlicahgdcbdaaDoor
open Go.RowKit
set_option linter.unusedVariables false
set_option maxRecDepth 20000
set_option linter.unusedSimpArgs false

theorem Fr.keep {lo : Nat} {w w' : World} {v : Value} {L : List Nat} {row : Option Nat} (h : Fr lo w v L) (hg : w.grownBy w' row) (hr : ∀ g, v.ownBlock = some g → row ≠ some g) : Fr lo w' v L := by
  refine ⟨h.1, ?_⟩
  rcases h.2 with hn | ⟨g, cap, cur, rfl, hlo, hgc, rest⟩
  · exact .inl hn
  · refine .inr ⟨g, cap, cur, rfl, hlo, ?_, rest⟩
    rw [hg.block g (Array.getElem?_eq_some_iff.1 hgc).1 (fun e => hr g rfl e.symm)]; exact hgc
theorem Fr.below {lo : Nat} {w w' : World} {v : Value} {L : List Nat} (h : Fr lo w v L) (hb : Below w.heap.size w w') : Fr lo w' v L := by
  refine ⟨h.1, ?_⟩
  rcases h.2 with hn | ⟨g, cap, cur, rfl, hlo, hgc, rest⟩
  · exact .inl hn
  · refine .inr ⟨g, cap, cur, rfl, hlo, ?_, rest⟩
    rw [hb.block g (Array.getElem?_eq_some_iff.1 hgc).1]; exact hgc
theorem Fr.lt {lo : Nat} {w : World} {v : Value} {L : List Nat} (h : Fr lo w v L) {g : Nat} (hv : v.ownBlock = some g) : lo ≤ g ∧ g < w.heap.size := by
  rcases h.2 with ⟨rfl, hn⟩ | ⟨g', cap, cur, rfl, hlo, hgc, rest⟩
  · simp [Value.ownBlock] at hv
  · simp [Value.ownBlock] at hv
    subst hv
    exact ⟨hlo, (Array.getElem?_eq_some_iff.1 hgc).1⟩
theorem Fr.mono {lo lo' : Nat} {w : World} {v : Value} {L : List Nat} (h : Fr lo w v L) (hl : lo' ≤ lo) : Fr lo' w v L := by
  refine ⟨h.1, ?_⟩
  rcases h.2 with hn | ⟨g, cap, cur, rfl, hlo, rest⟩
  · exact .inl hn
  · exact .inr ⟨g, cap, cur, rfl, by omega, rest⟩
theorem Fr.shape {lo : Nat} {w : World} {v : Value} {L : List Nat} (h : Fr lo w v L) : (v = .slice none 0 0 ∧ L = []) ∨ ∃ g cap, v = .slice (some ⟨g, 0, none⟩) L.length cap ∧ lo ≤ g ∧ g < w.heap.size ∧ L.length ≤ cap ∧ cap ≤ maxLen ∧ ∀ i, i < L.length → w.cell? ⟨g, i, none⟩ = some (.float .f64 (L.getD i 0)) := by
  have h' := h
  rcases h.2 with ⟨rfl, hn⟩ | ⟨g, cap, cur, rfl, hlo, hg, hn, hm, hs, ht⟩
  · exact .inl ⟨rfl, List.eq_nil_of_length_eq_zero hn⟩
  · refine .inr ⟨g, cap, rfl, hlo, (Array.getElem?_eq_some_iff.1 hg).1, hn, hm, fun i hi => ?_⟩
    have := World.ownsRow.cellAt h' i (by omega)
    rw [this, List.getElem?_map, List.getElem?_eq_getElem hi, List.getD_eq_getElem?_getD, List.getElem?_eq_getElem hi]
    rfl

set_option maxHeartbeats 1000000 in
theorem clone8 (lo : Nat) (v : Value) (B : List Nat) (w : World) (hv : Fr lo w v B) (hn : B.length ≤ 1000000) :
    Calls Tryd.prog 85 #[v] w fun r w' => ∃ v', r = .returned v' ∧ Fr w.heap.size w' v' B ∧ Below w.heap.size w w' := by
  obtain ⟨i0, hi, hz0, hz1, hz2⟩ := info_parts Tryd.info_f8
  have q25 : ∀ (w : World) (a : Option Addr) (n c n' c' : Nat), (binOp .eql 85 (.slice a n c) (.slice none n' c')).run Tryd.prog w = .ok (.bool a.isNone) w := fun w a n c n' c' => Lib.run_eql_slice_nil w _ _ a n c n' c' Tryd.desc_row8
  rcases hv.shape with ⟨rfl, rfl⟩ | ⟨g, cap, rfl, hlo, hg, hc, hm, hcell⟩
  · clear hv hn
    go_enter Tryd.func85, Tryd.ntmps85
    go_wp2
    go_ret
    exact ⟨_, rfl, Fr.nil _ _, Below.refl _ _⟩
  · obtain ⟨n, hnl⟩ : ∃ n, n = B.length := ⟨_, rfl⟩
    have A := Aside.intro (And.intro hnl (And.intro hcell hn))
    rw [← hnl]
    clear hv hn hcell hm hlo hg hc hnl
    go_enter Tryd.func85, Tryd.ntmps85
    go_wp2_with (at_builtin; refine wpList_append_own _ rfl _ _ 85 rfl w.heap.size 28 i0 (.float .f64 0) 1 8 Tryd.desc_row8 hi hz0 hz1 hz2 rfl (by decide) _ _ _ rfl (World.ownsRow_made w #[] 0 (Nat.le_refl _) (Nat.zero_le _) (by simp)) ⟨g, 0, none⟩ n cap (B.map Fw) rfl ?qc1 ?qc2 ?qc3 ?qc4 ?qc5 ?qc6 ?_)
    case qc1 => simp [A.out.1]
    case qc2 =>
      intro j u hj
      have hj2 : j < B.length := by have := (List.getElem?_eq_some_iff.1 hj).1; simpa using this
      rw [Addr.add_lit]
      refine Lib.cell?_alloc_some _ ?_
      rw [Nat.zero_add, A.out.2.1 j hj2, ← hj, List.getElem?_map, List.getElem?_eq_getElem hj2, List.getD_eq_getElem?_getD, List.getElem?_eq_getElem hj2]
      rfl
    case qc3 => intro u hu; obtain ⟨x, _, rfl⟩ := List.mem_map.1 hu; rfl
    case qc4 => have := A.out.1; have := A.out.2.2; unfold maxLen; omega
    case qc5 => have := A.out.1; have := A.out.2.2; omega
    case qc6 => simp
    intro v' w1 hown hgrow hnil
    go_wp2
    go_ret
    refine ⟨v', rfl, ?_, ?_⟩
    · unfold Fr
      rw [← A.out.1]
      simpa using hown
    · exact ((Below.refl _ w).alloc (Nat.le_refl _) _).grown hgrow (by simp) (by intro k hk; simp [Value.ownBlock] at hk; omega)

/-- What stands while merged walks. -/
structure Mi (lo : Nat) (w : World) (v cv rv : Value) (A B : List Nat) (i : Nat) (R : List Nat) (wr : World) : Prop where
  row : Fr lo wr rv R
  copy : Fr w.heap.size wr cv B
  apart : ∀ g, cv.ownBlock = some g → rv.ownBlock ≠ some g
  own : rv.ownBlock = v.ownBlock ∨ ∃ g, rv.ownBlock = some g ∧ w.heap.size ≤ g
  grown : w.grownBy wr v.ownBlock
  val : mergeL R (B.drop i) = mergeL A B
  fin : FinL R
  len : R.length + (B.drop i).length ≤ A.length + B.length
  bound : avL R + avL (B.drop i) + (B.drop i).length * (R.length + (B.drop i).length) * GG ≤ 4503599627370496 * GG
theorem Mi.room {lo : Nat} {w : World} {v cv rv : Value} {A B : List Nat} {i : Nat} {R : List Nat} {wr : World} (h : Mi lo w v cv rv A B i R wr) (hi : i < B.length) : avL R + (fvW (B.getD i 0)).natAbs + R.length * GG ≤ 4503599627370496 * GG := by
  have hb := h.bound
  rw [drop_cons8 B i hi] at hb
  simp only [avL, List.length_cons] at hb
  have e : ((B.drop (i + 1)).length + 1) * (R.length + ((B.drop (i + 1)).length + 1)) * GG = R.length * GG + (B.drop (i + 1)).length * (R.length + 1 + (B.drop (i + 1)).length) * GG + ((B.drop (i + 1)).length + 1) * GG := by
    rw [← Nat.add_mul, ← Nat.add_mul]; congr 1; grind
  rw [e] at hb
  omega
theorem Mi.next {lo : Nat} {w : World} {v cv rv rv' : Value} {A B : List Nat} {i : Nat} {R : List Nat} {wr w' : World} (h : Mi lo w v cv rv A B i R wr) (hB : FinL B) (hi : i < B.length)
    (h1 : Fr lo w' rv' (withL R (B.getD i 0))) (h2 : wr.grownBy w' rv.ownBlock) (h3 : rv'.ownBlock = rv.ownBlock ∨ ∃ g, rv'.ownBlock = some g ∧ wr.heap.size ≤ g) :
    Mi lo w v cv rv' A B (i + 1) (withL R (B.getD i 0)) w' := by
  have hr := h.room hi
  obtain ⟨k1, k2, k3, k4⟩ := with_ok GG G_Q R (B.getD i 0) h.fin (hB.get i hi) hr
  have hb := h.bound
  have hl := h.len
  have hval := h.val
  rw [drop_cons8 B i hi] at hb hl hval
  simp only [avL, List.length_cons] at hb hl
  refine ⟨h1, h.copy.keep h2 (fun g hg => h.apart g hg), fun g hg => ?_, ?_, ?_, hval, k1, by omega, ?_⟩
  · rcases h3 with e | ⟨g', e, hg'⟩
    · rw [e]; exact h.apart g hg
    · rw [e]
      intro e2
      have := (h.copy.lt hg).2
      injection e2 with e3
      omega
  · rcases h3 with e | ⟨g', e, hg'⟩
    · rw [e]; exact h.own
    · exact .inr ⟨g', e, Nat.le_trans h.grown.size hg'⟩
  · refine ⟨h2.os.trans h.grown.os, h2.tape.trans h.grown.tape, h2.output.trans h.grown.output, Nat.le_trans h.grown.size h2.size, fun k hk hne => ?_⟩
    rw [h2.block k (Nat.lt_of_lt_of_le hk h.grown.size) ?_]
    · exact h.grown.block k hk hne
    · rcases h.own with e | ⟨g', e, hg'⟩
      · rw [e]; exact hne
      · rw [e]; intro e2; injection e2 with e3; omega
  · have e : ((B.drop (i + 1)).length + 1) * (R.length + ((B.drop (i + 1)).length + 1)) * GG = R.length * GG + (B.drop (i + 1)).length * (R.length + 1 + (B.drop (i + 1)).length) * GG + ((B.drop (i + 1)).length + 1) * GG := by
      rw [← Nat.add_mul, ← Nat.add_mul]; congr 1; grind
    rw [e] at hb
    have e2 : (B.drop (i + 1)).length * ((withL R (B.getD i 0)).length + (B.drop (i + 1)).length) * GG ≤ (B.drop (i + 1)).length * (R.length + 1 + (B.drop (i + 1)).length) * GG := Nat.mul_le_mul_right _ (Nat.mul_le_mul_left _ (by omega))
    omega

set_option maxHeartbeats 2000000 in
theorem merged_any (lo : Nat) (v vb : Value) (A B : List Nat) (w : World) (hv : Fr lo w v A) (hvb : Fr lo w vb B) (hlo : lo ≤ w.heap.size) (hA : FinL A) (hB : FinL B) (hl : A.length + B.length ≤ 100000) (hb : avL A + avL B + B.length * (A.length + B.length) * GG ≤ 4503599627370496 * GG) :
    Calls Tryd.prog 55 #[v, vb] w fun r w' => ∃ v', r = .returned v' ∧ Fr lo w' v' (mergeL A B) ∧ w.grownBy w' v.ownBlock ∧ (v'.ownBlock = v.ownBlock ∨ ∃ g, v'.ownBlock = some g ∧ w.heap.size ≤ g) := by
  have HC := hid (clone8 lo vb B w hvb (by omega))
  obtain ⟨n, hn⟩ : ∃ n, n = B.length := ⟨_, rfl⟩
  have HA := Aside.intro (And.intro hv (And.intro hlo (And.intro hA (And.intro hB (And.intro hl (And.intro hb hn))))))
  have hn5 : n ≤ 100000 := by omega
  clear hv hvb hlo hA hB hl hb hn
  go_enter Tryd.func55, Tryd.ntmps55
  go_wp2_with fail
  with_reducible refine HC.out.mono ?_
  rintro r w1 ⟨cv, rfl, hcv, hb1⟩
  have H0 : Aside (Mi lo w v cv v A B 0 A w1) := by
    obtain ⟨h1, h2, h3, h4, h5, h6, h7⟩ := HA.out
    refine ⟨h1.below hb1, hcv, fun g hg e => ?_, .inl rfl, ⟨hb1.os, hb1.tape, hb1.output, hb1.size, fun k hk _ => hb1.block k hk⟩, by simp, h3, by simp, by simpa using h6⟩
    have e1 := (hcv.lt hg).1
    have e2 := (h1.lt e).2
    omega
  have HL : Aside (∃ ao c, cv = .slice ao n c) := by
    rcases hcv.shape with ⟨rfl, h⟩ | ⟨g, cap, rfl, _⟩
    · exact ⟨none, 0, by rw [HA.out.2.2.2.2.2.2, h]; rfl⟩
    · exact ⟨_, _, by rw [HA.out.2.2.2.2.2.2]⟩
  clear hcv hb1 HC
  obtain ⟨ao, cc, rfl⟩ := HL.out
  clear HL
  go_wp2_with fail
  go_loopg [0, 10] n (fun gk rv iv wr => ∃ (i : Nat) (R : List Nat), gk + i = n ∧ iv = .int .i64 (i : Nat) ∧ Aside (Mi lo w v (.slice ao n cc) rv A B i R wr))
  case atStart => exact ⟨0, A, by omega, rfl, H0⟩
  case round =>
    clear H0
    obtain ⟨i, R, hgi, rfl, HW⟩ := hrel
    by_cases hi : i < n
    · have hi2 : i < B.length := by have := HA.out.2.2.2.2.2.2; omega
      have HI := Aside.intro hi2
      clear hi2
      rcases HW.out.copy.shape with ⟨h1, h2⟩ | ⟨g, cap, h1, _, _, _, _, hcell⟩
      · exfalso
        have := HI.out
        rw [h2] at this
        simp at this
      · cases h1
        obtain ⟨y, hy⟩ : ∃ y, y = B.getD i 0 := ⟨_, rfl⟩
        have hc := hcell i HI.out
        rw [← hy] at hc
        have HS := hid (with_any lo u0 R y wr HW.out.row (Nat.le_trans HA.out.2.1 HW.out.grown.size) HW.out.fin (by rw [hy]; exact HA.out.2.2.2.1.get i HI.out) (by have := HW.out.len; have := HA.out.2.2.2.2.1; omega) (by rw [hy]; exact HW.out.room HI.out))
        have HN := Aside.intro (fun w' rv' => HW.out.next (w' := w') (rv' := rv') HA.out.2.2.2.1 HI.out)
        rw [← hy] at HN
        clear hy hcell
        go_wp2_with fail
        with_reducible refine HS.out.mono ?_
        rintro r w2 ⟨v', rfl, k1, k2, k3⟩
        have H2 := Aside.intro (HN.out w2 v' k1 k2 k3)
        clear k1 k2 k3 hc HS
        go_wp2
        go_roundg (gk - 1)
        case measure => omega
        case rel => exact ⟨i + 1, _, by omega, by simp, H2⟩
    · obtain rfl : n = i := by omega
      obtain rfl : gk = 0 := by omega
      have e := HW.out.val
      rw [show B.drop n = [] by rw [HA.out.2.2.2.2.2.2]; simp] at e
      have H : Aside (Fr lo wr u0 (mergeL A B) ∧ w.grownBy wr v.ownBlock ∧ (u0.ownBlock = v.ownBlock ∨ ∃ g, u0.ownBlock = some g ∧ w.heap.size ≤ g)) := by
        refine ⟨?_, HW.out.grown, HW.out.own⟩
        rw [← e]
        exact HW.out.row
      clear e HW
      go_wp2
      go_ret
      exact ⟨u0, rfl, H.out⟩
end Go.Proofs.YtnnlicahgdcbdaaDoor

