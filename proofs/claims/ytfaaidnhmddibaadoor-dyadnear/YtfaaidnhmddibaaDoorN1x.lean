import Derived.Test.YtfaaidnhmddibaaDoorD21x
import Derived.Test.YtfaaidnhmddibaaDoorD41
/- Where a value lies among the numbers of 64 bits: plain mathematics of rounding. -/
namespace Go.Proofs.YtfaaidnhmddibaaDoor
open Go.RowKit
set_option linter.unusedVariables false
set_option maxRecDepth 20000

/-- How the place of a value stands to it (units of 2^Bs). -/
theorem plc_floor (dg : Nat) (least top : Int) (X : Nat) (e : Int) (ho : X % 2 = 1) (Bs : Int) (h1 : Bs ≤ e) (h2 : Bs ≤ least) (hin : ¬ top < e + (bl X : Int)) :
    Bs ≤ (plc dg least top X e).2.1 ∧
    (((plc dg least top X e).2.2.1 = true ∧ X * 2 ^ (e - Bs).toNat = (plc dg least top X e).1 * 2 ^ ((plc dg least top X e).2.1 - Bs).toNat) ∨
     ((plc dg least top X e).2.2.1 = false ∧ (plc dg least top X e).1 * 2 ^ ((plc dg least top X e).2.1 - Bs).toNat < X * 2 ^ (e - Bs).toNat ∧ X * 2 ^ (e - Bs).toNat < ((plc dg least top X e).1 + 1) * 2 ^ ((plc dg least top X e).2.1 - Bs).toNat ∧
      ((plc dg least top X e).2.2.2 = -1 ∧ 2 * (X * 2 ^ (e - Bs).toNat) < (2 * (plc dg least top X e).1 + 1) * 2 ^ ((plc dg least top X e).2.1 - Bs).toNat ∨
       (plc dg least top X e).2.2.2 = 0 ∧ 2 * (X * 2 ^ (e - Bs).toNat) = (2 * (plc dg least top X e).1 + 1) * 2 ^ ((plc dg least top X e).2.1 - Bs).toNat ∨
       (plc dg least top X e).2.2.2 = 1 ∧ (2 * (plc dg least top X e).1 + 1) * 2 ^ ((plc dg least top X e).2.1 - Bs).toNat < 2 * (X * 2 ^ (e - Bs).toNat)))) := by
  unfold plc
  rw [if_neg hin]
  simp only
  obtain ⟨ex, hex⟩ : ∃ ex, max (e + (bl X : Int) - (dg : Int)) least = ex := ⟨_, rfl⟩
  rw [hex]
  have hle : least ≤ ex := by omega
  by_cases hoff : ex - e ≤ 0
  · rw [if_pos hoff]
    simp only
    refine ⟨by omega, .inl ⟨trivial, ?_⟩⟩
    rw [Nat.mul_assoc, ← Nat.pow_add, show (-(ex - e)).toNat + (ex - Bs).toNat = (e - Bs).toNat by omega]
  · rw [if_neg hoff]
    simp only
    obtain ⟨k, hk⟩ : ∃ k : Nat, (ex - e).toNat = k := ⟨_, rfl⟩
    have hk0 : 0 < k := by omega
    have hexB : (ex - Bs).toNat = k + (e - Bs).toNat := by omega
    have hk1 : (ex - e - 1).toNat = k - 1 := by omega
    rw [hk, hexB, hk1, Nat.pow_add]
    obtain ⟨Q, hQ⟩ : ∃ Q, 2 ^ (e - Bs).toNat = Q := ⟨_, rfl⟩
    have hQ0 : 0 < Q := by rw [← hQ]; exact Nat.two_pow_pos _
    rw [hQ]
    have hdm := Nat.div_add_mod X (2 ^ k)
    have hmod := Nat.mod_lt X (Nat.two_pow_pos k)
    obtain ⟨F, hF⟩ : ∃ F, X / 2 ^ k = F := ⟨_, rfl⟩
    obtain ⟨R, hR⟩ : ∃ R, X % 2 ^ k = R := ⟨_, rfl⟩
    have hhalf : 2 ^ k = 2 * 2 ^ (k - 1) := by rw [show k = k - 1 + 1 by omega, Nat.pow_succ, Nat.mul_comm]; rfl
    have hbit : X / 2 ^ (k - 1) % 2 = R / 2 ^ (k - 1) := by
      rw [← hR, hhalf]
      rw [Nat.mul_comm 2, Nat.mod_mul_right_div_self]
    obtain ⟨Hf, hHf⟩ : ∃ Hf, 2 ^ (k - 1) = Hf := ⟨_, rfl⟩
    have hHf0 : 0 < Hf := by rw [← hHf]; exact Nat.two_pow_pos _
    rw [hHf] at hhalf hbit ⊢
    rw [hbit]
    rw [hhalf] at hdm hmod hF hR ⊢
    rw [hF, hR] at hdm
    rw [hR] at hmod
    rw [hF]
    have hR0 : R ≠ 0 := by
      intro h
      rw [h, Nat.add_zero, Nat.mul_assoc] at hdm
      omega
    have e1 : F * (2 * Hf * Q) = (F * (2 * Hf)) * Q := (Nat.mul_assoc _ _ _).symm
    have e2 : (F + 1) * (2 * Hf * Q) = ((F + 1) * (2 * Hf)) * Q := (Nat.mul_assoc _ _ _).symm
    have e3 : (2 * F + 1) * (2 * Hf * Q) = (2 * (F * (2 * Hf)) + 2 * Hf) * Q := by
      rw [Nat.add_mul, Nat.add_mul, Nat.one_mul, Nat.mul_assoc 2 F, ← Nat.mul_assoc F, Nat.mul_assoc 2 (F * (2 * Hf)) Q]
    have e4 : 2 * (X * Q) = (2 * X) * Q := by rw [Nat.mul_assoc]
    have e5 : 2 * Hf * F = F * (2 * Hf) := Nat.mul_comm _ _
    rw [e5] at hdm
    have e6 : (F + 1) * (2 * Hf) = F * (2 * Hf) + 2 * Hf := by rw [Nat.add_mul, Nat.one_mul]
    rw [e1, e2, e3, e4, e6]
    generalize F * (2 * Hf) = G at hdm ⊢
    refine ⟨by omega, .inr ⟨trivial, Nat.mul_lt_mul_of_pos_right (by omega) hQ0, Nat.mul_lt_mul_of_pos_right (by omega) hQ0, ?_⟩⟩
    by_cases hone : ex - e = 1
    · rw [if_pos hone]
      have hk1' : k = 1 := by omega
      have hHf1 : Hf = 1 := by rw [← hHf, hk1']
      refine .inr (.inl ⟨rfl, ?_⟩)
      congr 1
      omega
    · rw [if_neg hone]
      have hHf2 : Hf % 2 = 0 := by
        rw [← hHf, show k - 1 = k - 2 + 1 by omega, Nat.pow_succ]; omega
      have hRodd : R % 2 = 1 := by
        have : G % 2 = 0 ∨ True := .inr trivial
        rw [← hR]
        rw [Nat.mod_mul_right_mod]
        exact ho
      by_cases hge : Hf ≤ R
      · have hd1 : R / Hf = 1 := by
          rw [Nat.div_eq_iff hHf0]; omega
        rw [hd1, if_pos rfl]
        refine .inr (.inr ⟨rfl, Nat.mul_lt_mul_of_pos_right ?_ hQ0⟩)
        have : R ≠ Hf := by intro h; rw [h] at hRodd; omega
        omega
      · have hd0 : R / Hf = 0 := Nat.div_eq_of_lt (by omega)
        rw [hd0, if_neg (by omega)]
        exact .inl ⟨rfl, Nat.mul_lt_mul_of_pos_right (by omega) hQ0⟩

/-- The greatest finite word that is not above a value, and the word after it. -/
def flK (X : Nat) (e : Int) : Nat := ((plc 53 (-1074) 1024 X e).2.1 + 1074).toNat * 4503599627370496 + (plc 53 (-1074) 1024 X e).1
/-- A word's value. -/
abbrev vK (K : Nat) : Nat := B.val Ieee.double K
theorem vK_lt {K L : Nat} : vK K < vK L ↔ K < L := B.val_lt_iff Ieee.double
theorem vK_word (j F : Nat) (h : j = 0 ∨ 4503599627370496 ≤ F) (hF : F ≤ 9007199254740992) : vK (j * 4503599627370496 + F) = F * 2 ^ j := by
  have := B.val_at Ieee.double j F (by rw [B.dBin]; exact h) (by rw [B.dBin]; omega)
  rw [B.dBin] at this
  exact this

/-- Where a value lies: at a word, or between it and the next one; how it stands to their middle. V: the value, S: what the words' unit is. -/
structure Lies (K : Nat) (at' : Bool) (mid : Int) (V S : Nat) : Prop where
  fin : K < 9218868437227405312
  pos : 0 < S
  one : at' = true → V = vK K * S
  low : at' = false → vK K * S < V
  mids : at' = false → V < vK (K + 1) * S → (mid = -1 ∧ 2 * V < vK K * S + vK (K + 1) * S ∨ mid = 0 ∧ 2 * V = vK K * S + vK (K + 1) * S ∨ mid = 1 ∧ vK K * S + vK (K + 1) * S < 2 * V)
  high : at' = false → V < vK (K + 1) * S ∨ (K = 9218868437227405311 ∧ mid = 1)

theorem lies (X : Nat) (e : Int) (hX : X % 2 = 1) (he0 : -1048576 ≤ e) (he1 : e ≤ 1048576) (Bs : Int) (h1 : Bs ≤ e) (h2 : Bs ≤ -1074) :
    Lies (flK X e) (plc 53 (-1074) 1024 X e).2.2.1 (plc 53 (-1074) 1024 X e).2.2.2 (X * 2 ^ (e - Bs).toNat) (2 ^ (-1074 - Bs).toNat) := by
  have hX0 : X ≠ 0 := by omega
  obtain ⟨f1, f2, f3, f4⟩ := plc_facts X e hX0 he0 he1
  obtain ⟨j, hj⟩ : ∃ j : Nat, ((plc 53 (-1074) 1024 X e).2.1 + 1074).toNat = j := ⟨_, rfl⟩
  have hS : 0 < 2 ^ (-1074 - Bs).toNat := Nat.two_pow_pos _
  have hw : ∀ F, F ≤ 9007199254740992 → (j = 0 ∨ 4503599627370496 ≤ F) → vK (j * 4503599627370496 + F) * 2 ^ (-1074 - Bs).toNat = F * 2 ^ ((plc 53 (-1074) 1024 X e).2.1 - Bs).toNat := by
    intro F hF hn
    rw [vK_word j F hn hF, Nat.mul_assoc, ← Nat.pow_add]
    congr 2
    omega
  have hn1 : j = 0 ∨ 4503599627370496 ≤ (plc 53 (-1074) 1024 X e).1 := by
    rcases f4 with h | h
    · left; omega
    · exact .inr h
  have w1 := hw (plc 53 (-1074) 1024 X e).1 (by omega) hn1
  have w2 := hw ((plc 53 (-1074) 1024 X e).1 + 1) (by omega) (by rcases hn1 with h | h; exact .inl h; exact .inr (by omega))
  have hflK : flK X e = j * 4503599627370496 + (plc 53 (-1074) 1024 X e).1 := by unfold flK; rw [hj]
  have hflK1 : flK X e + 1 = j * 4503599627370496 + ((plc 53 (-1074) 1024 X e).1 + 1) := by rw [hflK]; omega
  have hfin : flK X e < 9218868437227405312 := by rw [hflK]; omega
  rw [← hflK] at w1
  rw [← hflK1] at w2
  by_cases hin : 1024 < e + (bl X : Int)
  · have hp : plc 53 (-1074) 1024 X e = ((2 ^ 53 - 1 : Nat), ((1024 : Int) - ((53 : Nat) : Int)), false, (1 : Int)) := by unfold plc; rw [if_pos hin]
    have hK : flK X e = 9218868437227405311 := by unfold flK; rw [hp]; rfl
    refine ⟨hfin, hS, fun h => (by rw [hp] at h; cases h), fun _ => ?_, fun _ hlt => ?_, fun _ => .inr ⟨hK, (by rw [hp])⟩⟩
    · rw [w1]
      have hlow : (2 ^ 53 - 1) * 2 ^ (971 - Bs).toNat < 2 ^ 53 * 2 ^ (971 - Bs).toNat := Nat.mul_lt_mul_of_pos_right (by decide) (Nat.two_pow_pos _)
      have hup : 2 ^ 53 * 2 ^ (971 - Bs).toNat ≤ X * 2 ^ (e - Bs).toNat := by
        have hb := bl_ge X hX0
        have hbp := bl_pos X hX0
        refine Nat.le_trans ?_ (Nat.mul_le_mul_right _ hb)
        rw [← Nat.pow_add, ← Nat.pow_add]
        exact Nat.pow_le_pow_right (by omega) (by omega)
      rw [hp]
      exact Nat.lt_of_lt_of_le hlow hup
    · exfalso
      rw [w2, hp] at hlt
      have hup : 2 ^ 53 * 2 ^ (971 - Bs).toNat ≤ X * 2 ^ (e - Bs).toNat := by
        have hb := bl_ge X hX0
        have hbp := bl_pos X hX0
        refine Nat.le_trans ?_ (Nat.mul_le_mul_right _ hb)
        rw [← Nat.pow_add, ← Nat.pow_add]
        exact Nat.pow_le_pow_right (by omega) (by omega)
      exact absurd hlt (Nat.not_lt.2 hup)
  · obtain ⟨_, hfl⟩ := plc_floor 53 (-1074) 1024 X e hX Bs h1 h2 hin
    have hmid : vK (flK X e) * 2 ^ (-1074 - Bs).toNat + vK (flK X e + 1) * 2 ^ (-1074 - Bs).toNat = (2 * (plc 53 (-1074) 1024 X e).1 + 1) * 2 ^ ((plc 53 (-1074) 1024 X e).2.1 - Bs).toNat := by
      rw [w1, w2, ← Nat.add_mul]; congr 1; omega
    rcases hfl with ⟨ht, hv⟩ | ⟨hf, hlo, hhi, hm⟩
    · exact ⟨hfin, hS, fun _ => (by rw [w1]; exact hv), fun h => (by rw [ht] at h; cases h), fun h => (by rw [ht] at h; cases h), fun h => (by rw [ht] at h; cases h)⟩
    · refine ⟨hfin, hS, fun h => (by rw [hf] at h; cases h), fun _ => (by rw [w1]; exact hlo), fun _ _ => (by rw [hmid]; exact hm), fun _ => .inl (by rw [w2]; exact hhi)⟩
end Go.Proofs.YtfaaidnhmddibaaDoor

/- Rounding: what is not greater is not rounded to what is greater; neighbours; the nearest. -/
namespace Go.Proofs.YtfaaidnhmddibaaDoor
open Go.RowKit
set_option linter.unusedVariables false
set_option maxRecDepth 20000

theorem vS_le {K L S : Nat} (h : K ≤ L) : vK K * S ≤ vK L * S := by
  rcases Nat.lt_or_ge K L with k | k
  · exact Nat.mul_le_mul_right _ (Nat.le_of_lt (vK_lt.2 k))
  · rw [show K = L by omega]; exact Nat.le_refl _
theorem vS_lt {K L S : Nat} (hS : 0 < S) (h : K < L) : vK K * S < vK L * S := Nat.mul_lt_mul_of_pos_right (vK_lt.2 h) hS
theorem Lies.ge {K : Nat} {t : Bool} {m : Int} {V S : Nat} (h : Lies K t m V S) : vK K * S ≤ V := by
  cases ht : t
  · exact Nat.le_of_lt (h.low ht)
  · rw [h.one ht]; exact Nat.le_refl _

/-- The word that is answered. -/
def rK (mode : Int) (n : Bool) (K : Nat) (t : Bool) (m : Int) : Nat := if t then K else if outS mode K m n then K + 1 else K
theorem outS_par (mode : Int) (j F : Nat) (m : Int) (n : Bool) : outS mode (j * 4503599627370496 + F) m n = outS mode F m n := by
  unfold outS
  rw [show (j * 4503599627370496 + F) % 2 = F % 2 by omega]
theorem rndK_eq (mode : Int) (n : Bool) (X : Nat) (e : Int) : rndK mode n X e = rK mode n (flK X e) (plc 53 (-1074) 1024 X e).2.2.1 (plc 53 (-1074) 1024 X e).2.2.2 := by
  unfold rndK rK flK
  simp only
  rw [outS_par]
  split
  · rfl
  · split <;> omega

/-- Floors rise with values. -/
theorem lies_mono {K1 K2 : Nat} {t1 t2 : Bool} {m1 m2 : Int} {V1 V2 S : Nat} (h1 : Lies K1 t1 m1 V1 S) (h2 : Lies K2 t2 m2 V2 S) (h : V1 ≤ V2) : K1 ≤ K2 := by
  rcases Nat.lt_or_ge K2 K1 with k | k
  · exfalso
    have a1 := h1.ge
    have a2 : vK (K2 + 1) * S ≤ vK K1 * S := vS_le (by omega)
    have a3 : V2 < vK (K2 + 1) * S := by
      cases ht : t2
      · rcases h2.high ht with q | q
        · exact q
        · have := h1.fin; omega
      · rw [h2.one ht]; exact vS_lt h2.pos (by omega)
    omega
  · exact k

theorem rK_mono (mode : Int) (n : Bool) {K1 K2 : Nat} {t1 t2 : Bool} {m1 m2 : Int} {V1 V2 S : Nat} (h1 : Lies K1 t1 m1 V1 S) (h2 : Lies K2 t2 m2 V2 S) (h : V1 ≤ V2) : rK mode n K1 t1 m1 ≤ rK mode n K2 t2 m2 := by
  have hK := lies_mono h1 h2 h
  have u1 : rK mode n K1 t1 m1 ≤ K1 + 1 := by unfold rK; split; omega; split <;> omega
  have l2 : K2 ≤ rK mode n K2 t2 m2 := by unfold rK; split; omega; split <;> omega
  rcases Nat.lt_or_ge K1 K2 with k | k
  · omega
  · have e : K1 = K2 := by omega
    subst e
    by_cases ht1 : t1 = true
    · unfold rK at *
      rw [if_pos ht1] at *
      exact l2
    · have ht1f : t1 = false := by simpa using ht1
      have ht2f : t2 = false := by
        cases ht2 : t2
        · rfl
        · exfalso
          have a1 := h1.low ht1f
          have a2 := h2.one ht2
          omega
      have hmm : m1 ≤ m2 := by
        rcases h2.high ht2f with q2 | ⟨q2, q2'⟩
        · have q1 : V1 < vK (K1 + 1) * S := by omega
          have r1 := h1.mids ht1f q1
          have r2 := h2.mids ht2f q2
          generalize vK K1 * S + vK (K1 + 1) * S = M at r1 r2
          omega
        · rw [q2']
          rcases h1.high ht1f with q1 | ⟨q1, q1'⟩
          · have r1 := h1.mids ht1f q1
            omega
          · omega
      unfold rK
      rw [ht1f, ht2f]
      simp only [Bool.false_eq_true, if_false]
      have key : outS mode K1 m1 n = true → outS mode K1 m2 n = true := by
        unfold outS
        split
        · intro hq
          simp only [Bool.or_eq_true, Bool.and_eq_true, decide_eq_true_eq] at hq ⊢
          omega
        · split
          · exact id
          · split
            · exact id
            · split
              · intro hq
                simp only [decide_eq_true_eq] at hq ⊢
                omega
              · exact id
      by_cases ho : outS mode K1 m1 n = true
      · rw [if_pos ho, if_pos (key ho)]; exact Nat.le_refl _
      · rw [if_neg ho]; split <;> omega

/-- Toward nought it is not above, away from it not below, where it is finite. -/
theorem rK_inner (mode : Int) (n : Bool) {K : Nat} {t : Bool} {m : Int} {V S : Nat} (h : Lies K t m V S) (ho : outS mode K m n = false) : vK (rK mode n K t m) * S ≤ V := by
  unfold rK
  split
  · exact h.ge
  · rw [if_neg (by rw [ho]; exact Bool.false_ne_true)]; exact h.ge
theorem rK_outer (mode : Int) (n : Bool) {K : Nat} {t : Bool} {m : Int} {V S : Nat} (h : Lies K t m V S) (ho : outS mode K m n = true) (hf : rK mode n K t m < 9218868437227405312) : V ≤ vK (rK mode n K t m) * S := by
  unfold rK at hf ⊢
  split
  · rename_i ht; rw [h.one ht]; exact Nat.le_refl _
  · rename_i ht
    have htf : t = false := by simpa using ht
    rw [if_neg ht, if_pos ho] at hf
    try rw [if_pos ho]
    rcases h.high htf with q | ⟨q, _⟩
    · omega
    · omega

/-- No word lies nearer. -/
theorem rK_near (mode : Int) (n : Bool) (hmode : mode = 0 ∨ mode = 4) {K : Nat} {t : Bool} {m : Int} {V S : Nat} (h : Lies K t m V S) (hf : rK mode n K t m < 9218868437227405312) (L : Nat) :
    ((vK (rK mode n K t m) * S : Nat) - (V : Int)).natAbs ≤ ((vK L * S : Nat) - (V : Int)).natAbs := by
  by_cases ht : t = true
  · have : rK mode n K t m = K := by unfold rK; rw [if_pos ht]
    rw [this, h.one ht]
    omega
  · have htf : t = false := by simpa using ht
    have hlow := h.low htf
    rcases h.high htf with q | ⟨q, q'⟩
    · have r := h.mids htf q
      have hL : vK L * S ≤ vK K * S ∨ vK (K + 1) * S ≤ vK L * S := by
        rcases Nat.lt_or_ge K L with k | k
        · exact .inr (vS_le (by omega))
        · exact .inl (vS_le k)
      by_cases ho : outS mode K m n = true
      · have e : rK mode n K t m = K + 1 := by unfold rK; rw [if_neg ht, if_pos ho]
        rw [e]
        have hm : 0 ≤ m := by
          unfold outS at ho
          rcases hmode with rfl | rfl
          · rw [if_pos rfl] at ho
            simp only [Bool.or_eq_true, Bool.and_eq_true, decide_eq_true_eq] at ho
            omega
          · simp at ho; omega
        generalize vK K * S = A at *
        generalize vK (K + 1) * S = B at *
        generalize vK L * S = C at *
        omega
      · have e : rK mode n K t m = K := by unfold rK; rw [if_neg ht, if_neg ho]
        rw [e]
        have hm : m ≤ 0 := by
          unfold outS at ho
          rcases hmode with rfl | rfl
          · rw [if_pos rfl] at ho
            simp only [Bool.or_eq_true, Bool.and_eq_true, decide_eq_true_eq] at ho
            omega
          · simp at ho; omega
        generalize vK K * S = A at *
        generalize vK (K + 1) * S = B at *
        generalize vK L * S = C at *
        omega
    · exfalso
      have ho : outS mode K m n = true := by
        unfold outS
        rw [q']
        rcases hmode with rfl | rfl <;> simp
      have e : rK mode n K t m = K + 1 := by unfold rK; rw [if_neg ht, if_pos ho]
      rw [e, q] at hf
      omega
/-- A word's own value is answered as that word. -/
theorem rK_own (mode : Int) (n : Bool) {K : Nat} {t : Bool} {m : Int} {V S : Nat} (h : Lies K t m V S) (L : Nat) (hL : L < 9218868437227405312) (hV : V = vK L * S) : rK mode n K t m = L := by
  have hKL : K ≤ L := by
    rcases Nat.lt_or_ge L K with k | k
    · exfalso
      have a1 := h.ge
      have a2 := vS_lt h.pos k
      omega
    · exact k
  by_cases ht : t = true
  · have : vK K = vK L := Nat.eq_of_mul_eq_mul_right h.pos (by rw [← hV, h.one ht])
    unfold rK
    rw [if_pos ht]
    exact B.val_inj Ieee.double this
  · exfalso
    have htf : t = false := by simpa using ht
    have a1 := h.low htf
    have hlt : K < L := by
      rcases Nat.lt_or_ge K L with k | k
      · exact k
      · have : K = L := by omega
        rw [this] at a1
        omega
    rcases h.high htf with q | ⟨q, _⟩
    · have a2 : vK (K + 1) * S ≤ vK L * S := vS_le (by omega)
      omega
    · omega
end Go.Proofs.YtfaaidnhmddibaaDoor

/- DyadNear: the plain mathematics of what it asks. -/
namespace Go.Proofs.YtfaaidnhmddibaaDoor
open Go.RowKit
set_option linter.unusedVariables false
set_option maxRecDepth 20000

/-- A word with its sign. -/
def wd64 (s : Bool) (K : Nat) : Nat := K + (if s then 9223372036854775808 else 0)
/-- A word's signed place. -/
def sK (s : Bool) (K : Nat) : Int := if s then -(K : Int) else K
theorem wd64_bw (s : Bool) (K : Nat) (h : K ≤ 9218868437227405312) : wd64 s K = B.bw s (K / 4503599627370496) (K % 4503599627370496) ∧ K / 4503599627370496 < 2048 ∧ K % 4503599627370496 < 4503599627370496 ∧ B.odd (K / 4503599627370496) (K % 4503599627370496) = false ∧ B.pl s (K / 4503599627370496) (K % 4503599627370496) = sK s K := by
  refine ⟨?_, by omega, by omega, ?_, ?_⟩
  · unfold wd64 B.bw
    cases s
    · simp; omega
    · simp; omega
  · unfold B.odd
    simp
    omega
  · unfold B.pl B.sg sK
    rw [show K / 4503599627370496 * 4503599627370496 + K % 4503599627370496 = K by omega]
theorem gt64 (s t : Bool) (K L : Nat) (hK : K ≤ 9218868437227405312) (hL : L ≤ 9218868437227405312) : (FloatKind.f64.format.order (wd64 s K) (wd64 t L) == some .gt) = decide (sK t L < sK s K) := by
  obtain ⟨a1, a2, a3, a4, a5⟩ := wd64_bw s K hK
  obtain ⟨b1, b2, b3, b4, b5⟩ := wd64_bw t L hL
  rw [a1, b1, B.gt_f64 s t _ _ _ _ a2 a3 b2 b3, a4, b4, a5, b5]
  simp
theorem lt64 (s t : Bool) (K L : Nat) (hK : K ≤ 9218868437227405312) (hL : L ≤ 9218868437227405312) : (FloatKind.f64.format.order (wd64 s K) (wd64 t L) == some .lt) = decide (sK s K < sK t L) := by
  obtain ⟨a1, a2, a3, a4, a5⟩ := wd64_bw s K hK
  obtain ⟨b1, b2, b3, b4, b5⟩ := wd64_bw t L hL
  rw [a1, b1, B.lt_f64 s t _ _ _ _ a2 a3 b2 b3, a4, b4, a5, b5]
  simp
theorem eq64 (s t : Bool) (K L : Nat) (hK : K ≤ 9218868437227405312) (hL : L ≤ 9218868437227405312) : (FloatKind.f64.format.order (wd64 s K) (wd64 t L) == some .eq) = decide (sK s K = sK t L) := by
  obtain ⟨a1, a2, a3, a4, a5⟩ := wd64_bw s K hK
  obtain ⟨b1, b2, b3, b4, b5⟩ := wd64_bw t L hL
  rw [a1, b1, B.eq_f64 s t _ _ _ _ a2 a3 b2 b3, a4, b4, a5, b5]
  simp

/-- What a form is rounded to: the sign, the word. -/
def rS (n : Bool) (X : Nat) : Bool := if X = 0 then false else n
def rW (mode : Int) (n : Bool) (X : Nat) (e : Int) : Nat := if X = 0 then 0 else rndK mode n X e
theorem rndS_form (mode : Int) (n : Bool) (X : Nat) (e : Int) (h0 : 0 ≤ mode) (h4 : mode ≤ 4) : rndS (some (n, X, e)) mode = (wd64 (rS n X) (rW mode n X e), 0) := by
  unfold rndS
  rw [if_neg (by omega)]
  simp only
  unfold rS rW wd64
  by_cases h : X = 0
  · rw [if_pos h, if_pos h, if_pos h]; rfl
  · rw [if_neg h, if_neg h, if_neg h]
theorem rW_le (mode : Int) (n : Bool) (X : Nat) (e : Int) (F : Frm n X e) : rW mode n X e ≤ 9218868437227405312 := by
  unfold rW
  split
  · omega
  · rename_i h
    have ho : X % 2 = 1 := by rcases F.odd with k | k; exact k; exact absurd k.1 h
    have L := lies X e ho F.down F.up (min e (-1074)) (by omega) (by omega)
    rw [rndK_eq]
    have := L.fin
    unfold rK
    split
    · omega
    · split <;> omega

theorem cmpZ_le {x y : Int} : cmpZ x y ≤ 0 ↔ x ≤ y := by
  unfold cmpZ
  by_cases h : x < y
  · rw [if_pos h]; omega
  · rw [if_neg h]
    by_cases h2 : y < x
    · rw [if_pos h2]; omega
    · rw [if_neg h2]; omega
theorem cmpZ_ge {x y : Int} : 0 ≤ cmpZ x y ↔ y ≤ x := by
  unfold cmpZ
  by_cases h : x < y
  · rw [if_pos h]; omega
  · rw [if_neg h]
    by_cases h2 : y < x
    · rw [if_pos h2]; omega
    · rw [if_neg h2]; omega

theorem frm_odd {n : Bool} {X : Nat} {e : Int} (F : Frm n X e) (h : X ≠ 0) : X % 2 = 1 := by rcases F.odd with k | k; exact k; exact absurd k.1 h

/-- What is not greater is not rounded to what is greater. -/
theorem near_mono (mode : Int) {n m : Bool} {X Y : Nat} {e f : Int} (FX : Frm n X e) (FY : Frm m Y f) (h : cmpV n X e m Y f ≤ 0) : sK (rS n X) (rW mode n X e) ≤ sK (rS m Y) (rW mode m Y f) := by
  obtain ⟨Bs, hB⟩ : ∃ B : Int, B ≤ -1074 ∧ B ≤ e ∧ B ≤ f := ⟨min (-1074) (min e f), by omega⟩
  obtain ⟨hB0, hBe, hBf⟩ := hB
  rw [cmpV_z n X e m Y f Bs hBe hBf, cmpZ_le] at h
  have pX : X ≠ 0 → 0 < X * 2 ^ (e - Bs).toNat := fun k => Nat.mul_pos (by omega) (Nat.two_pow_pos _)
  have pY : Y ≠ 0 → 0 < Y * 2 ^ (f - Bs).toNat := fun k => Nat.mul_pos (by omega) (Nat.two_pow_pos _)
  unfold rS rW sK
  by_cases hX : X = 0
  · rw [if_pos hX, if_pos hX]
    by_cases hY : Y = 0
    · rw [if_pos hY, if_pos hY]; simp
    · rw [if_neg hY, if_neg hY]
      have := pY hY
      rw [hX, Nat.zero_mul] at h
      generalize Y * 2 ^ (f - Bs).toNat = Q at h this
      cases m
      · simp
      · exfalso; simp [sg1] at h; omega
  · rw [if_neg hX, if_neg hX]
    have hp := pX hX
    by_cases hY : Y = 0
    · rw [if_pos hY, if_pos hY]
      rw [hY, Nat.zero_mul] at h
      generalize X * 2 ^ (e - Bs).toNat = P at h hp
      cases n
      · exfalso; simp [sg1] at h; omega
      · simp
    · rw [if_neg hY, if_neg hY]
      have hq := pY hY
      have L1 := lies X e (frm_odd FX hX) FX.down FX.up Bs hBe hB0
      have L2 := lies Y f (frm_odd FY hY) FY.down FY.up Bs hBf hB0
      rw [rndK_eq, rndK_eq]
      generalize X * 2 ^ (e - Bs).toNat = P at h hp L1
      generalize Y * 2 ^ (f - Bs).toNat = Q at h hq L2
      cases n <;> cases m
      · have := rK_mono mode false L1 L2 (by simp [sg1] at h; omega)
        simp; omega
      · exfalso; simp [sg1] at h; omega
      · first | (simp; done) | (simp; omega)
      · have := rK_mono mode true L2 L1 (by simp [sg1] at h; omega)
        simp; omega
/-- Toward nought as down, or as up. -/
theorem near_zero (n : Bool) (X : Nat) (e : Int) : rW 1 n X e = rW (if n then 2 else 3) n X e := by
  unfold rW
  split
  · rfl
  · rw [rndK_eq, rndK_eq]
    unfold rK
    have : ∀ K m, outS 1 K m n = outS (if n then 2 else 3) K m n := by intro K m; cases n <;> simp [outS]
    rw [this]
end Go.Proofs.YtfaaidnhmddibaaDoor

/- DyadNear: numbers' own values, how far apart. -/
namespace Go.Proofs.YtfaaidnhmddibaaDoor
open Go.RowKit
set_option linter.unusedVariables false
set_option maxRecDepth 20000

/-- What Of answers of a word. -/
def ofK (s : Bool) (K : Nat) : Option (Bool × Nat × Int) := ofR s (K / 4503599627370496) (K % 4503599627370496)
theorem ofK_val (s : Bool) (K : Nat) (hK : K < 9218868437227405312) : ∃ n X e, ofK s K = some (n, X, e) ∧ Frm n X e ∧ (X ≠ 0 → n = s) ∧ (X = 0 ↔ K = 0) ∧ ∀ Bs : Int, Bs ≤ -1074 → zv Bs (n, X, e) = sg1 s * ((vK K * 2 ^ (-1074 - Bs).toNat : Nat) : Int) := by
  obtain ⟨x, hx⟩ : ∃ x, K / 4503599627370496 = x := ⟨_, rfl⟩
  obtain ⟨f, hf⟩ : ∃ f, K % 4503599627370496 = f := ⟨_, rfl⟩
  have hxl : x < 2047 := by omega
  have hfl : f < 4503599627370496 := by omega
  obtain ⟨M, hM⟩ : ∃ M, (if x = 0 then f else f + 4503599627370496) = M := ⟨_, rfl⟩
  obtain ⟨E, hE⟩ : ∃ E : Int, (if x = 0 then (-1074 : Int) else (x : Int) - 1075) = E := ⟨_, rfl⟩
  have hME : (x = 0 ∧ M = f ∧ E = -1074) ∨ (x ≠ 0 ∧ M = f + 4503599627370496 ∧ E = (x : Int) - 1075) := by
    by_cases h : x = 0
    · rw [if_pos h] at hM hE; exact .inl ⟨h, hM.symm, hE.symm⟩
    · rw [if_neg h] at hM hE; exact .inr ⟨h, hM.symm, hE.symm⟩
  have hMl : M < 9007199254740992 := by omega
  have hO : ofK s K = mkS s M E := by unfold ofK ofR; rw [hx, hf, if_neg (by omega), hM, hE]
  have hsome : (mkS s M E).isSome = true := by
    unfold mkS
    split
    · rfl
    · rename_i h0
      have hb := bl_le53 M hMl
      obtain ⟨_, _, _, hbb⟩ := odd_part M h0
      rw [if_neg (by omega)]
      rfl
  obtain ⟨⟨n, X, e⟩, hz⟩ := Option.isSome_iff_exists.1 hsome
  have hKw : K = (E + 1074).toNat * 4503599627370496 + M := by rcases hME with h | h <;> omega
  have hv : vK K = M * 2 ^ (E + 1074).toNat := by
    rw [hKw]; exact vK_word _ _ (by rcases hME with h | h; left; omega; right; omega) (by omega)
  have hM0 : M = 0 ↔ K = 0 := by rcases hME with h | h <;> omega
  refine ⟨n, X, e, by rw [hO, hz], mkS_frm hz, ?_, ?_, ?_⟩
  · intro hX
    unfold mkS at hz
    split at hz
    · cases hz; exact absurd rfl hX
    · split at hz
      · cases hz
      · cases hz; rfl
  · rw [← hM0]
    constructor
    · intro hX
      unfold mkS at hz
      split at hz
      · assumption
      · rename_i h0
        split at hz
        · cases hz
        · obtain ⟨m, _, hd, _⟩ := odd_part M h0
          cases hz
          omega
    · intro h0
      unfold mkS at hz
      rw [if_pos h0] at hz
      cases hz; rfl
  · intro Bs hBs
    rw [zv_mkS hz Bs (.inr (by omega)), hv, Nat.mul_assoc, ← Nat.pow_add, show (E + 1074).toNat + (-1074 - Bs).toNat = (E - Bs).toNat by omega]

theorem frm_base {n : Bool} {X : Nat} {e : Int} (F : Frm n X e) : ∃ Bs : Int, Bs ≤ -1048576 ∧ Bs ≤ e := ⟨-1048576, by omega, F.down⟩

/-- The word's value against a form. -/
theorem cmp_word (s : Bool) (K : Nat) (hK : K < 9218868437227405312) {n : Bool} {X : Nat} {e : Int} (F : Frm n X e) (Bs : Int) (hB : Bs ≤ -1048576) :
    cmpV (dN (ofK s K)) (dX (ofK s K)) (dE (ofK s K)) n X e = cmpZ (sg1 s * ((vK K * 2 ^ (-1074 - Bs).toNat : Nat) : Int)) (sg1 n * ((X * 2 ^ (e - Bs).toNat : Nat) : Int)) := by
  obtain ⟨n', X', e', ho, F', _, _, hv⟩ := ofK_val s K hK
  rw [ho]
  show cmpV n' X' e' n X e = _
  have hd := F.down
  have hd' := F'.down
  rw [cmpV_z n' X' e' n X e Bs (by omega) (by omega), ← hv Bs (by omega)]
  rfl

theorem near_down {n : Bool} {X : Nat} {e : Int} (F : Frm n X e) (hK : rW 3 n X e < 9218868437227405312) : cmpV (dN (ofK (rS n X) (rW 3 n X e))) (dX (ofK (rS n X) (rW 3 n X e))) (dE (ofK (rS n X) (rW 3 n X e))) n X e ≤ 0 := by
  rw [cmp_word _ _ hK F (-1048576) (by omega), cmpZ_le]
  by_cases hX : X = 0
  · unfold rS rW
    rw [if_pos hX, if_pos hX, hX]
    rw [show vK 0 = 0 from B.val_zero _, Nat.zero_mul, Nat.zero_mul, Int.natCast_zero, Int.mul_zero, Int.mul_zero]
    exact Int.le_refl _
  · have L := lies X e (frm_odd F hX) F.down F.up (-1048576) F.down (by omega)
    unfold rS
    unfold rW at hK ⊢
    rw [if_neg hX] at hK ⊢
    rw [if_neg hX]
    rw [rndK_eq] at hK ⊢
    cases n
    · have := rK_inner 3 false L (by simp [outS])
      simp only [sg1, Bool.false_eq_true, if_false, Int.one_mul]
      exact Int.ofNat_le.2 this
    · have := rK_outer 3 true L (by simp [outS]) hK
      simp only [sg1, if_true]
      have := Int.ofNat_le.2 this
      omega
theorem near_up {n : Bool} {X : Nat} {e : Int} (F : Frm n X e) (hK : rW 2 n X e < 9218868437227405312) : 0 ≤ cmpV (dN (ofK (rS n X) (rW 2 n X e))) (dX (ofK (rS n X) (rW 2 n X e))) (dE (ofK (rS n X) (rW 2 n X e))) n X e := by
  rw [cmp_word _ _ hK F (-1048576) (by omega), cmpZ_ge]
  by_cases hX : X = 0
  · unfold rS rW
    rw [if_pos hX, if_pos hX, hX]
    rw [show vK 0 = 0 from B.val_zero _, Nat.zero_mul, Nat.zero_mul, Int.natCast_zero, Int.mul_zero, Int.mul_zero]
    exact Int.le_refl _
  · have L := lies X e (frm_odd F hX) F.down F.up (-1048576) F.down (by omega)
    unfold rS
    unfold rW at hK ⊢
    rw [if_neg hX] at hK ⊢
    rw [if_neg hX]
    rw [rndK_eq] at hK ⊢
    cases n
    · have := rK_outer 2 false L (by simp [outS]) hK
      simp only [sg1, Bool.false_eq_true, if_false, Int.one_mul]
      exact Int.ofNat_le.2 this
    · have := rK_inner 2 true L (by simp [outS])
      simp only [sg1, if_true]
      have := Int.ofNat_le.2 this
      omega

/-- How far apart: what the law's gap answers. -/
def gapO (o : Option (Bool × Nat × Int)) (n : Bool) (X : Nat) (e : Int) : Option (Bool × Nat × Int) := addD (rf o) (mkS (!n) X e)
def gapA (o : Option (Bool × Nat × Int)) (n : Bool) (X : Nat) (e : Int) : Option (Bool × Nat × Int) :=
  if sgn (dN (gapO o n X e)) (dX (gapO o n X e)) < 0 then mkS (!(dN (gapO o n X e))) (dX (gapO o n X e)) (dE (gapO o n X e)) else gapO o n X e

theorem gap_val (s : Bool) (K : Nat) (hK : K < 9218868437227405312) {n : Bool} {X : Nat} {e : Int} (F : Frm n X e) (h : (gapO (ofK s K) n X e).isSome = true) :
    Fv (-1048576) (gapA (ofK s K) n X e) (((sg1 s * ((vK K * 2 ^ (-1074 - -1048576 : Int).toNat : Nat) : Int) - sg1 n * ((X * 2 ^ (e - -1048576).toNat : Nat) : Int)).natAbs : Nat) : Int) := by
  obtain ⟨n', X', e', ho, F', _, _, hv⟩ := ofK_val s K hK
  have FO : Fv (-1048576) (ofK s K) (sg1 s * ((vK K * 2 ^ (-1074 - -1048576 : Int).toNat : Nat) : Int)) := ⟨n', X', e', ho, F', hv _ (by omega)⟩
  have FN : Fv (-1048576) (mkS (!n) X e) (-(sg1 n * ((X * 2 ^ (e - -1048576).toNat : Nat) : Int))) := Fv.neg F.down (by rw [mkS_idem F]; rfl)
  have FG := FO.rf.add (by omega) FN h
  generalize sg1 s * ((vK K * 2 ^ (-1074 - -1048576 : Int).toNat : Nat) : Int) = a at FG ⊢
  generalize sg1 n * ((X * 2 ^ (e - -1048576).toNat : Nat) : Int) = b at FG ⊢
  have FG' : Fv (-1048576) (gapO (ofK s K) n X e) (a + -b) := FG
  obtain ⟨gn, gX, ge, hg, FF, hgz⟩ := FG'.ex
  unfold gapA
  rw [hg]
  show Fv (-1048576) (if sgn gn gX < 0 then mkS (!gn) gX ge else some (gn, gX, ge)) _
  have hs := sgn_z gn gX ge (-1048576)
  rw [hgz] at hs
  by_cases hneg : sgn gn gX < 0
  · rw [if_pos hneg]
    have hlt : a + -b < 0 := by
      rw [hs] at hneg
      unfold cmpZ at hneg
      by_cases q : a + -b < 0
      · exact q
      · rw [if_neg q] at hneg
        split at hneg <;> omega
    have := Fv.neg (n := gn) (X := gX) (e := ge) FF.down (by rw [mkS_idem FF]; rfl)
    have hz2 : sg1 gn * ((gX * 2 ^ (ge - -1048576).toNat : Nat) : Int) = a + -b := hgz
    rw [hz2] at this
    rw [show (((a - b).natAbs : Nat) : Int) = -(a + -b) by omega]
    exact this
  · rw [if_neg hneg]
    have hge : 0 ≤ a + -b := by
      rw [hs] at hneg
      unfold cmpZ at hneg
      by_cases q : a + -b < 0
      · rw [if_pos q] at hneg; omega
      · omega
    rw [show (((a - b).natAbs : Nat) : Int) = a + -b by omega]
    exact ⟨gn, gX, ge, rfl, FF, hgz⟩

theorem cmp_Fv {o p : Option (Bool × Nat × Int)} {x y : Int} (h1 : Fv (-1048576) o x) (h2 : Fv (-1048576) p y) : cmpV (dN o) (dX o) (dE o) (dN p) (dX p) (dE p) = cmpZ x y := by
  obtain ⟨n, X, e, rfl, F, hx⟩ := h1.ex
  obtain ⟨m, Y, f, rfl, G, hy⟩ := h2.ex
  show cmpV n X e m Y f = _
  rw [cmpV_z n X e m Y f (-1048576) F.down G.down, ← hx, ← hy]
  rfl

theorem near_near (mode : Int) (hmode : mode = 0 ∨ mode = 4) {n : Bool} {X : Nat} {e : Int} (F : Frm n X e) (hK : rW mode n X e < 9218868437227405312) (s : Bool) (L : Nat) (hL : L < 9218868437227405312)
    (h1 : (gapO (ofK s L) n X e).isSome = true) (h2 : (gapO (ofK (rS n X) (rW mode n X e)) n X e).isSome = true) :
    0 ≤ cmpV (dN (gapA (ofK s L) n X e)) (dX (gapA (ofK s L) n X e)) (dE (gapA (ofK s L) n X e)) (dN (gapA (ofK (rS n X) (rW mode n X e)) n X e)) (dX (gapA (ofK (rS n X) (rW mode n X e)) n X e)) (dE (gapA (ofK (rS n X) (rW mode n X e)) n X e)) := by
  rw [cmp_Fv (gap_val s L hL F h1) (gap_val _ _ hK F h2), cmpZ_ge]
  apply Int.ofNat_le.2
  by_cases hX : X = 0
  · unfold rS rW
    rw [if_pos hX, if_pos hX, hX]
    rw [show vK 0 = 0 from B.val_zero _, Nat.zero_mul, Nat.zero_mul, Int.natCast_zero, Int.mul_zero, Int.mul_zero]
    exact Nat.zero_le _
  · have Ls := lies X e (frm_odd F hX) F.down F.up (-1048576) F.down (by omega)
    unfold rS
    unfold rW at hK ⊢
    rw [if_neg hX] at hK ⊢
    rw [if_neg hX]
    rw [rndK_eq] at hK ⊢
    have k1 := rK_near mode n hmode Ls hK L
    have k0 := rK_near mode n hmode Ls hK 0
    rw [show vK 0 = 0 from B.val_zero _, Nat.zero_mul] at k0
    generalize vK (rK mode n (flK X e) (plc 53 (-1074) 1024 X e).2.2.1 (plc 53 (-1074) 1024 X e).2.2.2) * 2 ^ (-1074 - -1048576 : Int).toNat = A at k1 k0 ⊢
    generalize vK L * 2 ^ (-1074 - -1048576 : Int).toNat = C at k1 ⊢
    generalize X * 2 ^ (e - -1048576).toNat = V at k1 k0 ⊢
    cases n <;> cases s <;> simp only [sg1, Bool.false_eq_true, if_true, if_false] <;> omega

theorem near_own (mode : Int) (s : Bool) (L : Nat) (hL : L < 9218868437227405312) {n : Bool} {X : Nat} {e : Int} (ho : ofK s L = some (n, X, e)) : sK (rS n X) (rW mode n X e) = sK s L := by
  obtain ⟨n', X', e', ho', F, hn, h0, hv⟩ := ofK_val s L hL
  rw [ho] at ho'
  cases ho'
  unfold rS rW
  by_cases hX : X = 0
  · rw [if_pos hX, if_pos hX, h0.1 hX]
    unfold sK
    cases s <;> simp
  · rw [if_neg hX, if_neg hX, hn hX]
    have Ls := lies X e (frm_odd F hX) F.down F.up (-1048576) F.down (by omega)
    have hz := hv (-1048576) (by omega)
    unfold zv at hz
    simp only at hz
    rw [hn hX] at hz
    have hV : X * 2 ^ (e - -1048576).toNat = vK L * 2 ^ (-1074 - -1048576 : Int).toNat := by
      generalize X * 2 ^ (e - -1048576).toNat = P at hz ⊢
      generalize vK L * 2 ^ (-1074 - -1048576 : Int).toNat = Q at hz ⊢
      cases s <;> (simp only [sg1, Bool.false_eq_true, if_true, if_false] at hz; omega)
    rw [rndK_eq, rK_own mode s Ls L hL hV]
end Go.Proofs.YtfaaidnhmddibaaDoor

