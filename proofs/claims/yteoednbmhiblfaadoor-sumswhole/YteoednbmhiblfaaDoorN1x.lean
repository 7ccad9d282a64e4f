/- Where a value lies among the numbers of 64 bits: plain mathematics of rounding. -/
import Derived.Test.YteoednbmhiblfaaDoorD24x
import Derived.Laws.Bits64
import Derived.Laws.Bits64b
import Derived.Deep.Cut
import Derived.Deep.RegionHeld3
import Derived.Test.YteoednbmhiblfaaDoorD7x
import Derived.BigQuiet
import Derived.Test.YteoednbmhiblfaaDoorBW0x
import Derived.Deep.CutRange
import Derived.Test.YteoednbmhiblfaaDoorM1x
import Derived.Test.YteoednbmhiblfaaDoorW10x
namespace Go.Proofs.YteoednbmhiblfaaDoor
open Go.RowKit
set_option linter.unusedVariables false
set_option maxRecDepth 20000

/-- How the place of a value stands to it (units of 2^Bs). -/
theorem plc_floor (dg : Nat) (least top : Int) (X : Nat) (e : Int) (ho : X % 2 = 1) (Bs : Int) (h1 : Bs ≤ e) (h2 : Bs ≤ least) (hin : ¬ top < e + (bl X : Int)) :
    Bs ≤ (plc dg least top X e).2.1 ∧
    (((plc dg least top X e).2.2.1 = true ∧ X * 2 ^ (e - Bs).toNat = (plc dg least top X e).1 * 2 ^ ((plc dg least top X e).2.1 - Bs).toNat) ∨
     ((plc dg least top X e).2.2.1 = false ∧ (plc dg least top X e).1 * 2 ^ ((plc dg least top X e).2.1 - Bs).toNat < X * 2 ^ (e - Bs).toNat ∧ X * 2 ^ (e - Bs).toNat < ((plc dg least top X e).1 + 1) * 2 ^ ((plc dg least top X e).2.1 - Bs).toNat ∧
      ((plc dg least top X e).2.2.2 = -1 ∧ 2 * (X * 2 ^ (e - Bs).toNat) < (2 * (plc dg least top X e).1 + 1) * 2 ^ ((plc dg least top X e).2.1 - Bs).toNat ∨
       (plc dg least top X e).2.2.2 = 0 ∧ 2 * (X * 2 ^ (e - Bs).toNat) = (2 * (plc dg least top X e).1 + 1) * 2 ^ ((plc dg least top X e).2.1 - Bs).toNat ∨
       (plc dg least top X e).2.2.2 = 1 ∧ (2 * (plc dg least top X e).1 + 1) * 2 ^ ((plc dg least top X e).2.1 - Bs).toNat < 2 * (X * 2 ^ (e - Bs).toNat)))) := by
  unfold plc
  rw [if_neg hin]
  simp only
  obtain ⟨ex, hex⟩ : ∃ ex, max (e + (bl X : Int) - (dg : Int)) least = ex := ⟨_, rfl⟩
  rw [hex]
  have hle : least ≤ ex := by omega
  by_cases hoff : ex - e ≤ 0
  · rw [if_pos hoff]
    simp only
    refine ⟨by omega, .inl ⟨trivial, ?_⟩⟩
    rw [Nat.mul_assoc, ← Nat.pow_add, show (-(ex - e)).toNat + (ex - Bs).toNat = (e - Bs).toNat by omega]
  · rw [if_neg hoff]
    simp only
    obtain ⟨k, hk⟩ : ∃ k : Nat, (ex - e).toNat = k := ⟨_, rfl⟩
    have hk0 : 0 < k := by omega
    have hexB : (ex - Bs).toNat = k + (e - Bs).toNat := by omega
    have hk1 : (ex - e - 1).toNat = k - 1 := by omega
    rw [hk, hexB, hk1, Nat.pow_add]
    obtain ⟨Q, hQ⟩ : ∃ Q, 2 ^ (e - Bs).toNat = Q := ⟨_, rfl⟩
    have hQ0 : 0 < Q := by rw [← hQ]; exact Nat.two_pow_pos _
    rw [hQ]
    have hdm := Nat.div_add_mod X (2 ^ k)
    have hmod := Nat.mod_lt X (Nat.two_pow_pos k)
    obtain ⟨F, hF⟩ : ∃ F, X / 2 ^ k = F := ⟨_, rfl⟩
    obtain ⟨R, hR⟩ : ∃ R, X % 2 ^ k = R := ⟨_, rfl⟩
    have hhalf : 2 ^ k = 2 * 2 ^ (k - 1) := by rw [show k = k - 1 + 1 by omega, Nat.pow_succ, Nat.mul_comm]; rfl
    have hbit : X / 2 ^ (k - 1) % 2 = R / 2 ^ (k - 1) := by
      rw [← hR, hhalf]
      rw [Nat.mul_comm 2, Nat.mod_mul_right_div_self]
    obtain ⟨Hf, hHf⟩ : ∃ Hf, 2 ^ (k - 1) = Hf := ⟨_, rfl⟩
    have hHf0 : 0 < Hf := by rw [← hHf]; exact Nat.two_pow_pos _
    rw [hHf] at hhalf hbit ⊢
    rw [hbit]
    rw [hhalf] at hdm hmod hF hR ⊢
    rw [hF, hR] at hdm
    rw [hR] at hmod
    rw [hF]
    have hR0 : R ≠ 0 := by
      intro h
      rw [h, Nat.add_zero, Nat.mul_assoc] at hdm
      omega
    have e1 : F * (2 * Hf * Q) = (F * (2 * Hf)) * Q := (Nat.mul_assoc _ _ _).symm
    have e2 : (F + 1) * (2 * Hf * Q) = ((F + 1) * (2 * Hf)) * Q := (Nat.mul_assoc _ _ _).symm
    have e3 : (2 * F + 1) * (2 * Hf * Q) = (2 * (F * (2 * Hf)) + 2 * Hf) * Q := by
      rw [Nat.add_mul, Nat.add_mul, Nat.one_mul, Nat.mul_assoc 2 F, ← Nat.mul_assoc F, Nat.mul_assoc 2 (F * (2 * Hf)) Q]
    have e4 : 2 * (X * Q) = (2 * X) * Q := by rw [Nat.mul_assoc]
    have e5 : 2 * Hf * F = F * (2 * Hf) := Nat.mul_comm _ _
    rw [e5] at hdm
    have e6 : (F + 1) * (2 * Hf) = F * (2 * Hf) + 2 * Hf := by rw [Nat.add_mul, Nat.one_mul]
    rw [e1, e2, e3, e4, e6]
    generalize F * (2 * Hf) = G at hdm ⊢
    refine ⟨by omega, .inr ⟨trivial, Nat.mul_lt_mul_of_pos_right (by omega) hQ0, Nat.mul_lt_mul_of_pos_right (by omega) hQ0, ?_⟩⟩
    by_cases hone : ex - e = 1
    · rw [if_pos hone]
      have hk1' : k = 1 := by omega
      have hHf1 : Hf = 1 := by rw [← hHf, hk1']
      refine .inr (.inl ⟨rfl, ?_⟩)
      congr 1
      omega
    · rw [if_neg hone]
      have hHf2 : Hf % 2 = 0 := by
        rw [← hHf, show k - 1 = k - 2 + 1 by omega, Nat.pow_succ]; omega
      have hRodd : R % 2 = 1 := by
        have : G % 2 = 0 ∨ True := .inr trivial
        rw [← hR]
        rw [Nat.mod_mul_right_mod]
        exact ho
      by_cases hge : Hf ≤ R
      · have hd1 : R / Hf = 1 := by
          rw [Nat.div_eq_iff hHf0]; omega
        rw [hd1, if_pos rfl]
        refine .inr (.inr ⟨rfl, Nat.mul_lt_mul_of_pos_right ?_ hQ0⟩)
        have : R ≠ Hf := by intro h; rw [h] at hRodd; omega
        omega
      · have hd0 : R / Hf = 0 := Nat.div_eq_of_lt (by omega)
        rw [hd0, if_neg (by omega)]
        exact .inl ⟨rfl, Nat.mul_lt_mul_of_pos_right (by omega) hQ0⟩

/-- The greatest finite word that is not above a value, and the word after it. -/
def flK (X : Nat) (e : Int) : Nat := ((plc 53 (-1074) 1024 X e).2.1 + 1074).toNat * 4503599627370496 + (plc 53 (-1074) 1024 X e).1
/-- A word's value. -/
abbrev vK (K : Nat) : Nat := B.val Ieee.double K
theorem vK_lt {K L : Nat} : vK K < vK L ↔ K < L := B.val_lt_iff Ieee.double
theorem vK_word (j F : Nat) (h : j = 0 ∨ 4503599627370496 ≤ F) (hF : F ≤ 9007199254740992) : vK (j * 4503599627370496 + F) = F * 2 ^ j := by
  have := B.val_at Ieee.double j F (by rw [B.dBin]; exact h) (by rw [B.dBin]; omega)
  rw [B.dBin] at this
  exact this

/-- Where a value lies: at a word, or between it and the next one; how it stands to their middle. V: the value, S: what the words' unit is. -/
structure Lies (K : Nat) (at' : Bool) (mid : Int) (V S : Nat) : Prop where
  fin : K < 9218868437227405312
  pos : 0 < S
  one : at' = true → V = vK K * S
  low : at' = false → vK K * S < V
  mids : at' = false → V < vK (K + 1) * S → (mid = -1 ∧ 2 * V < vK K * S + vK (K + 1) * S ∨ mid = 0 ∧ 2 * V = vK K * S + vK (K + 1) * S ∨ mid = 1 ∧ vK K * S + vK (K + 1) * S < 2 * V)
  high : at' = false → V < vK (K + 1) * S ∨ (K = 9218868437227405311 ∧ mid = 1)

theorem lies (X : Nat) (e : Int) (hX : X % 2 = 1) (he0 : -1048576 ≤ e) (he1 : e ≤ 1048576) (Bs : Int) (h1 : Bs ≤ e) (h2 : Bs ≤ -1074) :
    Lies (flK X e) (plc 53 (-1074) 1024 X e).2.2.1 (plc 53 (-1074) 1024 X e).2.2.2 (X * 2 ^ (e - Bs).toNat) (2 ^ (-1074 - Bs).toNat) := by
  have hX0 : X ≠ 0 := by omega
  obtain ⟨f1, f2, f3, f4⟩ := plc_facts X e hX0 he0 he1
  obtain ⟨j, hj⟩ : ∃ j : Nat, ((plc 53 (-1074) 1024 X e).2.1 + 1074).toNat = j := ⟨_, rfl⟩
  have hS : 0 < 2 ^ (-1074 - Bs).toNat := Nat.two_pow_pos _
  have hw : ∀ F, F ≤ 9007199254740992 → (j = 0 ∨ 4503599627370496 ≤ F) → vK (j * 4503599627370496 + F) * 2 ^ (-1074 - Bs).toNat = F * 2 ^ ((plc 53 (-1074) 1024 X e).2.1 - Bs).toNat := by
    intro F hF hn
    rw [vK_word j F hn hF, Nat.mul_assoc, ← Nat.pow_add]
    congr 2
    omega
  have hn1 : j = 0 ∨ 4503599627370496 ≤ (plc 53 (-1074) 1024 X e).1 := by
    rcases f4 with h | h
    · left; omega
    · exact .inr h
  have w1 := hw (plc 53 (-1074) 1024 X e).1 (by omega) hn1
  have w2 := hw ((plc 53 (-1074) 1024 X e).1 + 1) (by omega) (by rcases hn1 with h | h; exact .inl h; exact .inr (by omega))
  have hflK : flK X e = j * 4503599627370496 + (plc 53 (-1074) 1024 X e).1 := by unfold flK; rw [hj]
  have hflK1 : flK X e + 1 = j * 4503599627370496 + ((plc 53 (-1074) 1024 X e).1 + 1) := by rw [hflK]; omega
  have hfin : flK X e < 9218868437227405312 := by rw [hflK]; omega
  rw [← hflK] at w1
  rw [← hflK1] at w2
  by_cases hin : 1024 < e + (bl X : Int)
  · have hp : plc 53 (-1074) 1024 X e = ((2 ^ 53 - 1 : Nat), ((1024 : Int) - ((53 : Nat) : Int)), false, (1 : Int)) := by unfold plc; rw [if_pos hin]
    have hK : flK X e = 9218868437227405311 := by unfold flK; rw [hp]; rfl
    refine ⟨hfin, hS, fun h => (by rw [hp] at h; cases h), fun _ => ?_, fun _ hlt => ?_, fun _ => .inr ⟨hK, (by rw [hp])⟩⟩
    · rw [w1]
      have hlow : (2 ^ 53 - 1) * 2 ^ (971 - Bs).toNat < 2 ^ 53 * 2 ^ (971 - Bs).toNat := Nat.mul_lt_mul_of_pos_right (by decide) (Nat.two_pow_pos _)
      have hup : 2 ^ 53 * 2 ^ (971 - Bs).toNat ≤ X * 2 ^ (e - Bs).toNat := by
        have hb := bl_ge X hX0
        have hbp := bl_pos X hX0
        refine Nat.le_trans ?_ (Nat.mul_le_mul_right _ hb)
        rw [← Nat.pow_add, ← Nat.pow_add]
        exact Nat.pow_le_pow_right (by omega) (by omega)
      rw [hp]
      exact Nat.lt_of_lt_of_le hlow hup
    · exfalso
      rw [w2, hp] at hlt
      have hup : 2 ^ 53 * 2 ^ (971 - Bs).toNat ≤ X * 2 ^ (e - Bs).toNat := by
        have hb := bl_ge X hX0
        have hbp := bl_pos X hX0
        refine Nat.le_trans ?_ (Nat.mul_le_mul_right _ hb)
        rw [← Nat.pow_add, ← Nat.pow_add]
        exact Nat.pow_le_pow_right (by omega) (by omega)
      exact absurd hlt (Nat.not_lt.2 hup)
  · obtain ⟨_, hfl⟩ := plc_floor 53 (-1074) 1024 X e hX Bs h1 h2 hin
    have hmid : vK (flK X e) * 2 ^ (-1074 - Bs).toNat + vK (flK X e + 1) * 2 ^ (-1074 - Bs).toNat = (2 * (plc 53 (-1074) 1024 X e).1 + 1) * 2 ^ ((plc 53 (-1074) 1024 X e).2.1 - Bs).toNat := by
      rw [w1, w2, ← Nat.add_mul]; congr 1; omega
    rcases hfl with ⟨ht, hv⟩ | ⟨hf, hlo, hhi, hm⟩
    · exact ⟨hfin, hS, fun _ => (by rw [w1]; exact hv), fun h => (by rw [ht] at h; cases h), fun h => (by rw [ht] at h; cases h), fun h => (by rw [ht] at h; cases h)⟩
    · refine ⟨hfin, hS, fun h => (by rw [hf] at h; cases h), fun _ => (by rw [w1]; exact hlo), fun _ _ => (by rw [hmid]; exact hm), fun _ => .inl (by rw [w2]; exact hhi)⟩
end Go.Proofs.YteoednbmhiblfaaDoor

/- Rounding: what is not greater is not rounded to what is greater; neighbours; the nearest. -/
namespace Go.Proofs.YteoednbmhiblfaaDoor
open Go.RowKit
set_option linter.unusedVariables false
set_option maxRecDepth 20000

theorem vS_le {K L S : Nat} (h : K ≤ L) : vK K * S ≤ vK L * S := by
  rcases Nat.lt_or_ge K L with k | k
  · exact Nat.mul_le_mul_right _ (Nat.le_of_lt (vK_lt.2 k))
  · rw [show K = L by omega]; exact Nat.le_refl _
theorem vS_lt {K L S : Nat} (hS : 0 < S) (h : K < L) : vK K * S < vK L * S := Nat.mul_lt_mul_of_pos_right (vK_lt.2 h) hS
theorem Lies.ge {K : Nat} {t : Bool} {m : Int} {V S : Nat} (h : Lies K t m V S) : vK K * S ≤ V := by
  cases ht : t
  · exact Nat.le_of_lt (h.low ht)
  · rw [h.one ht]; exact Nat.le_refl _

/-- The word that is answered. -/
def rK (mode : Int) (n : Bool) (K : Nat) (t : Bool) (m : Int) : Nat := if t then K else if outS mode K m n then K + 1 else K
theorem outS_par (mode : Int) (j F : Nat) (m : Int) (n : Bool) : outS mode (j * 4503599627370496 + F) m n = outS mode F m n := by
  unfold outS
  rw [show (j * 4503599627370496 + F) % 2 = F % 2 by omega]
theorem rndK_eq (mode : Int) (n : Bool) (X : Nat) (e : Int) : rndK mode n X e = rK mode n (flK X e) (plc 53 (-1074) 1024 X e).2.2.1 (plc 53 (-1074) 1024 X e).2.2.2 := by
  unfold rndK rK flK
  simp only
  rw [outS_par]
  split
  · rfl
  · split <;> omega

/-- A word's own value is answered as that word. -/
theorem rK_own (mode : Int) (n : Bool) {K : Nat} {t : Bool} {m : Int} {V S : Nat} (h : Lies K t m V S) (L : Nat) (hL : L < 9218868437227405312) (hV : V = vK L * S) : rK mode n K t m = L := by
  have hKL : K ≤ L := by
    rcases Nat.lt_or_ge L K with k | k
    · exfalso
      have a1 := h.ge
      have a2 := vS_lt h.pos k
      omega
    · exact k
  by_cases ht : t = true
  · have : vK K = vK L := Nat.eq_of_mul_eq_mul_right h.pos (by rw [← hV, h.one ht])
    unfold rK
    rw [if_pos ht]
    exact B.val_inj Ieee.double this
  · exfalso
    have htf : t = false := by simpa using ht
    have a1 := h.low htf
    have hlt : K < L := by
      rcases Nat.lt_or_ge K L with k | k
      · exact k
      · have : K = L := by omega
        rw [this] at a1
        omega
    rcases h.high htf with q | ⟨q, _⟩
    · have a2 : vK (K + 1) * S ≤ vK L * S := vS_le (by omega)
      omega
    · omega
end Go.Proofs.YteoednbmhiblfaaDoor

/- DyadNear: the plain mathematics of what it asks. -/
namespace Go.Proofs.YteoednbmhiblfaaDoor
open Go.RowKit
set_option linter.unusedVariables false
set_option maxRecDepth 20000

/-- A word with its sign. -/
def wd64 (s : Bool) (K : Nat) : Nat := K + (if s then 9223372036854775808 else 0)
/-- A word's signed place. -/
def sK (s : Bool) (K : Nat) : Int := if s then -(K : Int) else K
theorem wd64_bw (s : Bool) (K : Nat) (h : K ≤ 9218868437227405312) : wd64 s K = B.bw s (K / 4503599627370496) (K % 4503599627370496) ∧ K / 4503599627370496 < 2048 ∧ K % 4503599627370496 < 4503599627370496 ∧ B.odd (K / 4503599627370496) (K % 4503599627370496) = false ∧ B.pl s (K / 4503599627370496) (K % 4503599627370496) = sK s K := by
  refine ⟨?_, by omega, by omega, ?_, ?_⟩
  · unfold wd64 B.bw
    cases s
    · simp; omega
    · simp; omega
  · unfold B.odd
    simp
    omega
  · unfold B.pl B.sg sK
    rw [show K / 4503599627370496 * 4503599627370496 + K % 4503599627370496 = K by omega]
theorem gt64 (s t : Bool) (K L : Nat) (hK : K ≤ 9218868437227405312) (hL : L ≤ 9218868437227405312) : (FloatKind.f64.format.order (wd64 s K) (wd64 t L) == some .gt) = decide (sK t L < sK s K) := by
  obtain ⟨a1, a2, a3, a4, a5⟩ := wd64_bw s K hK
  obtain ⟨b1, b2, b3, b4, b5⟩ := wd64_bw t L hL
  rw [a1, b1, B.gt_f64 s t _ _ _ _ a2 a3 b2 b3, a4, b4, a5, b5]
  simp
theorem lt64 (s t : Bool) (K L : Nat) (hK : K ≤ 9218868437227405312) (hL : L ≤ 9218868437227405312) : (FloatKind.f64.format.order (wd64 s K) (wd64 t L) == some .lt) = decide (sK s K < sK t L) := by
  obtain ⟨a1, a2, a3, a4, a5⟩ := wd64_bw s K hK
  obtain ⟨b1, b2, b3, b4, b5⟩ := wd64_bw t L hL
  rw [a1, b1, B.lt_f64 s t _ _ _ _ a2 a3 b2 b3, a4, b4, a5, b5]
  simp
theorem eq64 (s t : Bool) (K L : Nat) (hK : K ≤ 9218868437227405312) (hL : L ≤ 9218868437227405312) : (FloatKind.f64.format.order (wd64 s K) (wd64 t L) == some .eq) = decide (sK s K = sK t L) := by
  obtain ⟨a1, a2, a3, a4, a5⟩ := wd64_bw s K hK
  obtain ⟨b1, b2, b3, b4, b5⟩ := wd64_bw t L hL
  rw [a1, b1, B.eq_f64 s t _ _ _ _ a2 a3 b2 b3, a4, b4, a5, b5]
  simp

/-- What a form is rounded to: the sign, the word. -/
def rS (n : Bool) (X : Nat) : Bool := if X = 0 then false else n
def rW (mode : Int) (n : Bool) (X : Nat) (e : Int) : Nat := if X = 0 then 0 else rndK mode n X e
theorem rndS_form (mode : Int) (n : Bool) (X : Nat) (e : Int) (h0 : 0 ≤ mode) (h4 : mode ≤ 4) : rndS (some (n, X, e)) mode = (wd64 (rS n X) (rW mode n X e), 0) := by
  unfold rndS
  rw [if_neg (by omega)]
  simp only
  unfold rS rW wd64
  by_cases h : X = 0
  · rw [if_pos h, if_pos h, if_pos h]; rfl
  · rw [if_neg h, if_neg h, if_neg h]
theorem rW_le (mode : Int) (n : Bool) (X : Nat) (e : Int) (F : Frm n X e) : rW mode n X e ≤ 9218868437227405312 := by
  unfold rW
  split
  · omega
  · rename_i h
    have ho : X % 2 = 1 := by rcases F.odd with k | k; exact k; exact absurd k.1 h
    have L := lies X e ho F.down F.up (min e (-1074)) (by omega) (by omega)
    rw [rndK_eq]
    have := L.fin
    unfold rK
    split
    · omega
    · split <;> omega

theorem frm_odd {n : Bool} {X : Nat} {e : Int} (F : Frm n X e) (h : X ≠ 0) : X % 2 = 1 := by rcases F.odd with k | k; exact k; exact absurd k.1 h

end Go.Proofs.YteoednbmhiblfaaDoor

/- The document's small functions on a number's bits. -/
namespace Go.Proofs.YteoednbmhiblfaaDoor
open Go.RowKit
set_option linter.unusedVariables false
set_option maxRecDepth 20000
set_option linter.unusedSimpArgs false
attribute [local go_sem] B.f64bits B.f64frombits st_float
/-- A word without its sign; is there a sign; the sign turned. -/
def magW (x : Nat) : Nat := x % 9223372036854775808
def negW (x : Nat) : Bool := decide (9223372036854775808 ≤ x)
def turnW (x : Nat) : Nat := if 9223372036854775808 ≤ x then x - 9223372036854775808 else x + 9223372036854775808

end Go.Proofs.YteoednbmhiblfaaDoor

/- DyadNear: numbers' own values, how far apart. -/
namespace Go.Proofs.YteoednbmhiblfaaDoor
open Go.RowKit
set_option linter.unusedVariables false
set_option maxRecDepth 20000

/-- What Of answers of a word. -/
def ofK (s : Bool) (K : Nat) : Option (Bool × Nat × Int) := ofR s (K / 4503599627370496) (K % 4503599627370496)
theorem ofK_val (s : Bool) (K : Nat) (hK : K < 9218868437227405312) : ∃ n X e, ofK s K = some (n, X, e) ∧ Frm n X e ∧ (X ≠ 0 → n = s) ∧ (X = 0 ↔ K = 0) ∧ ∀ Bs : Int, Bs ≤ -1074 → zv Bs (n, X, e) = sg1 s * ((vK K * 2 ^ (-1074 - Bs).toNat : Nat) : Int) := by
  obtain ⟨x, hx⟩ : ∃ x, K / 4503599627370496 = x := ⟨_, rfl⟩
  obtain ⟨f, hf⟩ : ∃ f, K % 4503599627370496 = f := ⟨_, rfl⟩
  have hxl : x < 2047 := by omega
  have hfl : f < 4503599627370496 := by omega
  obtain ⟨M, hM⟩ : ∃ M, (if x = 0 then f else f + 4503599627370496) = M := ⟨_, rfl⟩
  obtain ⟨E, hE⟩ : ∃ E : Int, (if x = 0 then (-1074 : Int) else (x : Int) - 1075) = E := ⟨_, rfl⟩
  have hME : (x = 0 ∧ M = f ∧ E = -1074) ∨ (x ≠ 0 ∧ M = f + 4503599627370496 ∧ E = (x : Int) - 1075) := by
    by_cases h : x = 0
    · rw [if_pos h] at hM hE; exact .inl ⟨h, hM.symm, hE.symm⟩
    · rw [if_neg h] at hM hE; exact .inr ⟨h, hM.symm, hE.symm⟩
  have hMl : M < 9007199254740992 := by omega
  have hO : ofK s K = mkS s M E := by unfold ofK ofR; rw [hx, hf, if_neg (by omega), hM, hE]
  have hsome : (mkS s M E).isSome = true := by
    unfold mkS
    split
    · rfl
    · rename_i h0
      have hb := bl_le53 M hMl
      obtain ⟨_, _, _, hbb⟩ := odd_part M h0
      rw [if_neg (by omega)]
      rfl
  obtain ⟨⟨n, X, e⟩, hz⟩ := Option.isSome_iff_exists.1 hsome
  have hKw : K = (E + 1074).toNat * 4503599627370496 + M := by rcases hME with h | h <;> omega
  have hv : vK K = M * 2 ^ (E + 1074).toNat := by
    rw [hKw]; exact vK_word _ _ (by rcases hME with h | h; left; omega; right; omega) (by omega)
  have hM0 : M = 0 ↔ K = 0 := by rcases hME with h | h <;> omega
  refine ⟨n, X, e, by rw [hO, hz], mkS_frm hz, ?_, ?_, ?_⟩
  · intro hX
    unfold mkS at hz
    split at hz
    · cases hz; exact absurd rfl hX
    · split at hz
      · cases hz
      · cases hz; rfl
  · rw [← hM0]
    constructor
    · intro hX
      unfold mkS at hz
      split at hz
      · assumption
      · rename_i h0
        split at hz
        · cases hz
        · obtain ⟨m, _, hd, _⟩ := odd_part M h0
          cases hz
          omega
    · intro h0
      unfold mkS at hz
      rw [if_pos h0] at hz
      cases hz; rfl
  · intro Bs hBs
    rw [zv_mkS hz Bs (.inr (by omega)), hv, Nat.mul_assoc, ← Nat.pow_add, show (E + 1074).toNat + (-1074 - Bs).toNat = (E - Bs).toNat by omega]

theorem near_own (mode : Int) (s : Bool) (L : Nat) (hL : L < 9218868437227405312) {n : Bool} {X : Nat} {e : Int} (ho : ofK s L = some (n, X, e)) : sK (rS n X) (rW mode n X e) = sK s L := by
  obtain ⟨n', X', e', ho', F, hn, h0, hv⟩ := ofK_val s L hL
  rw [ho] at ho'
  cases ho'
  unfold rS rW
  by_cases hX : X = 0
  · rw [if_pos hX, if_pos hX, h0.1 hX]
    unfold sK
    cases s <;> simp
  · rw [if_neg hX, if_neg hX, hn hX]
    have Ls := lies X e (frm_odd F hX) F.down F.up (-1048576) F.down (by omega)
    have hz := hv (-1048576) (by omega)
    unfold zv at hz
    simp only at hz
    rw [hn hX] at hz
    have hV : X * 2 ^ (e - -1048576).toNat = vK L * 2 ^ (-1074 - -1048576 : Int).toNat := by
      generalize X * 2 ^ (e - -1048576).toNat = P at hz ⊢
      generalize vK L * 2 ^ (-1074 - -1048576 : Int).toNat = Q at hz ⊢
      cases s <;> (simp only [sg1, Bool.false_eq_true, if_true, if_false] at hz; omega)
    rw [rndK_eq, rK_own mode s Ls L hL hV]
end Go.Proofs.YteoednbmhiblfaaDoor

/- What the model's sums and products are, by words; what the document's forms are rounded to: the same word. -/
namespace Go.Proofs.YteoednbmhiblfaaDoor
open Go.RowKit J
set_option linter.unusedVariables false
set_option maxRecDepth 20000

theorem wd_word (s : Bool) (K : Nat) : wd64 s K = Ieee.double.word s K := by
  unfold wd64
  have e : Ieee.double.word s K = (if s then 9223372036854775808 + K else K) := rfl
  rw [e]
  cases s <;> simp; omega
theorem hInf : Ieee.double.infRung < Ieee.double.signWeight := by rw [B.dInf, B.dSign]; omega
theorem hBin : Ieee.double.binade ≤ Ieee.double.infRung := by rw [B.dInf, B.dBin]; omega
theorem wd_of (x : Nat) (h : x < 18446744073709551616) : x = wd64 (negW x) (magW x) := by
  unfold wd64 negW magW
  by_cases hx : 9223372036854775808 ≤ x
  · rw [decide_eq_true hx, if_pos rfl]; omega
  · rw [decide_eq_false hx, if_neg (by simp)]; omega
theorem magW_wd (s : Bool) (K : Nat) (h : K < 9223372036854775808) : magW (wd64 s K) = K ∧ negW (wd64 s K) = s ∧ wd64 s K < 18446744073709551616 := by
  unfold magW negW wd64
  cases s <;> simp <;> omega

/-- The model's sum of two finite numbers. -/
theorem add_wd (s t : Bool) (K L : Nat) (hK : K < 9218868437227405312) (hL : L < 9218868437227405312) :
    ∃ R, NE R (B.sg s (vK K) + B.sg t (vK L)).natAbs 1 ∧ Ieee.double.add (wd64 s K) (wd64 t L) = some (wd64 (if B.sg s (vK K) + B.sg t (vK L) = 0 then s && t else decide (B.sg s (vK K) + B.sg t (vK L) < 0)) (min R 9218868437227405312)) := by
  obtain ⟨m, j, e1, v1⟩ := B.read_word Ieee.double s K (by rw [B.dInf]; exact hK) hInf
  obtain ⟨n, k, e2, v2⟩ := B.read_word Ieee.double t L (by rw [B.dInf]; exact hL) hInf
  obtain ⟨mag, c, es, ev⟩ := B.sum_num s t m n j k Ieee.double.leastPlace
  rw [v1, v2] at es ev
  rw [wd_word, wd_word]
  unfold Ieee.Format.add
  rw [e1, e2, es]
  show ∃ R, NE R (B.sg s (vK K) + B.sg t (vK L)).natAbs 1 ∧ some (Ieee.double.nearest _ mag _) = _
  generalize hT : B.sg s (vK K) + B.sg t (vK L) = T at *
  by_cases hm : mag = 0
  · subst hm
    have hT0 : T = 0 := by rw [Nat.zero_mul] at ev; omega
    refine ⟨0, NEf.own (by decide) (by rw [hT0, B.val_zero]; rfl), ?_⟩
    unfold Ieee.Format.nearest
    rw [if_pos rfl, if_pos hT0, wd_word, Nat.zero_min]
  · obtain ⟨R, h1, h2⟩ := nearest_ne (if T = 0 then s && t else decide (T < 0)) mag c 0 hm
    refine ⟨R, by rw [ev, Nat.pow_zero] at h2; exact h2, ?_⟩
    rw [show Ieee.double.leastPlace + (c : Int) - ((0 : Nat) : Int) = Ieee.double.leastPlace + (c : Int) by omega] at h1
    rw [h1, wd_word, B.dInf]

/-- What the document's search finds is the nearest, between two the even one. -/
theorem rK_ne {K R : Nat} {t n : Bool} {m : Int} {V S : Nat} (h : Lies K t m V S) (hR : NE R V S) : rK 0 n K t m = min R 9218868437227405312 := by
  have hf := h.fin
  have hS := h.pos
  cases t with
  | true =>
    have : NE K V S := NEf.own hS (h.one rfl)
    rw [hR.one this hS]
    unfold rK
    rw [if_pos rfl, Nat.min_eq_left (by omega)]
  | false =>
    have hlow : B.val Ieee.double K * S < V := h.low rfl
    have hmids : V < B.val Ieee.double (K + 1) * S → (m = -1 ∧ 2 * V < B.val Ieee.double K * S + B.val Ieee.double (K + 1) * S ∨ m = 0 ∧ 2 * V = B.val Ieee.double K * S + B.val Ieee.double (K + 1) * S ∨ m = 1 ∧ B.val Ieee.double K * S + B.val Ieee.double (K + 1) * S < 2 * V) := h.mids rfl
    have hhigh : V < B.val Ieee.double (K + 1) * S ∨ (K = 9218868437227405311 ∧ m = 1) := h.high rfl
    unfold rK
    rw [if_neg (by simp)]
    by_cases hh : V < B.val Ieee.double (K + 1) * S
    · have e : (B.val Ieee.double K + B.val Ieee.double (K + 1)) * S = B.val Ieee.double K * S + B.val Ieee.double (K + 1) * S := Nat.add_mul _ _ _
      have s2 : B.val Ieee.double (K + 1) * S < B.val Ieee.double (K + 2) * S := Nat.mul_lt_mul_of_pos_right (B.val_lt_succ Ieee.double (K + 1)) hS
      have eU : (B.val Ieee.double (K + 1) + B.val Ieee.double (K + 2)) * S = B.val Ieee.double (K + 1) * S + B.val Ieee.double (K + 2) * S := Nat.add_mul _ _ _
      have stay : (2 * V < B.val Ieee.double K * S + B.val Ieee.double (K + 1) * S ∨ 2 * V = B.val Ieee.double K * S + B.val Ieee.double (K + 1) * S ∧ K % 2 = 0) → NE K V S := by
        intro hc
        refine ⟨by rw [e]; omega, fun h1 => by rw [e] at h1; omega, fun h0 => ?_, fun h0 h1 => ?_⟩
        · have := Nat.mul_lt_mul_of_pos_right (B.val_lt Ieee.double (show K - 1 < K by omega)) hS
          rw [Nat.add_mul]; omega
        · have := Nat.mul_lt_mul_of_pos_right (B.val_lt Ieee.double (show K - 1 < K by omega)) hS
          rw [Nat.add_mul] at h1; omega
      have go : (B.val Ieee.double K * S + B.val Ieee.double (K + 1) * S < 2 * V ∨ 2 * V = B.val Ieee.double K * S + B.val Ieee.double (K + 1) * S ∧ K % 2 = 1) → NE (K + 1) V S := by
        intro hc
        refine ⟨by rw [eU]; omega, fun h1 => by rw [eU] at h1; omega, fun h0 => ?_, fun h0 h1 => ?_⟩
        · rw [show K + 1 - 1 = K from rfl, e]; omega
        · rw [show K + 1 - 1 = K from rfl, e] at h1; omega
      rcases hmids hh with ⟨h1, h2⟩ | ⟨h1, h2⟩ | ⟨h1, h2⟩
      · have ho : outS 0 K m n = false := by unfold outS; subst h1; simp
        rw [ho, if_neg (by simp), hR.one (stay (.inl h2)) hS, Nat.min_eq_left (by omega)]
      · by_cases hp : K % 2 = 1
        · have ho : outS 0 K m n = true := by unfold outS; subst h1; simp [hp]
          rw [ho, if_pos rfl, hR.one (go (.inr ⟨h2, hp⟩)) hS, Nat.min_eq_left (by omega)]
        · have ho : outS 0 K m n = false := by unfold outS; subst h1; simp [hp]
          rw [ho, if_neg (by simp), hR.one (stay (.inr ⟨h2, by omega⟩)) hS, Nat.min_eq_left (by omega)]
      · have ho : outS 0 K m n = true := by unfold outS; subst h1; simp
        rw [ho, if_pos rfl, hR.one (go (.inl h2)) hS, Nat.min_eq_left (by omega)]
    · obtain ⟨h1, h2⟩ : K = 9218868437227405311 ∧ m = 1 := by
        rcases hhigh with q | q
        · exact absurd q hh
        · exact q
      have ho : outS 0 K m n = true := by unfold outS; subst h2; simp
      rw [ho, if_pos rfl]
      have hRi : 9218868437227405312 ≤ R := by
        apply Nat.le_of_not_lt; intro hlt
        have u := hR.up
        have m1 : B.val Ieee.double R * S < B.val Ieee.double (R + 1) * S := Nat.mul_lt_mul_of_pos_right (B.val_lt_succ Ieee.double R) hS
        have m2 : B.val Ieee.double (R + 1) * S ≤ B.val Ieee.double (K + 1) * S := Nat.mul_le_mul_right S (vmono (by omega))
        rw [Nat.add_mul] at u
        omega
      rw [Nat.min_eq_right hRi]; omega

/-- A form's rounding, by its value. -/
theorem rW_ne {n : Bool} {X : Nat} {e : Int} (F : Frm n X e) (hX : X ≠ 0) (Bs : Int) (hB : Bs ≤ -1048576) {V U S R : Nat} (h1 : X * 2 ^ (e - Bs).toNat = V * S) (h2 : 2 ^ (-1074 - Bs).toNat = U * S) (hR : NE R V U) : rW 0 n X e = min R 9218868437227405312 := by
  have ho := frm_odd F hX
  have L := lies X e ho F.down F.up Bs (by have := F.down; omega) (by omega)
  have hS : 0 < S := by
    rcases Nat.eq_zero_or_pos S with h | h
    · rw [h, Nat.mul_zero] at h2; have := Nat.two_pow_pos (-1074 - Bs).toNat; omega
    · exact h
  unfold rW
  rw [if_neg hX, rndK_eq]
  rw [h1, h2] at L
  exact rK_ne L (hR.scale S hS)
end Go.Proofs.YteoednbmhiblfaaDoor

/- Forms by their values in units of 2^-2148; sums, products, roundings of forms of numbers. -/
namespace Go.Proofs.YteoednbmhiblfaaDoor
open Go.RowKit J
set_option linter.unusedVariables false
set_option maxRecDepth 20000

theorem exU (a : Nat) : ∃ u : Nat, u = 2 ^ a := ⟨_, rfl⟩
def EU : Nat := 1074
def ES : Nat := 2095004
def EH : Nat := 1047502
/-- 2^1074, 2^2095004: never reckoned. -/
noncomputable def UU : Nat := Classical.choose (exU EU)
noncomputable def SS : Nat := Classical.choose (exU ES)
theorem U_eq : UU = 2 ^ EU := Classical.choose_spec (exU EU)
theorem S_eq : SS = 2 ^ ES := Classical.choose_spec (exU ES)
theorem U_pos : 0 < UU := by rw [U_eq]; exact Nat.two_pow_pos _
theorem S_pos : 0 < SS := by rw [S_eq]; exact Nat.two_pow_pos _
theorem EUS : EU + ES = 2096078 := by unfold EU ES; rfl
theorem EHH : EH + EH = ES := by unfold EH ES; rfl
theorem US (a : Nat) (h : a = 2096078) : 2 ^ a = UU * SS := by
  rw [U_eq, S_eq, ← Nat.pow_add, EUS, h]
theorem mkSz (n : Bool) (e : Int) : mkS n 0 e = some (false, 0, 0) := by unfold mkS; rw [if_pos rfl]

/-- A form, what it stands for (in units of 2^-2148), where its bits lie. -/
structure Fo (o : Option (Bool × Nat × Int)) (z : Int) (L H : Int) : Prop where
  ex : ∃ n X e, o = some (n, X, e) ∧ Frm n X e ∧ zv (-2097152) (n, X, e) = z * (SS : Int) ∧ (X = 0 ∨ L ≤ e ∧ e + (bl X : Int) ≤ H)

theorem Fo.frm {n : Bool} {X : Nat} {e z L H : Int} (h : Fo (some (n, X, e)) z L H) : Frm n X e ∧ zv (-2097152) (n, X, e) = z * (SS : Int) ∧ (X = 0 ∨ L ≤ e ∧ e + (bl X : Int) ≤ H) := by
  obtain ⟨n', X', e', h1, h2, h3, h4⟩ := h.ex
  cases h1
  exact ⟨h2, h3, h4⟩
theorem mkS_sz (n : Bool) (Z : Nat) (f L H : Int) (hZ : Z ≠ 0) (h1 : L ≤ f) (h2 : f + (bl Z : Int) ≤ H) (hL : -1000000 ≤ L) (hH : H ≤ 1000000) (hd : H - L ≤ 262144) :
    ∃ X e, mkS n Z f = some (n, X, e) ∧ X ≠ 0 ∧ L ≤ e ∧ e + (bl X : Int) ≤ H := by
  obtain ⟨m, e0, e1, e2⟩ := odd_part Z hZ
  unfold mkS
  rw [if_neg hZ, if_neg (by omega)]
  exact ⟨_, _, rfl, by omega, by omega, by omega⟩

theorem blLe {X m : Nat} (h : X < 2 ^ m) : bl X ≤ m := by
  apply Nat.le_of_not_lt; intro hh
  have := (bl_gt X m).1 hh
  omega
theorem lt_bl (X : Nat) : X < 2 ^ bl X := bl_lt X

theorem addUp_sz (n : Bool) (X : Nat) (e : Int) (m : Bool) (Y : Nat) (f L H : Int) (hX : X ≠ 0) (hY : Y ≠ 0) (hfe : f ≤ e) (h1 : L ≤ f) (h2 : e + (bl X : Int) ≤ H) (h3 : f + (bl Y : Int) ≤ H) (hL : -1000000 ≤ L) (hH : H ≤ 999999) (hd : H - L ≤ 262143) :
    ∃ n' Z g, addUp n X e m Y f = some (n', Z, g) ∧ (Z = 0 ∨ L ≤ g ∧ g + (bl Z : Int) ≤ H + 1) := by
  obtain ⟨d, hdd⟩ : ∃ d : Nat, (e - f).toNat = d := ⟨_, rfl⟩
  have hb : X * 2 ^ d < 2 ^ (bl X + d) := by rw [Nat.pow_add]; exact Nat.mul_lt_mul_of_pos_right (lt_bl X) (Nat.two_pow_pos _)
  obtain ⟨q, hq⟩ : ∃ q : Nat, max (bl X + d) (bl Y) = q := ⟨_, rfl⟩
  have q1 : X * 2 ^ d < 2 ^ q := Nat.lt_of_lt_of_le hb (Nat.pow_le_pow_right (by decide) (by omega))
  have q2 : Y < 2 ^ q := Nat.lt_of_lt_of_le (lt_bl Y) (Nat.pow_le_pow_right (by decide) (by omega))
  have q3 : 2 ^ (q + 1) = 2 ^ q + 2 ^ q := by rw [Nat.pow_succ]; omega
  have hq4 : f + (q : Int) ≤ H := by omega
  have out : ∀ (n'' : Bool) (Z : Nat), Z < 2 ^ (q + 1) → ∃ n' Z' g, mkS n'' Z f = some (n', Z', g) ∧ (Z' = 0 ∨ L ≤ g ∧ g + (bl Z' : Int) ≤ H + 1) := by
    intro n'' Z hZ
    by_cases h0 : Z = 0
    · subst h0; rw [mkSz]; exact ⟨_, _, _, rfl, .inl rfl⟩
    · have := blLe hZ
      obtain ⟨X', e', k1, k2, k3, k4⟩ := mkS_sz n'' Z f L (H + 1) h0 h1 (by omega) hL (by omega) (by omega)
      exact ⟨_, _, _, k1, .inr ⟨k3, k4⟩⟩
  unfold addUp
  rw [hdd, if_neg (by omega)]
  split
  · exact out _ _ (by omega)
  · split
    · exact out _ _ (by omega)
    · exact out _ _ (by omega)
theorem addD_sz {o p : Option (Bool × Nat × Int)} {x y L H : Int} (h1 : Fo o x L H) (h2 : Fo p y L H) (hL : -1000000 ≤ L) (hH : H ≤ 999999) (hd : H - L ≤ 262143) : ∃ n Z g, addD o p = some (n, Z, g) ∧ (Z = 0 ∨ L ≤ g ∧ g + (bl Z : Int) ≤ H + 1) := by
  obtain ⟨n, X, e, rfl, F, _, b1⟩ := h1.ex
  obtain ⟨m, Y, f, rfl, G, _, b2⟩ := h2.ex
  unfold addD addF
  simp only
  by_cases hX : X = 0
  · rw [if_pos hX]; exact ⟨_, _, _, rfl, by omega⟩
  · rw [if_neg hX]
    by_cases hY : Y = 0
    · rw [if_pos hY]; exact ⟨_, _, _, rfl, by omega⟩
    · rw [if_neg hY]
      by_cases hlt : e < f
      · rw [if_pos hlt]; exact addUp_sz m Y f n X e L H hY hX (by omega) (by omega) (by omega) (by omega) hL hH hd
      · rw [if_neg hlt]; exact addUp_sz n X e m Y f L H hX hY (by omega) (by omega) (by omega) (by omega) hL hH hd
/-- Sums. -/
theorem Fo.add {o p : Option (Bool × Nat × Int)} {x y L H : Int} (h1 : Fo o x L H) (h2 : Fo p y L H) (hL : -1000000 ≤ L) (hH : H ≤ 999999) (hd : H - L ≤ 262143) : Fo (addD o p) (x + y) L (H + 1) := by
  obtain ⟨n, Z, g, hz, hb⟩ := addD_sz h1 h2 hL hH hd
  obtain ⟨n1, X1, e1, r1, F1, v1, _⟩ := h1.ex
  obtain ⟨n2, X2, e2, r2, F2, v2, _⟩ := h2.ex
  have V := Fv.add (B := -2097152) (by omega) ⟨n1, X1, e1, r1, F1, v1⟩ ⟨n2, X2, e2, r2, F2, v2⟩ (by rw [hz]; rfl)
  obtain ⟨n', Z', g', r, F, v⟩ := V.ex
  rw [hz] at r
  cases r
  exact ⟨n, Z, g, hz, F, by rw [v, Int.add_mul], hb⟩

theorem zvUp {x : Bool × Nat × Int} (B C : Int) (hB : x.2.1 = 0 ∨ B ≤ x.2.2) (hC : C ≤ B) : zv C x = zv B x * ((2 ^ (B - C).toNat : Nat) : Int) := by
  unfold zv
  rcases hB with h | h
  · rw [h]; simp
  · rw [show (x.2.2 - C).toNat = (x.2.2 - B).toNat + (B - C).toNat by omega, Nat.pow_add, ← Nat.mul_assoc, Int.natCast_mul, Int.mul_assoc]

theorem wide1 (a : Nat) (h : a = 1048576) : ∀ x : Int, x * (UU : Int) * (SS : Int) = x * ((2 ^ EH : Nat) : Int) * ((2 ^ a : Nat) : Int) := by
  intro x
  have e : EU + ES = EH + a := by rw [h]; unfold EU ES EH; rfl
  have e2 : UU * SS = 2 ^ EH * 2 ^ a := by rw [U_eq, S_eq, ← Nat.pow_add, ← Nat.pow_add, e]
  rw [Int.mul_assoc, Int.mul_assoc, ← Int.natCast_mul, ← Int.natCast_mul, e2]
/-- Products of what is whole in units of 2^-1074. -/
theorem Fo.mul {o p : Option (Bool × Nat × Int)} {x y L H : Int} (h1 : Fo o (x * (UU : Int)) L H) (h2 : Fo p (y * (UU : Int)) L H) (hL : -500000 ≤ L) (hH : H ≤ 500000) (hd : H - L ≤ 131072) : Fo (mulD o p) (x * y) (2 * L) (2 * H) := by
  obtain ⟨n1, X1, e1, r1, F1, v1, b1⟩ := h1.ex
  obtain ⟨n2, X2, e2, r2, F2, v2, b2⟩ := h2.ex
  have sz : ∃ n Z g, mulD o p = some (n, Z, g) ∧ (Z = 0 ∨ 2 * L ≤ g ∧ g + (bl Z : Int) ≤ 2 * H) := by
    rw [r1, r2]
    unfold mulD mulF
    simp only
    by_cases hZ : X1 * X2 = 0
    · rw [hZ, mkSz]; exact ⟨_, _, _, rfl, .inl rfl⟩
    · have hX : X1 ≠ 0 := fun h => hZ (by rw [h, Nat.zero_mul])
      have hY : X2 ≠ 0 := fun h => hZ (by rw [h, Nat.mul_zero])
      have hb : bl (X1 * X2) ≤ bl X1 + bl X2 := blLe (by rw [Nat.pow_add]; exact Nat.mul_lt_mul'' (lt_bl X1) (lt_bl X2))
      obtain ⟨X', e', k1, k2, k3, k4⟩ := mkS_sz (n1 != n2) (X1 * X2) (e1 + e2) (2 * L) (2 * H) hZ (by omega) (by omega) (by omega) (by omega) (by omega)
      exact ⟨_, _, _, k1, .inr ⟨k3, k4⟩⟩
  obtain ⟨n, Z, g, hz, hb⟩ := sz
  have half : ∀ (n : Bool) (X : Nat) (e x : Int), Frm n X e → zv (-2097152) (n, X, e) = x * (UU : Int) * (SS : Int) → zv (-1048576) (n, X, e) = x * ((2 ^ EH : Nat) : Int) := by
    intro n X e x F hv
    have up := zvUp (x := (n, X, e)) (-1048576) (-2097152) (.inr F.down) (by omega)
    rw [hv] at up
    obtain ⟨a, ha⟩ : ∃ a : Nat, (-1048576 - -2097152 : Int).toNat = a := ⟨_, rfl⟩
    rw [ha, wide1 a (by omega)] at up
    exact (Int.eq_of_mul_eq_mul_right (by have := Nat.two_pow_pos a; omega) up).symm
  have V := Fv.mul (B := -1048576) (C := -1048576) (by omega) (by omega) ⟨n1, X1, e1, r1, F1, half _ _ _ _ F1 v1⟩ ⟨n2, X2, e2, r2, F2, half _ _ _ _ F2 v2⟩ (by rw [hz]; rfl)
  obtain ⟨n', Z', g', r, F, v⟩ := V.ex
  rw [hz] at r
  cases r
  refine ⟨n, Z, g, hz, F, ?_, hb⟩
  rw [show (-2097152 : Int) = -1048576 + -1048576 by omega, v, S_eq, ← EHH, Nat.pow_add, Int.natCast_mul]
  simp only [Int.mul_assoc, Int.mul_left_comm, Int.mul_comm]
end Go.Proofs.YteoednbmhiblfaaDoor

/- The document's Plus, Minus, Times of any two numbers are the model's own steps. -/
namespace Go.Proofs.YteoednbmhiblfaaDoor
open Go.RowKit J
set_option linter.unusedVariables false
set_option maxRecDepth 20000

theorem sg1_sg (s : Bool) (v : Nat) : sg1 s * (v : Int) = B.sg s v := by unfold sg1 B.sg; cases s <;> simp
theorem top_v (K : Nat) (hK : K < 9218868437227405312) (a : Nat) (ha : a = 2045) : vK K < 9007199254740992 * 2 ^ a := by
  have h := vK_word a 9007199254740992 (.inr (by omega)) (by omega)
  have h2 : a * 4503599627370496 + 9007199254740992 = 9218868437227405312 := by rw [ha]
  rw [← h, h2]
  exact vK_lt.2 hK
/-- A number's form. -/
theorem of_fo (s : Bool) (K : Nat) (hK : K < 9218868437227405312) : ∃ n X e, ofK s K = some (n, X, e) ∧ Fo (some (n, X, e)) (B.sg s (vK K) * (UU : Int)) (-1074) 1024 ∧ (X = 0 ↔ K = 0) := by
  obtain ⟨n, X, e, h1, F, h2, h3, h4⟩ := ofK_val s K hK
  refine ⟨n, X, e, h1, ⟨n, X, e, rfl, F, ?_, ?_⟩, h3⟩
  · obtain ⟨a, ha⟩ : ∃ a : Nat, (-1074 - -2097152 : Int).toNat = a := ⟨_, rfl⟩
    have h5 := h4 (-2097152) (by omega)
    rw [ha] at h5
    rw [h5, US a (by omega), Int.natCast_mul, Int.natCast_mul, ← Int.mul_assoc, ← Int.mul_assoc, sg1_sg]
  · by_cases hX : X = 0
    · exact .inl hX
    · right
      have ho := frm_odd F hX
      have hd := F.down
      -- in units of the form's own place
      have h5 := h4 (min e (-1074)) (by omega)
      unfold zv at h5
      simp only at h5
      rw [h2 hX] at h5
      have h6 : X * 2 ^ (e - min e (-1074)).toNat = vK K * 2 ^ (-1074 - min e (-1074)).toNat := by
        unfold sg1 at h5
        cases s
        · simp only [Bool.false_eq_true, if_false, Int.one_mul] at h5; exact_mod_cast h5
        · simp only [if_true] at h5; have := Int.eq_of_mul_eq_mul_left (by decide) h5; exact_mod_cast this
      have he : -1074 ≤ e := by
        apply Int.le_of_not_gt; intro hlt
        rw [show (e - min e (-1074)).toNat = 0 by omega, Nat.pow_zero, Nat.mul_one] at h6
        obtain ⟨q, hq⟩ : ∃ q, (-1074 - min e (-1074)).toNat = q + 1 := ⟨(-1074 - min e (-1074)).toNat - 1, by omega⟩
        rw [hq, Nat.pow_succ, ← Nat.mul_assoc] at h6
        omega
      refine ⟨he, ?_⟩
      rw [show (-1074 - min e (-1074)).toNat = 0 by omega, Nat.pow_zero, Nat.mul_one] at h6
      obtain ⟨q, hq⟩ : ∃ q, (e - min e (-1074)).toNat = q := ⟨_, rfl⟩
      rw [hq] at h6
      obtain ⟨c, hc⟩ : ∃ c : Nat, c = 2045 := ⟨_, rfl⟩
      have h7 := top_v K hK c hc
      have h8 := bl_ge X hX
      have h9 := bl_pos X hX
      obtain ⟨b, hb⟩ : ∃ b, bl X = b + 1 := ⟨bl X - 1, by omega⟩
      rw [hb, Nat.add_sub_cancel] at h8
      have h10 : 2 ^ b * 2 ^ q < 9007199254740992 * 2 ^ c := Nat.lt_of_le_of_lt (Nat.mul_le_mul_right _ h8) (by rw [h6]; exact h7)
      rw [← Nat.pow_add, show (9007199254740992 : Nat) = 2 ^ 53 from rfl, ← Nat.pow_add] at h10
      have h11 := (Nat.pow_lt_pow_iff_right (by decide : 1 < 2)).1 h10
      omega

/-- A form's sign, and what it is rounded to. -/
theorem round_fo {n : Bool} {X : Nat} {e T L H : Int} (h : Fo (some (n, X, e)) T L H) (hT : T ≠ 0) : X ≠ 0 ∧ n = decide (T < 0) ∧ ∀ R, NE R T.natAbs UU → rW 0 n X e = min R 9218868437227405312 := by
  obtain ⟨F, hv, _⟩ := h.frm
  have hS := S_pos
  unfold zv at hv
  simp only at hv
  have hX : X ≠ 0 := by
    intro h0
    rw [h0, Nat.zero_mul] at hv
    have : T * (SS : Int) = 0 := by rw [← hv]; simp
    rcases Int.mul_eq_zero.1 this with h | h <;> omega
  obtain ⟨q, hq⟩ : ∃ q, X * 2 ^ (e - -2097152).toNat = q := ⟨_, rfl⟩
  have hq0 : 0 < q := by rw [← hq]; exact Nat.mul_pos (by omega) (Nat.two_pow_pos _)
  rw [hq] at hv
  have hab : q = T.natAbs * SS := by
    have := congrArg Int.natAbs hv
    rw [Int.natAbs_mul, Int.natAbs_mul, Int.natAbs_natCast, Int.natAbs_natCast] at this
    rw [← this]
    unfold sg1; cases n <;> simp
  refine ⟨hX, ?_, fun R hR => ?_⟩
  · have hTS : T < 0 → T * (SS : Int) < 0 := fun h => Int.mul_neg_of_neg_of_pos h (by omega)
    have hTP : 0 < T → 0 < T * (SS : Int) := fun h => Int.mul_pos h (by omega)
    unfold sg1 at hv
    cases n
    · simp only [Bool.false_eq_true, if_false, Int.one_mul] at hv
      rw [decide_eq_false (by intro h; have := hTS h; omega)]
    · simp only [if_true] at hv
      rw [decide_eq_true (by apply Int.lt_of_not_ge; intro h; have := hTP (by omega); omega)]
  · exact rW_ne F hX (-2097152) (by omega) (V := T.natAbs) (U := UU) (S := SS) (by rw [hq, hab]) (US _ (by omega)) hR

/-- What a word is: a NaN, an infinity, or finite. -/
theorem kinds (x : Nat) (hx : x < 18446744073709551616) : (nanW x = true ∧ (magW x == 9218868437227405312) = false ∧ (magW x == 0) = false ∧ 9218868437227405312 < magW x) ∨ (nanW x = false ∧ (magW x == 9218868437227405312) = true ∧ (magW x == 0) = false ∧ magW x = 9218868437227405312) ∨ (nanW x = false ∧ (magW x == 9218868437227405312) = false ∧ magW x < 9218868437227405312) := by
  have e : nanW x = decide (9218868437227405312 < magW x) := rfl
  rcases Nat.lt_trichotomy (magW x) 9218868437227405312 with h | h | h
  · refine .inr (.inr ⟨?_, ?_, h⟩)
    · rw [e]; simp; omega
    · simp; omega
  · refine .inr (.inl ⟨?_, ?_, ?_, h⟩)
    · rw [e]; simp; omega
    · simp; omega
    · simp; omega
  · refine .inl ⟨?_, ?_, ?_, h⟩
    · rw [e]; simp; omega
    · simp; omega
    · simp; omega
theorem read_nanW (x : Nat) (h : 9218868437227405312 < magW x) : ∃ s t, Ieee.double.read x = .nan s t := ⟨_, _, B.read_nan Ieee.double x (by rw [B.dInf, B.dSign]; exact h) hBin⟩
theorem read_infW (x : Nat) (hx : x < 18446744073709551616) (h : magW x = 9218868437227405312) : Ieee.double.read x = .infinity (negW x) := by
  have e := wd_of x hx
  rw [h, wd_word, ← B.dInf] at e
  rw [e, B.read_inf Ieee.double _ hInf hBin, ← e]
theorem read_finW (x : Nat) (hx : x < 18446744073709551616) (h : magW x < 9218868437227405312) : ∃ m k, Ieee.double.read x = .number (negW x) m (Ieee.double.leastPlace + (k : Nat)) ∧ m * 2 ^ k = vK (magW x) := by
  have e := wd_of x hx
  rw [wd_word] at e
  obtain ⟨m, k, h1, h2⟩ := B.read_word Ieee.double (negW x) (magW x) (by rw [B.dInf]; exact h) hInf
  rw [← e] at h1
  exact ⟨m, k, h1, h2⟩
end Go.Proofs.YteoednbmhiblfaaDoor

/- The document's Plus, Minus, Times: whole. -/
namespace Go.Proofs.YteoednbmhiblfaaDoor
open Go.RowKit J
set_option linter.unusedVariables false
set_option maxRecDepth 20000
set_option linter.unusedSimpArgs false

theorem arW_add (x y : Nat) : arW .add x y = (((Ieee.double.read x).sum (Ieee.double.read y)).map Ieee.double.write).getD oddW := rfl
theorem arW_sub (x y : Nat) : arW .sub x y = (((Ieee.double.read x).sum (Ieee.double.read y).opposite).map Ieee.double.write).getD oddW := rfl
theorem turn_wd (s : Bool) (K : Nat) (h : K < 9223372036854775808) : turnW (wd64 s K) = wd64 (!s) K := by
  unfold turnW wd64
  cases s <;> simp <;> omega
theorem turn_lt (y : Nat) (hy : y < 18446744073709551616) : turnW y < 18446744073709551616 := by unfold turnW; split <;> omega
theorem readOpp (f : Ieee.Format) (hs : f.infRung < f.signWeight) (t : Bool) (u : Nat) (hu : u < f.infRung) : (f.read (f.word t u)).opposite = f.read (f.word (!t) u) := by
  have key : ∀ b : Bool, (f.word b u / f.signWeight % 2 == 1) = b ∧ f.word b u % f.signWeight = u := by
    intro b
    unfold Ieee.Format.word
    cases b
    · simp only [Bool.false_eq_true, if_false]
      rw [Nat.div_eq_of_lt (by omega)]; exact ⟨rfl, Nat.mod_eq_of_lt (by omega)⟩
    · simp only [if_true]
      rw [Nat.add_div_left _ (by omega), Nat.div_eq_of_lt (by omega), Nat.add_mod_left]; exact ⟨rfl, Nat.mod_eq_of_lt (by omega)⟩
  unfold Ieee.Format.read
  simp only [(key t).1, (key t).2, (key (!t)).1, (key (!t)).2]
  by_cases h : u < f.binade
  · rw [if_pos h, if_pos h]; rfl
  · rw [if_neg h, if_neg h, if_pos hu, if_pos hu]; rfl

theorem sub_turn (x y : Nat) (hy : y < 18446744073709551616) : arW .sub x y = arW .add x (turnW y) := by
  rw [arW_sub, arW_add]
  have ey := wd_of y hy
  have hm : magW y < 9223372036854775808 := Nat.mod_lt _ (by decide)
  have et : turnW y = wd64 (!negW y) (magW y) := by rw [← turn_wd _ _ hm, ← ey]
  obtain ⟨m1, m2, m3⟩ := magW_wd (!negW y) (magW y) hm
  rcases kinds y hy with ⟨b1, b2, b3, b4⟩ | ⟨b1, b2, b3, b4⟩ | ⟨b1, b2, b4⟩
  · obtain ⟨s, t, hr⟩ := read_nanW y b4
    obtain ⟨s2, t2, hr2⟩ := read_nanW (turnW y) (by rw [et, m1]; exact b4)
    rw [hr, hr2]
    cases Ieee.double.read x <;> rfl
  · have hr := read_infW y hy b4
    have hr2 := read_infW (turnW y) (turn_lt y hy) (by rw [et, m1]; exact b4)
    rw [hr, hr2, et, m2]
    rfl
  · have hr := readOpp Ieee.double hInf (negW y) (magW y) (by rw [B.dInf]; exact b4)
    rw [← wd_word, ← ey, ← wd_word, ← et] at hr
    rw [hr]
end Go.Proofs.YteoednbmhiblfaaDoor

/- Sums of lists, plainly: steps of words, with every NaN as the one that is answered; running sums, halves, what is kept beside. -/
namespace Go.Proofs.YteoednbmhiblfaaDoor
open Go.RowKit J
set_option linter.unusedVariables false
set_option maxRecDepth 20000
set_option linter.unusedSimpArgs false

/-- A word, as it is answered. -/
def nrm (z : Nat) : Nat := if nanW z then oddW else z
theorem nan_odd : nanW oddW = true := by decide
theorem nrm_idem (z : Nat) : nrm (nrm z) = nrm z := by
  unfold nrm
  cases h : nanW z
  · simp [h]
  · simp [nan_odd]
theorem nrm_lt {z : Nat} (h : z < 18446744073709551616) : nrm z < 18446744073709551616 := by
  unfold nrm
  split
  · decide
  · exact h
theorem nan_nrm (z : Nat) : nanW (nrm z) = nanW z := by
  unfold nrm
  cases h : nanW z
  · simp [h]
  · simp [nan_odd]
theorem nrm_zero : nrm 0 = 0 := by decide
theorem nan_mag {x : Nat} (h : nanW x = true) : 9218868437227405312 < magW x := of_decide_eq_true h
theorem nan_turn (y : Nat) (hy : y < 18446744073709551616) : nanW (turnW y) = nanW y := by
  unfold nanW turnW
  rw [decide_eq_decide]
  split <;> omega
theorem add_nan_l {x : Nat} (y : Nat) (h : nanW x = true) : arW .add x y = oddW := by
  obtain ⟨s, t, hr⟩ := read_nanW x (nan_mag h)
  rw [arW_add, hr]; rfl
theorem add_nan_r {x y : Nat} (hx : x < 18446744073709551616) (h : nanW y = true) : arW .add x y = oddW := by
  obtain ⟨s, t, hr2⟩ := read_nanW y (nan_mag h)
  rcases kinds x hx with ⟨a1, a2, a3, a4⟩ | ⟨a1, a2, a3, a4⟩ | ⟨a1, a2, a4⟩
  · exact add_nan_l y a1
  · rw [arW_add, read_infW x hx a4, hr2]; rfl
  · obtain ⟨m, k, hr, _⟩ := read_finW x hx a4
    rw [arW_add, hr, hr2]; rfl
theorem sub_nan_l {x y : Nat} (hy : y < 18446744073709551616) (h : nanW x = true) : arW .sub x y = oddW := by rw [sub_turn x y hy]; exact add_nan_l _ h
theorem sub_nan_r {x y : Nat} (hx : x < 18446744073709551616) (hy : y < 18446744073709551616) (h : nanW y = true) : arW .sub x y = oddW := by
  rw [sub_turn x y hy]
  exact add_nan_r hx (by rw [nan_turn y hy]; exact h)
theorem add_nrm {x y : Nat} (hx : x < 18446744073709551616) (hy : y < 18446744073709551616) : arW .add (nrm x) (nrm y) = arW .add x y := by
  cases h1 : nanW x
  · have e1 : nrm x = x := by unfold nrm; rw [h1]; rfl
    rw [e1]
    cases h2 : nanW y
    · have e2 : nrm y = y := by unfold nrm; rw [h2]; rfl
      rw [e2]
    · rw [add_nan_r hx h2, add_nan_r hx (by rw [nan_nrm]; exact h2)]
  · rw [add_nan_l _ h1, add_nan_l _ (by rw [nan_nrm]; exact h1)]
theorem sub_nrm {x y : Nat} (hx : x < 18446744073709551616) (hy : y < 18446744073709551616) : arW .sub (nrm x) (nrm y) = arW .sub x y := by
  cases h1 : nanW x
  · have e1 : nrm x = x := by unfold nrm; rw [h1]; rfl
    rw [e1]
    cases h2 : nanW y
    · have e2 : nrm y = y := by unfold nrm; rw [h2]; rfl
      rw [e2]
    · rw [sub_nan_r hx hy h2, sub_nan_r hx (nrm_lt hy) (by rw [nan_nrm]; exact h2)]
  · rw [sub_nan_l hy h1, sub_nan_l (nrm_lt hy) (by rw [nan_nrm]; exact h1)]
/-- What a step's operation gives: the answer, or some NaN where there is none. -/
def Gives (op : BinOp) (x y z : Nat) : Prop := floatBits op .f64 x y = some z ∨ floatBits op .f64 x y = none ∧ 9218868437227405312 < z % 9223372036854775808 ∧ z < 18446744073709551616
theorem gives_nrm {op : BinOp} {x y z : Nat} (ho : op = .add ∨ op = .sub ∨ op = .mul) (h : Gives op x y z) : nrm z = arW op x y ∧ z < 18446744073709551616 := by
  rcases h with h | ⟨h, h2, h3⟩
  · have hb := bits_fin ho h
    refine ⟨?_, hb.2⟩
    unfold nrm nanW arW
    rw [h, if_neg (by simp; omega)]; rfl
  · refine ⟨?_, h3⟩
    unfold nrm nanW arW
    rw [h, if_pos (by simpa using h2)]; rfl
theorem arW_nrm {op : BinOp} (ho : op = .add ∨ op = .sub ∨ op = .mul) (x y : Nat) : nrm (arW op x y) = arW op x y ∧ arW op x y < 18446744073709551616 := by
  unfold arW
  cases h : floatBits op .f64 x y with
  | none => exact ⟨by decide, by decide⟩
  | some z =>
    have hb := bits_fin ho h
    refine ⟨?_, hb.2⟩
    show nrm z = z
    unfold nrm nanW
    rw [if_neg (by simp; omega)]

/-- A sum, a difference. -/
abbrev plF (x y : Nat) : Nat := arW .add x y
abbrev miF (x y : Nat) : Nat := arW .sub x y
theorem plF_lt (x y : Nat) : plF x y < 18446744073709551616 := (arW_nrm (.inl rfl) x y).2
theorem miF_lt (x y : Nat) : miF x y < 18446744073709551616 := (arW_nrm (.inr (.inl rfl)) x y).2
theorem plF_nrm (x y : Nat) : nrm (plF x y) = plF x y := (arW_nrm (.inl rfl) x y).1
theorem miF_nrm (x y : Nat) : nrm (miF x y) = miF x y := (arW_nrm (.inr (.inl rfl)) x y).1
/-- One after the other. -/
def runF : List Nat → Nat
  | [] => 0
  | x :: l => l.foldl plF (nrm x)
theorem runF_snoc (l : List Nat) (y : Nat) (h : l ≠ []) : runF (l ++ [y]) = plF (runF l) y := by
  cases l with
  | nil => exact absurd rfl h
  | cons x l => simp [runF, List.foldl_append]
theorem runF_take (l : List Nat) (k : Nat) (h0 : 0 < k) (h : k < l.length) : runF (l.take (k + 1)) = plF (runF (l.take k)) (l.getD k 0) := by
  have e : l.take (k + 1) = l.take k ++ [l.getD k 0] := by
    rw [List.take_succ_eq_append_getElem h, List.getD_eq_getElem?_getD, List.getElem?_eq_getElem h]; rfl
  rw [e, runF_snoc]
  intro h2
  have := congrArg List.length h2
  rw [List.length_take, List.length_nil] at this
  omega
theorem runF_one (l : List Nat) (h : 0 < l.length) : runF (l.take 1) = nrm (l.getD 0 0) := by
  cases l with
  | nil => simp at h
  | cons x l => simp [runF]
theorem foldl_lt (l : List Nat) (s : Nat) (hs : s < 18446744073709551616 ∧ nrm s = s) : l.foldl plF s < 18446744073709551616 ∧ nrm (l.foldl plF s) = l.foldl plF s := by
  induction l generalizing s with
  | nil => exact hs
  | cons x l ih => exact ih _ ⟨plF_lt _ _, plF_nrm _ _⟩
theorem runF_ok (l : List Nat) (h : ∀ x ∈ l, x < 18446744073709551616) : runF l < 18446744073709551616 ∧ nrm (runF l) = runF l := by
  cases l with
  | nil => exact ⟨by decide, by decide⟩
  | cons x l => exact foldl_lt l _ ⟨nrm_lt (h x (List.mem_cons_self ..)), nrm_idem x⟩

/-- A row, neighbours added in twos. -/
def two : List Nat → List Nat
  | a :: b :: l => plF a b :: two l
  | [a] => [a]
  | [] => []
def twos : Nat → List Nat → List Nat
  | 0, l => l
  | r + 1, l => twos r (two l)
theorem two_len : ∀ l : List Nat, (two l).length = l.length - l.length / 2
  | [] => rfl
  | [a] => by simp [two]
  | a :: b :: l => by
    have := two_len l
    simp only [two, List.length_cons, this]
    omega
theorem two_app : ∀ (l m : List Nat), l.length % 2 = 0 → two (l ++ m) = two l ++ two m
  | [], m, _ => rfl
  | [a], m, h => by simp at h
  | a :: b :: l, m, h => by
    have h2 : l.length % 2 = 0 := by simp at h; omega
    simp only [List.cons_append, two, two_app l m h2]
theorem twos_out : ∀ (r : Nat) (l : List Nat), twos (r + 1) l = two (twos r l)
  | 0, l => rfl
  | r + 1, l => twos_out r (two l)
theorem two_short (l : List Nat) (h : l.length ≤ 1) : two l = l := by
  match l, h with
  | [], _ => rfl
  | [a], _ => rfl
  | a :: b :: l, h => simp at h
theorem twos_short (r : Nat) (l : List Nat) (h : l.length ≤ 1) : twos r l = l := by
  induction r with
  | zero => rfl
  | succ r ih => rw [twos, two_short l h, ih]
theorem twos_add : ∀ (r s : Nat) (l : List Nat), twos (r + s) l = twos s (twos r l)
  | 0, s, l => by rw [Nat.zero_add]; rfl
  | r + 1, s, l => by rw [show r + 1 + s = (r + s) + 1 by omega, twos, twos_add r s, twos]
theorem twos_app : ∀ (r : Nat) (l m : List Nat), l.length = 2 ^ r → twos r (l ++ m) = twos r l ++ twos r m
  | 0, l, m, _ => rfl
  | r + 1, l, m, h => by
    rw [Nat.pow_succ] at h
    rw [twos, twos, twos, two_app l m (by omega), twos_app r (two l) (two m) (by rw [two_len]; omega)]
theorem twos_len : ∀ (r : Nat) (l : List Nat), l.length ≤ 2 ^ r → (twos r l).length ≤ 1 ∧ (0 < l.length → 0 < (twos r l).length)
  | 0, l, h => ⟨by simpa [twos] using h, fun h => h⟩
  | r + 1, l, h => by
    rw [Nat.pow_succ] at h
    obtain ⟨h1, h2⟩ := twos_len r (two l) (by rw [two_len]; omega)
    exact ⟨h1, fun h3 => h2 (by rw [two_len]; omega)⟩
/-- By halves. -/
def hvF (l : List Nat) : Nat := nrm ((twos l.length l).getD 0 0)
theorem hv_any (r : Nat) (l : List Nat) (h : (twos r l).length ≤ 1) : hvF l = nrm ((twos r l).getD 0 0) := by
  unfold hvF
  have hn : (twos l.length l).length ≤ 1 := (twos_len l.length l (Nat.le_of_lt Nat.lt_two_pow_self)).1
  rcases Nat.le_total r l.length with h1 | h1
  · obtain ⟨d, hd⟩ : ∃ d, l.length = r + d := ⟨l.length - r, by omega⟩
    rw [hd, twos_add, twos_short d _ h]
  · obtain ⟨d, hd⟩ : ∃ d, r = l.length + d := ⟨r - l.length, by omega⟩
    rw [hd, twos_add, twos_short d _ hn]
theorem hv_short (l : List Nat) (h : l.length ≤ 1) : hvF l = nrm (l.getD 0 0) := hv_any 0 l h
theorem W64_two : ∀ (l : List Nat), (∀ x ∈ l, x < 18446744073709551616) → ∀ x ∈ two l, x < 18446744073709551616
  | [], h => h
  | [a], h => h
  | a :: b :: l, h => fun x hx => by
    simp only [two, List.mem_cons] at hx
    rcases hx with rfl | hx
    · exact plF_lt _ _
    · exact W64_two l (fun y hy => h y (by simp [hy])) x hx
theorem W64_twos : ∀ (r : Nat) (l : List Nat), (∀ x ∈ l, x < 18446744073709551616) → ∀ x ∈ twos r l, x < 18446744073709551616
  | 0, l, h => h
  | r + 1, l, h => W64_twos r (two l) (W64_two l h)
theorem getD_lt {l : List Nat} (h : ∀ x ∈ l, x < 18446744073709551616) (i : Nat) : l.getD i 0 < 18446744073709551616 := by
  by_cases hi : i < l.length
  · rw [List.getD_eq_getElem?_getD, List.getElem?_eq_getElem hi]; exact h _ (List.getElem_mem hi)
  · rw [List.getD_eq_getElem?_getD, List.getElem?_eq_none (by omega)]; simp
theorem hv_lt (l : List Nat) (h : ∀ x ∈ l, x < 18446744073709551616) : hvF l < 18446744073709551616 := nrm_lt (getD_lt (W64_twos _ l h) 0)
theorem hv_halves (l : List Nat) (j : Nat) (h1 : 2 ^ j < l.length) (h2 : l.length ≤ 2 ^ (j + 1)) (hw : ∀ x ∈ l, x < 18446744073709551616) : hvF l = plF (hvF (l.take (2 ^ j))) (hvF (l.drop (2 ^ j))) := by
  rw [Nat.pow_succ] at h2
  have ht : (l.take (2 ^ j)).length = 2 ^ j := by rw [List.length_take]; omega
  have hd : (l.drop (2 ^ j)).length ≤ 2 ^ j ∧ 0 < (l.drop (2 ^ j)).length := by rw [List.length_drop]; omega
  obtain ⟨a1, a2⟩ := twos_len j (l.take (2 ^ j)) (by omega)
  obtain ⟨b1, b2⟩ := twos_len j (l.drop (2 ^ j)) hd.1
  have a3 := a2 (by have := Nat.two_pow_pos j; omega)
  have b3 := b2 hd.2
  rw [hv_any j _ a1, hv_any j _ b1]
  have wa := W64_twos j (l.take (2 ^ j)) (fun x hx => hw x (List.mem_of_mem_take hx))
  have wb := W64_twos j (l.drop (2 ^ j)) (fun x hx => hw x (List.mem_of_mem_drop hx))
  have e : twos (j + 1) l = two (twos j (l.take (2 ^ j)) ++ twos j (l.drop (2 ^ j))) := by
    rw [twos_out, ← twos_app j _ _ ht, List.take_append_drop]
  rw [hv_any (j + 1) l (twos_len (j + 1) l (by rw [Nat.pow_succ]; omega)).1, e]
  generalize twos j (l.take (2 ^ j)) = A at *
  generalize twos j (l.drop (2 ^ j)) = C at *
  match A, C, a1, a3, b1, b3, wa, wb with
  | [a], [b], _, _, _, _, wa, wb =>
    simp only [List.cons_append, List.nil_append, two, List.getD_cons_zero]
    have e2 := add_nrm (wa a (by simp)) (wb b (by simp))
    show nrm (plF a b) = arW .add (nrm a) (nrm b)
    rw [e2, plF_nrm]

/-- Blocks of s numbers; their running sums' running sum. -/
def pc (s : Nat) (l : List Nat) (i : Nat) : List Nat := (l.drop (i * s)).take s
def blF (s : Nat) (l : List Nat) : Nat := runF ((List.range ((l.length + s - 1) / s)).map fun i => runF (pc s l i))
/-- Kahan's step. -/
def kaS (q : Nat × Nat) (x : Nat) : Nat × Nat := (plF q.1 (miF x q.2), miF (miF (plF q.1 (miF x q.2)) q.1) (miF x q.2))
def kaF (l : List Nat) : Nat × Nat := l.foldl kaS (0, 0)
/-- Is |s| not below |x|? -/
def nbW (s x : Nat) : Bool := !nanW s && !nanW x && decide (magW x ≤ magW s)
/-- Neumaier's step. -/
def neV (s x : Nat) : Nat := if nbW s x then plF (miF s (plF s x)) x else plF (miF x (plF s x)) s
def neS (q : Nat × Nat) (x : Nat) : Nat × Nat := (plF q.1 x, plF q.2 (neV q.1 x))
def neF (l : List Nat) : Nat × Nat := l.foldl neS (0, 0)
theorem foldl_take {α : Type} (f : α → Nat → α) (a : α) (l : List Nat) (k : Nat) (h : k < l.length) : (l.take (k + 1)).foldl f a = f ((l.take k).foldl f a) (l.getD k 0) := by
  have e : l.take (k + 1) = l.take k ++ [l.getD k 0] := by
    rw [List.take_succ_eq_append_getElem h, List.getD_eq_getElem?_getD, List.getElem?_eq_getElem h]; rfl
  rw [e, List.foldl_append]; rfl
theorem nbW_nrm (s x : Nat) : nbW (nrm s) (nrm x) = nbW s x := by
  unfold nbW
  rw [nan_nrm, nan_nrm]
  cases h1 : nanW s <;> cases h2 : nanW x <;> simp [nrm, h1, h2]
theorem kaS_ok (q : Nat × Nat) (x : Nat) : (kaS q x).1 < 18446744073709551616 ∧ (kaS q x).2 < 18446744073709551616 ∧ nrm (kaS q x).1 = (kaS q x).1 ∧ nrm (kaS q x).2 = (kaS q x).2 := ⟨plF_lt _ _, miF_lt _ _, plF_nrm _ _, miF_nrm _ _⟩
theorem neS_ok (q : Nat × Nat) (x : Nat) : (neS q x).1 < 18446744073709551616 ∧ (neS q x).2 < 18446744073709551616 ∧ nrm (neS q x).1 = (neS q x).1 ∧ nrm (neS q x).2 = (neS q x).2 := ⟨plF_lt _ _, plF_lt _ _, plF_nrm _ _, plF_nrm _ _⟩
theorem fold_ok (f : Nat × Nat → Nat → Nat × Nat) (hf : ∀ q x, (f q x).1 < 18446744073709551616 ∧ (f q x).2 < 18446744073709551616 ∧ nrm (f q x).1 = (f q x).1 ∧ nrm (f q x).2 = (f q x).2) (l : List Nat) : (l.foldl f (0, 0)).1 < 18446744073709551616 ∧ (l.foldl f (0, 0)).2 < 18446744073709551616 ∧ nrm (l.foldl f (0, 0)).1 = (l.foldl f (0, 0)).1 ∧ nrm (l.foldl f (0, 0)).2 = (l.foldl f (0, 0)).2 := by
  have h : ∀ (l : List Nat) (q : Nat × Nat), (q.1 < 18446744073709551616 ∧ q.2 < 18446744073709551616 ∧ nrm q.1 = q.1 ∧ nrm q.2 = q.2) → ((l.foldl f q).1 < 18446744073709551616 ∧ (l.foldl f q).2 < 18446744073709551616 ∧ nrm (l.foldl f q).1 = (l.foldl f q).1 ∧ nrm (l.foldl f q).2 = (l.foldl f q).2) := by
    intro l
    induction l with
    | nil => intro q h; exact h
    | cons x l ih => intro q _; exact ih _ (hf q x)
  exact h l (0, 0) ⟨by decide, by decide, by decide, by decide⟩
end Go.Proofs.YteoednbmhiblfaaDoor

/- The program's steps; its running sum. -/
namespace Go.Proofs.YteoednbmhiblfaaDoor
open Go.RowKit J
set_option linter.unusedVariables false
set_option maxRecDepth 20000
set_option linter.unusedSimpArgs false
attribute [local go_sem] st_float

/-- A word that is answered so. -/
def Is (z v : Nat) : Prop := z < 18446744073709551616 ∧ nrm z = v
theorem Is.self {x : Nat} (h : x < 18446744073709551616) : Is x (nrm x) := ⟨h, rfl⟩
theorem Is.pl {x y a b z : Nat} (hx : Is x a) (hy : Is y b) (hz : Gives .add x y z) : Is z (plF a b) := by
  obtain ⟨h1, rfl⟩ := hx
  obtain ⟨h2, rfl⟩ := hy
  obtain ⟨h3, h4⟩ := gives_nrm (.inl rfl) hz
  exact ⟨h4, h3.trans (add_nrm h1 h2).symm⟩
theorem Is.mi {x y a b z : Nat} (hx : Is x a) (hy : Is y b) (hz : Gives .sub x y z) : Is z (miF a b) := by
  obtain ⟨h1, rfl⟩ := hx
  obtain ⟨h2, rfl⟩ := hy
  obtain ⟨h3, h4⟩ := gives_nrm (.inr (.inl rfl)) hz
  exact ⟨h4, h3.trans (sub_nrm h1 h2).symm⟩

theorem plus10 {x y a b : Nat} (hx : Is x a) (hy : Is y b) (w : World) : Calls Tryd.prog 24 #[.float .f64 x, .float .f64 y] w fun r w' => ∃ z, r = .returned (.float .f64 z) ∧ Is z (plF a b) ∧ Below w.heap.size w w' := by
  have HZ : Aside (∀ z, Gives .add x y z → Is z (plF a b)) := fun z hz => hx.pl hy hz
  clear hx hy
  go_enter Tryd.func24, Tryd.ntmps24
  cases h : floatBits .add .f64 x y with
  | some z =>
    have d := run_float_arith (P := Tryd.prog) w .add 24 .f64 x y z h
    go_wp2_with (simp only [d])
    exact bodyPost_ret (v := .float .f64 z) (by simp [results, Tryd.results24, go_sem]) rfl ⟨z, rfl, HZ.out z (.inl h), Below.refl _ _⟩
  | none =>
    obtain ⟨z, hz, d⟩ := run_float_none (P := Tryd.prog) w .add 24 x y (.inl rfl) h
    go_wp2_with (simp only [d])
    exact bodyPost_ret (v := .float .f64 z) (by simp [results, Tryd.results24, go_sem]) rfl ⟨z, rfl, HZ.out z (.inr ⟨h, hz⟩), (Below.refl _ _).drew⟩
theorem minus10 {x y a b : Nat} (hx : Is x a) (hy : Is y b) (w : World) : Calls Tryd.prog 39 #[.float .f64 x, .float .f64 y] w fun r w' => ∃ z, r = .returned (.float .f64 z) ∧ Is z (miF a b) ∧ Below w.heap.size w w' := by
  have HZ : Aside (∀ z, Gives .sub x y z → Is z (miF a b)) := fun z hz => hx.mi hy hz
  clear hx hy
  go_enter Tryd.func39, Tryd.ntmps39
  cases h : floatBits .sub .f64 x y with
  | some z =>
    have d := run_float_arith (P := Tryd.prog) w .sub 24 .f64 x y z h
    go_wp2_with (simp only [d])
    exact bodyPost_ret (v := .float .f64 z) (by simp [results, Tryd.results39, go_sem]) rfl ⟨z, rfl, HZ.out z (.inl h), Below.refl _ _⟩
  | none =>
    obtain ⟨z, hz, d⟩ := run_float_none (P := Tryd.prog) w .sub 24 x y (.inr (.inl rfl)) h
    go_wp2_with (simp only [d])
    exact bodyPost_ret (v := .float .f64 z) (by simp [results, Tryd.results39, go_sem]) rfl ⟨z, rfl, HZ.out z (.inr ⟨h, hz⟩), (Below.refl _ _).drew⟩
theorem told10 {x a : Nat} (hx : Is x a) (w : World) : Calls Tryd.prog 21 #[.float .f64 x] w fun r w' => r = .returned (.float .f64 a) ∧ w' = w := by
  obtain ⟨s, e, f, he, hf, h1, h2⟩ := bwz x hx.1
  have h3 := B.order_self s e f he hf
  rw [← h1, h2] at h3
  have h4 := hx.2
  unfold nrm at h4
  have HN := hid (fun u : World => B.nan_any u)
  clear h1 h2 he hf hx
  cases hn : nanW x
  · rw [hn] at h3 h4
    rw [if_neg (by decide)] at h4
    subst h4
    go_enter Tryd.func21, Tryd.ntmps21
    go_wp2
    go_ret
    exact ⟨rfl, rfl⟩
  · rw [hn] at h3 h4
    rw [if_pos rfl] at h4
    subst h4
    go_enter Tryd.func21, Tryd.ntmps21
    go_wp2_with fail
    refine (HN.out _).mono ?_
    rintro r w1 ⟨rfl, rfl⟩
    go_wp2
    exact bodyPost_ret (v := .float .f64 oddW) (by simp [results, Tryd.results21, go_sem, oddW]) rfl ⟨rfl, rfl⟩


set_option maxHeartbeats 2000000 in
theorem running10 (xs : List Nat) (a : Option Addr) (n c : Nat) (w : World) (hn : n = xs.length) (hF : Fs w.heap.size w a xs) (hW : W64 xs) (hc : n ≤ c) (hm : n ≤ 4611686018427387904) :
    Calls Tryd.prog 22 #[.slice a n c] w fun r w' => ∃ z, r = .returned (.float .f64 z) ∧ Is z (runF xs) ∧ Below w.heap.size w w' := by
  by_cases h0 : n = 0
  · have e : xs = [] := List.eq_nil_of_length_eq_zero (by omega)
    subst h0 e
    clear hF hW hn
    go_enter Tryd.func22, Tryd.ntmps22
    go_wp2
    exact bodyPost_ret (v := .float .f64 0) (by simp [results, Tryd.results22, go_sem]) rfl ⟨0, rfl, ⟨by decide, by decide⟩, Below.refl _ _⟩
  · have hne : xs ≠ [] := by intro e; subst e; simp at hn; omega
    obtain ⟨b, off, hlt, rfl, hcl⟩ := hF hne
    have hc0 := hcl 0 (by omega)
    rw [Nat.add_zero] at hc0
    have HR : Aside (Fs w.heap.size w (some ⟨b, off, none⟩) xs ∧ W64 xs ∧ n = xs.length) := ⟨hF, hW, hn⟩
    have hz0 : ((n : Int) == 0) = false := by simp; omega
    have hz1 : decide ((0 : Int) < n) = true := by simp; omega
    obtain ⟨x0, hx0⟩ : ∃ x0, x0 = xs.getD 0 0 := ⟨_, rfl⟩
    rw [← hx0] at hc0
    have HX := Aside.intro (show Is x0 (runF (xs.take 1)) by rw [runF_one xs (by omega), ← hx0]; exact Is.self (by rw [hx0]; exact hW.get 0))
    have hnc : c = 1 ∨ c ≠ 1 := by omega
    clear hF hW hn hcl hne hlt hx0
    have hcc : (c = 1 ∧ n = 1) ∨ c ≠ 1 := by omega
    clear hnc
    rcases hcc with ⟨hc1, hn1⟩ | hc1
    · subst hc1 hn1
      have HK := Aside.intro (show xs.take 1 = xs by rw [List.take_of_length_le]; rw [← HR.out.2.2]; omega)
      go_enter Tryd.func22, Tryd.ntmps22
      go_wp2
      go_loopg [15, 3] 1 (fun gk i s wr => i = .int .i64 0 ∧ s = .float .f64 x0 ∧ wr = w)
      case atStart => exact ⟨by simp, rfl, rfl⟩
      case round =>
        obtain ⟨rfl, rfl, rfl⟩ := hrel
        go_wp2
        refine bodyPost_ret (v := .float .f64 x0) (by simp [results, Tryd.results22, go_sem]) rfl ?_
        have e := HX.out
        rw [HK.out] at e
        exact ⟨x0, rfl, e, Below.refl _ _⟩
    · go_enter Tryd.func22, Tryd.ntmps22
      go_wp2
      go_loopg [15, 3] n (fun gk i s wr => ∃ (k z : Nat), gk + k = n ∧ i = .int .i64 (k : Nat) ∧ s = .float .f64 z ∧ Aside (Is z (runF (xs.take (k + 1))) ∧ Below w.heap.size w wr))
      case atStart => exact ⟨0, x0, by omega, by simp, rfl, HX.out, Below.refl _ _⟩
      case round =>
        obtain ⟨k, z, hgk, rfl, rfl, HA⟩ := hrel
        by_cases hk : k + 1 < n
        · have hcell := HR.out.1.cell HA.out.2 (k + 1) (by rw [← HR.out.2.2]; exact hk)
          rw [show off + (k + 1) = off + 1 + k by omega] at hcell
          obtain ⟨x, hx⟩ : ∃ x, x = xs.getD (k + 1) 0 := ⟨_, rfl⟩
          rw [← hx] at hcell
          have HP : Hid (∀ u : World, Calls Tryd.prog 24 #[.float .f64 z, .float .f64 x] u fun r w' => ∃ z', r = .returned (.float .f64 z') ∧ Is z' (runF (xs.take (k + 1 + 1))) ∧ Below u.heap.size u w') := fun u => by
            have hx64 : x < 18446744073709551616 := by rw [hx]; exact HR.out.2.1.get (k + 1)
            have h := plus10 HA.out.1 (Is.self hx64) u
            have hw := runF_ok (xs.take (k + 1)) (fun y hy => HR.out.2.1 y (List.mem_of_mem_take hy))
            have e := add_nrm hw.1 hx64
            rw [hw.2] at e
            rw [runF_take xs (k + 1) (by omega) (by rw [← HR.out.2.2]; exact hk), ← hx]
            rw [show plF (runF (xs.take (k + 1))) (nrm x) = plF (runF (xs.take (k + 1))) x from e] at h
            exact h
          have hd : decide ((k : Int) < (n : Int) - 1) = true := by simp; omega
          clear hx
          go_wp2_with fail
          refine (HP.out _).mono ?_
          rintro r w2 ⟨z', rfl, hz', hb2⟩
          have HB := Aside.intro (And.intro hz' hb2)
          clear hz' hb2 HP
          go_wp2
          go_roundg (gk - 1)
          case measure => omega
          case rel => exact ⟨k + 1, z', by omega, by first | rfl | simp, rfl, HB.out.1, HA.out.2.trans (HB.out.2.mono HA.out.2.size)⟩
        · have hd : decide ((k : Int) < (n : Int) - 1) = false := by simp; omega
          have HK := Aside.intro (show xs.take (k + 1) = xs by rw [List.take_of_length_le]; rw [← HR.out.2.2]; omega)
          go_wp2
          refine bodyPost_ret (v := .float .f64 z) (by simp [results, Tryd.results22, go_sem]) rfl ?_
          have e := HA.out.1
          rw [HK.out] at e
          exact ⟨z, rfl, e, HA.out.2⟩

theorem Running10 (xs : List Nat) (a : Option Addr) (n c : Nat) (w : World) (hn : n = xs.length) (hF : Fs w.heap.size w a xs) (hW : W64 xs) (hc : n ≤ c) (hm : n ≤ 4611686018427387904) :
    Calls Tryd.prog 9 #[.slice a n c] w fun r w' => r = .returned (.float .f64 (runF xs)) ∧ Below w.heap.size w w' := by
  have H1 := hid (running10 xs a n c w hn hF hW hc hm)
  obtain ⟨y, hy⟩ : ∃ y, y = runF xs := ⟨_, rfl⟩
  rw [← hy] at H1 ⊢
  clear hn hF hW hc hm hy
  go_enter Tryd.func9, Tryd.ntmps9
  go_wp2_with fail
  refine (H1.out).mono ?_
  rintro r w1 ⟨z, rfl, hz, hb⟩
  have H2 := hid (fun u : World => told10 hz u)
  have HB := Aside.intro hb
  clear hz hb H1
  go_wp2_with fail
  refine (H2.out _).mono ?_
  rintro r w2 ⟨rfl, rfl⟩
  go_wp2
  exact bodyPost_ret (v := .float .f64 y) (by simp [results, Tryd.results9, go_sem]) rfl ⟨rfl, HB.out⟩
end Go.Proofs.YteoednbmhiblfaaDoor

/- The program's Kahan, Neumaier. -/
namespace Go.Proofs.YteoednbmhiblfaaDoor
open Go.RowKit J
set_option linter.unusedVariables false
set_option maxRecDepth 20000
set_option linter.unusedSimpArgs false
attribute [local go_sem] st_float

theorem kaS_nrm {q : Nat × Nat} {x : Nat} (hx : x < 18446744073709551616) (h2 : q.2 < 18446744073709551616) (n2 : nrm q.2 = q.2) : kaS q (nrm x) = kaS q x := by
  have e : miF (nrm x) q.2 = miF x q.2 := by
    have := sub_nrm hx h2
    rw [n2] at this
    exact this
  unfold kaS
  rw [e]
theorem neS_nrm {q : Nat × Nat} {x : Nat} (hx : x < 18446744073709551616) (h1 : q.1 < 18446744073709551616) (n1 : nrm q.1 = q.1) : neS q (nrm x) = neS q x := by
  have e : plF q.1 (nrm x) = plF q.1 x := by
    have := add_nrm h1 hx
    rw [n1] at this
    exact this
  have e2 : nbW q.1 (nrm x) = nbW q.1 x := by have := nbW_nrm q.1 x; rw [n1] at this; exact this
  have e3 : miF (nrm x) (plF q.1 x) = miF x (plF q.1 x) := by
    have := sub_nrm hx (plF_lt q.1 x)
    rw [plF_nrm] at this
    exact this
  have e4 : ∀ y, y < 18446744073709551616 → nrm y = y → plF y (nrm x) = plF y x := fun y hy ny => by
    have := add_nrm hy hx
    rw [ny] at this
    exact this
  unfold neS neV
  rw [e, e2, e3, e4 _ (miF_lt _ _) (miF_nrm _ _)]

set_option maxHeartbeats 1000000 in
theorem repaid10 {s c x a b d : Nat} (hs : Is s a) (hc : Is c b) (hx : Is x d) (w : World) : Calls Tryd.prog 25 #[.float .f64 s, .float .f64 c, .float .f64 x] w fun r w' => ∃ t u, r = .returned (.tuple #[.float .f64 t, .float .f64 u]) ∧ Is t (kaS (a, b) d).1 ∧ Is u (kaS (a, b) d).2 ∧ Below w.heap.size w w' := by
  have H1 := hid (fun u : World => minus10 hx hc u)
  have HS := Aside.intro hs
  clear hs hc hx
  go_enter Tryd.func25, Tryd.ntmps25
  go_wp2_with fail
  refine (H1.out _).mono ?_
  rintro r w1 ⟨y, rfl, hy, hb1⟩
  have H2 := hid (fun u : World => plus10 HS.out hy u)
  have HY := Aside.intro (And.intro hy hb1)
  clear hy hb1 H1
  go_wp2_with fail
  refine (H2.out _).mono ?_
  rintro r w2 ⟨t, rfl, ht, hb2⟩
  have H3 := hid (fun u : World => minus10 ht HS.out u)
  have HT := Aside.intro (And.intro ht (HY.out.2.trans (hb2.mono HY.out.2.size)))
  clear ht hb2 H2
  go_wp2_with fail
  refine (H3.out _).mono ?_
  rintro r w3 ⟨u, rfl, hu, hb3⟩
  have H4 := hid (fun v : World => minus10 hu HY.out.1 v)
  have HU := Aside.intro (HT.out.2.trans (hb3.mono HT.out.2.size))
  clear hu hb3 H3
  go_wp2_with fail
  refine (H4.out _).mono ?_
  rintro r w4 ⟨v, rfl, hv, hb4⟩
  have HV := Aside.intro (And.intro hv (HU.out.trans (hb4.mono HU.out.size)))
  clear hv hb4 H4
  go_wp2
  go_ret2
  exact ⟨t, v, rfl, HT.out.1, HV.out.1, HV.out.2⟩
theorem alone10 (s c : Nat) (w : World) : Calls Tryd.prog 26 #[.float .f64 s, .float .f64 c] w fun r w' => r = .returned (.float .f64 s) ∧ w' = w := by
  go_enter Tryd.func26, Tryd.ntmps26
  go_wp2
  exact bodyPost_ret (v := .float .f64 s) (by simp [results, Tryd.results26, go_sem]) rfl ⟨rfl, rfl⟩
theorem together10 {s c a b : Nat} (hs : Is s a) (hc : Is c b) (w : World) : Calls Tryd.prog 29 #[.float .f64 s, .float .f64 c] w fun r w' => ∃ z, r = .returned (.float .f64 z) ∧ Is z (plF a b) ∧ Below w.heap.size w w' := by
  have H1 := hid (fun u : World => plus10 hs hc u)
  clear hs hc
  go_enter Tryd.func29, Tryd.ntmps29
  go_wp2_with fail
  refine (H1.out _).mono ?_
  rintro r w1 ⟨y, rfl, hy, hb1⟩
  have HY := Aside.intro (And.intro hy hb1)
  clear hy hb1
  go_wp2
  exact bodyPost_ret (v := .float .f64 y) (by simp [results, Tryd.results29, go_sem]) rfl ⟨y, rfl, HY.out.1, HY.out.2⟩

/-- Sizes held against each other. -/
theorem ge_size {s x : Nat} (hs : s < 18446744073709551616) (hx : x < 18446744073709551616) : (FloatKind.f64.format.order (magW s) (magW x) == some .gt || FloatKind.f64.format.order (magW s) (magW x) == some .eq) = nbW s x := by
  obtain ⟨s1, e, f, he, hf, h1, h2⟩ := bwz s hs
  obtain ⟨s2, u, v, hu, hv, h3, h4⟩ := bwz x hx
  have m1 : magW s = B.bw false e f := by
    rw [h1]
    unfold magW B.bw
    cases s1 <;> simp <;> omega
  have m2 : magW x = B.bw false u v := by
    rw [h3]
    unfold magW B.bw
    cases s2 <;> simp <;> omega
  unfold nbW
  rw [m1, m2, B.gt_f64 false false e f u v he hf hu hv, B.eq_f64 false false e f u v he hf hu hv, h2, h4]
  cases nanW s <;> cases nanW x <;> simp
  unfold B.pl B.bw B.sg
  rw [Bool.eq_iff_iff]
  simp
  omega
theorem abs10 {x : Nat} (hx : x < 18446744073709551616) (w : World) : Calls Tryd.prog 40 #[.float .f64 x] w fun r w' => r = .returned (.float .f64 (magW x)) ∧ w' = w := by
  obtain ⟨s, e, f, he, hf, h1, _⟩ := bwz x hx
  have h2 : magW x = B.bw false e f := by
    rw [h1]
    unfold magW B.bw
    cases s <;> simp <;> omega
  rw [h2, h1]
  exact B.abs_any s e f he hf w

set_option maxHeartbeats 2000000 in
theorem saved10 {s c x a b d : Nat} (hs : Is s a) (hc : Is c b) (hx : Is x d) (w : World) : Calls Tryd.prog 28 #[.float .f64 s, .float .f64 c, .float .f64 x] w fun r w' => ∃ t u, r = .returned (.tuple #[.float .f64 t, .float .f64 u]) ∧ Is t (neS (a, b) d).1 ∧ Is u (neS (a, b) d).2 ∧ Below w.heap.size w w' := by
  have hge := ge_size hs.1 hx.1
  have enb : nbW s x = nbW a d := by rw [← hs.2, ← hx.2, nbW_nrm]
  have A1 := hid (fun u : World => abs10 hs.1 u)
  have A2 := hid (fun u : World => abs10 hx.1 u)
  obtain ⟨ms, hms⟩ : ∃ m, m = magW s := ⟨_, rfl⟩
  obtain ⟨mx, hmx⟩ : ∃ m, m = magW x := ⟨_, rfl⟩
  rw [← hms] at A1 hge
  rw [← hmx] at A2 hge
  rw [enb] at hge
  have H1 := hid (fun u : World => plus10 hs hx u)
  have HS := Aside.intro (And.intro hs (And.intro hc hx))
  clear hs hc hx enb hms hmx
  go_enter Tryd.func28, Tryd.ntmps28
  go_wp2_with fail
  refine (H1.out _).mono ?_
  rintro r w1 ⟨t, rfl, ht, hb1⟩
  have HT := Aside.intro (And.intro ht hb1)
  clear ht hb1 H1
  go_wp2_with fail
  refine (A1.out _).mono ?_
  rintro r w1' ⟨rfl, rfl⟩
  go_wp2_with fail
  refine (A2.out _).mono ?_
  rintro r w1'' ⟨rfl, rfl⟩
  clear A1 A2
  cases hnb : nbW a d
  · rw [hnb] at hge
    have HE := Aside.intro (show neS (a, b) d = (plF a d, plF b (plF (miF d (plF a d)) a)) by unfold neS neV; rw [hnb]; rfl)
    clear hnb
    have H3 := hid (fun u : World => minus10 HS.out.2.2 HT.out.1 u)
    go_wp2_with fail
    refine (H3.out _).mono ?_
    rintro r w3 ⟨u, rfl, hu, hb3⟩
    have HU := Aside.intro (And.intro hu (HT.out.2.trans (hb3.mono HT.out.2.size)))
    have H4 := hid (fun v : World => plus10 hu HS.out.1 v)
    clear hu hb3 H3
    go_wp2_with fail
    refine (H4.out _).mono ?_
    rintro r w4 ⟨v, rfl, hv, hb4⟩
    have HV := Aside.intro (And.intro hv (HU.out.2.trans (hb4.mono HU.out.2.size)))
    have H5 := hid (fun v' : World => plus10 HS.out.2.1 hv v')
    clear hv hb4 H4
    go_wp2_with fail
    refine (H5.out _).mono ?_
    rintro r w5 ⟨y, rfl, hy, hb5⟩
    have HY := Aside.intro (And.intro hy (HV.out.2.trans (hb5.mono HV.out.2.size)))
    clear hy hb5 H5
    go_wp2
    go_ret2
    exact ⟨t, y, rfl, by rw [HE.out]; exact HT.out.1, by rw [HE.out]; exact HY.out.1, HY.out.2⟩
  · rw [hnb] at hge
    have HE := Aside.intro (show neS (a, b) d = (plF a d, plF b (plF (miF a (plF a d)) d)) by unfold neS neV; rw [hnb]; rfl)
    clear hnb
    have H3 := hid (fun u : World => minus10 HS.out.1 HT.out.1 u)
    go_wp2_with fail
    refine (H3.out _).mono ?_
    rintro r w3 ⟨u, rfl, hu, hb3⟩
    have HU := Aside.intro (And.intro hu (HT.out.2.trans (hb3.mono HT.out.2.size)))
    have H4 := hid (fun v : World => plus10 hu HS.out.2.2 v)
    clear hu hb3 H3
    go_wp2_with fail
    refine (H4.out _).mono ?_
    rintro r w4 ⟨v, rfl, hv, hb4⟩
    have HV := Aside.intro (And.intro hv (HU.out.2.trans (hb4.mono HU.out.2.size)))
    have H5 := hid (fun v' : World => plus10 HS.out.2.1 hv v')
    clear hv hb4 H4
    go_wp2_with fail
    refine (H5.out _).mono ?_
    rintro r w5 ⟨y, rfl, hy, hb5⟩
    have HY := Aside.intro (And.intro hy (HV.out.2.trans (hb5.mono HV.out.2.size)))
    clear hy hb5 H5
    go_wp2
    go_ret2
    exact ⟨t, y, rfl, by rw [HE.out]; exact HT.out.1, by rw [HE.out]; exact HY.out.1, HY.out.2⟩
end Go.Proofs.YteoednbmhiblfaaDoor

/- The program's Kahan, Neumaier: whole. -/
namespace Go.Proofs.YteoednbmhiblfaaDoor
open Go.RowKit J
set_option linter.unusedVariables false
set_option maxRecDepth 20000
set_option linter.unusedSimpArgs false
attribute [local go_sem] st_float
theorem is_zero : Is 0 0 := ⟨by decide, by decide⟩

set_option maxHeartbeats 2000000 in
theorem sumKahan (xs : List Nat) (a : Option Addr) (n c : Nat) (w : World) (hn : n = xs.length) (hF : Fs w.heap.size w a xs) (hW : W64 xs) (hm : n ≤ 4611686018427387904) :
    Calls Tryd.prog 27 #[.agg #[.func (.func 25) #[] #[], .func (.func 26) #[] #[]], .slice a n c] w fun r w' => r = .returned (.float .f64 (kaF xs).1) ∧ Below w.heap.size w w' := by
  have HR : Aside (Fs w.heap.size w a xs ∧ W64 xs ∧ n = xs.length) := ⟨hF, hW, hn⟩
  have HB0 : Aside (Below w.heap.size w (w.alloc (Obj.cells #[.func (.func 25) #[] #[], .func (.func 26) #[] #[]] 49)) ∧ Bl (w.alloc (Obj.cells #[.func (.func 25) #[] #[], .func (.func 26) #[] #[]] 49)) w.heap.size 49 [.func (.func 25) #[] #[], .func (.func 26) #[] #[]]) := ⟨bel_alloc _ _, Bl.new _ _ _⟩
  clear hF hW hn
  go_enter Tryd.func27, Tryd.ntmps27
  go_wp2
  go_loopg [11, 5, 6] n (fun gk i s q wr => ∃ (k y z : Nat), gk + k = n ∧ i = .int .i64 (k : Nat) ∧ s = .float .f64 y ∧ q = .float .f64 z ∧ Aside (Is y ((xs.take k).foldl kaS (0, 0)).1 ∧ Is z ((xs.take k).foldl kaS (0, 0)).2 ∧ Below w.heap.size w wr ∧ Bl wr w.heap.size 49 [.func (.func 25) #[] #[], .func (.func 26) #[] #[]] ∧ w.heap.size < wr.heap.size))
  case atStart => exact ⟨0, 0, 0, by omega, by simp, rfl, rfl, is_zero, is_zero, HB0.out.1, HB0.out.2, by simp⟩
  case round =>
    obtain ⟨k, y, z, hgk, rfl, rfl, rfl, HA⟩ := hrel
    have q0 := HA.out.2.2.2.1.cell 0 _ rfl
    have q1 := HA.out.2.2.2.1.cell 1 _ rfl
    by_cases hk : k < n
    · obtain ⟨b, off, rfl, hcell⟩ := HR.out.1.at HA.out.2.2.1 k (by rw [← HR.out.2.2]; exact hk)
      obtain ⟨x, hx⟩ : ∃ x, x = xs.getD k 0 := ⟨_, rfl⟩
      rw [← hx] at hcell
      have HP : Hid (∀ u : World, Calls Tryd.prog 25 #[.float .f64 y, .float .f64 z, .float .f64 x] u fun r w' => ∃ t v, r = .returned (.tuple #[.float .f64 t, .float .f64 v]) ∧ Is t ((xs.take (k + 1)).foldl kaS (0, 0)).1 ∧ Is v ((xs.take (k + 1)).foldl kaS (0, 0)).2 ∧ Below u.heap.size u w') := fun u => by
        have hx64 : x < 18446744073709551616 := by rw [hx]; exact HR.out.2.1.get k
        have h := repaid10 HA.out.1 HA.out.2.1 (Is.self hx64) u
        obtain ⟨o1, o2, o3, o4⟩ := fold_ok kaS kaS_ok (xs.take k)
        rw [foldl_take kaS (0, 0) xs k (by rw [← HR.out.2.2]; exact hk), ← hx]
        rw [show (((xs.take k).foldl kaS (0, 0)).1, ((xs.take k).foldl kaS (0, 0)).2) = (xs.take k).foldl kaS (0, 0) from rfl, kaS_nrm hx64 o2 o4] at h
        exact h
      clear hx
      go_wp2_with fail
      refine (HP.out _).mono ?_
      rintro r w2 ⟨t, v, rfl, ht, hv, hb2⟩
      have HB := Aside.intro (And.intro ht (And.intro hv (And.intro (HA.out.2.2.1.trans (hb2.mono HA.out.2.2.1.size)) (And.intro (HA.out.2.2.2.1.below hb2 HA.out.2.2.2.2) (Nat.lt_of_lt_of_le HA.out.2.2.2.2 hb2.size)))))
      clear ht hv hb2 HP
      go_wp2
      go_roundg (gk - 1)
      case measure => omega
      case rel => exact ⟨k + 1, t, v, by omega, by first | rfl | simp, rfl, rfl, HB.out⟩
    · have hd : decide ((k : Int) < n) = false := by simp; omega
      have HK := Aside.intro (show xs.take k = xs by rw [List.take_of_length_le]; rw [← HR.out.2.2]; omega)
      have HE := hid (fun u : World => alone10 y z u)
      go_wp2_with fail
      refine (HE.out _).mono ?_
      rintro r w2 ⟨rfl, rfl⟩
      have HT := hid (fun u : World => told10 HA.out.1 u)
      rw [HK.out] at HT
      obtain ⟨Y, hY⟩ : ∃ Y, Y = (xs.foldl kaS (0, 0)).1 := ⟨_, rfl⟩
      rw [← hY] at HT
      have HY := Aside.intro hY
      clear hY
      go_wp2_with fail
      refine (HT.out _).mono ?_
      rintro r w3 ⟨rfl, rfl⟩
      go_wp2
      refine bodyPost_ret (v := .float .f64 Y) (by simp [results, Tryd.results27, go_sem]) rfl ?_
      exact ⟨by rw [HY.out]; rfl, HA.out.2.2.1⟩

theorem Kahan10 (xs : List Nat) (a : Option Addr) (n c : Nat) (w : World) (hn : n = xs.length) (hF : Fs w.heap.size w a xs) (hW : W64 xs) (hm : n ≤ 4611686018427387904) :
    Calls Tryd.prog 11 #[.slice a n c] w fun r w' => r = .returned (.float .f64 (kaF xs).1) ∧ Below w.heap.size w w' := by
  have H1 := hid (sumKahan xs a n c w hn hF hW hm)
  obtain ⟨y, hy⟩ : ∃ y, y = (kaF xs).1 := ⟨_, rfl⟩
  rw [← hy] at H1 ⊢
  clear hn hF hW hm hy
  go_enter Tryd.func11, Tryd.ntmps11
  go_wp2_with fail
  refine (H1.out).mono ?_
  rintro r w1 ⟨rfl, hb⟩
  have HB := Aside.intro hb
  clear hb
  go_wp2
  exact bodyPost_ret (v := .float .f64 y) (by simp [results, Tryd.results11, go_sem]) rfl ⟨rfl, HB.out⟩

set_option maxHeartbeats 2000000 in
theorem sumNeumaier (xs : List Nat) (a : Option Addr) (n c : Nat) (w : World) (hn : n = xs.length) (hF : Fs w.heap.size w a xs) (hW : W64 xs) (hm : n ≤ 4611686018427387904) :
    Calls Tryd.prog 27 #[.agg #[.func (.func 28) #[] #[], .func (.func 29) #[] #[]], .slice a n c] w fun r w' => r = .returned (.float .f64 (plF (neF xs).1 (neF xs).2)) ∧ Below w.heap.size w w' := by
  have HR : Aside (Fs w.heap.size w a xs ∧ W64 xs ∧ n = xs.length) := ⟨hF, hW, hn⟩
  have HB0 : Aside (Below w.heap.size w (w.alloc (Obj.cells #[.func (.func 28) #[] #[], .func (.func 29) #[] #[]] 49)) ∧ Bl (w.alloc (Obj.cells #[.func (.func 28) #[] #[], .func (.func 29) #[] #[]] 49)) w.heap.size 49 [.func (.func 28) #[] #[], .func (.func 29) #[] #[]]) := ⟨bel_alloc _ _, Bl.new _ _ _⟩
  clear hF hW hn
  go_enter Tryd.func27, Tryd.ntmps27
  go_wp2
  go_loopg [11, 5, 6] n (fun gk i s q wr => ∃ (k y z : Nat), gk + k = n ∧ i = .int .i64 (k : Nat) ∧ s = .float .f64 y ∧ q = .float .f64 z ∧ Aside (Is y ((xs.take k).foldl neS (0, 0)).1 ∧ Is z ((xs.take k).foldl neS (0, 0)).2 ∧ Below w.heap.size w wr ∧ Bl wr w.heap.size 49 [.func (.func 28) #[] #[], .func (.func 29) #[] #[]] ∧ w.heap.size < wr.heap.size))
  case atStart => exact ⟨0, 0, 0, by omega, by simp, rfl, rfl, is_zero, is_zero, HB0.out.1, HB0.out.2, by simp⟩
  case round =>
    obtain ⟨k, y, z, hgk, rfl, rfl, rfl, HA⟩ := hrel
    have q0 := HA.out.2.2.2.1.cell 0 _ rfl
    have q1 := HA.out.2.2.2.1.cell 1 _ rfl
    by_cases hk : k < n
    · obtain ⟨b, off, rfl, hcell⟩ := HR.out.1.at HA.out.2.2.1 k (by rw [← HR.out.2.2]; exact hk)
      obtain ⟨x, hx⟩ : ∃ x, x = xs.getD k 0 := ⟨_, rfl⟩
      rw [← hx] at hcell
      have HP : Hid (∀ u : World, Calls Tryd.prog 28 #[.float .f64 y, .float .f64 z, .float .f64 x] u fun r w' => ∃ t v, r = .returned (.tuple #[.float .f64 t, .float .f64 v]) ∧ Is t ((xs.take (k + 1)).foldl neS (0, 0)).1 ∧ Is v ((xs.take (k + 1)).foldl neS (0, 0)).2 ∧ Below u.heap.size u w') := fun u => by
        have hx64 : x < 18446744073709551616 := by rw [hx]; exact HR.out.2.1.get k
        have h := saved10 HA.out.1 HA.out.2.1 (Is.self hx64) u
        obtain ⟨o1, o2, o3, o4⟩ := fold_ok neS neS_ok (xs.take k)
        rw [foldl_take neS (0, 0) xs k (by rw [← HR.out.2.2]; exact hk), ← hx]
        rw [show (((xs.take k).foldl neS (0, 0)).1, ((xs.take k).foldl neS (0, 0)).2) = (xs.take k).foldl neS (0, 0) from rfl, neS_nrm hx64 o1 o3] at h
        exact h
      clear hx
      go_wp2_with fail
      refine (HP.out _).mono ?_
      rintro r w2 ⟨t, v, rfl, ht, hv, hb2⟩
      have HB := Aside.intro (And.intro ht (And.intro hv (And.intro (HA.out.2.2.1.trans (hb2.mono HA.out.2.2.1.size)) (And.intro (HA.out.2.2.2.1.below hb2 HA.out.2.2.2.2) (Nat.lt_of_lt_of_le HA.out.2.2.2.2 hb2.size)))))
      clear ht hv hb2 HP
      go_wp2
      go_roundg (gk - 1)
      case measure => omega
      case rel => exact ⟨k + 1, t, v, by omega, by first | rfl | simp, rfl, rfl, HB.out⟩
    · have hd : decide ((k : Int) < n) = false := by simp; omega
      have HK := Aside.intro (show xs.take k = xs by rw [List.take_of_length_le]; rw [← HR.out.2.2]; omega)
      have HE := hid (fun u : World => together10 HA.out.1 HA.out.2.1 u)
      go_wp2_with fail
      refine (HE.out _).mono ?_
      rintro r w2 ⟨t, rfl, ht, hb2⟩
      have HT := hid (fun u : World => told10 ht u)
      have HB := Aside.intro (HA.out.2.2.1.trans (hb2.mono HA.out.2.2.1.size))
      clear ht hb2 HE
      rw [HK.out] at HT
      obtain ⟨Y, hY⟩ : ∃ Y, Y = plF (xs.foldl neS (0, 0)).1 (xs.foldl neS (0, 0)).2 := ⟨_, rfl⟩
      rw [← hY] at HT
      have HY := Aside.intro hY
      clear hY
      go_wp2_with fail
      refine (HT.out _).mono ?_
      rintro r w3 ⟨rfl, rfl⟩
      go_wp2
      refine bodyPost_ret (v := .float .f64 Y) (by simp [results, Tryd.results27, go_sem]) rfl ?_
      exact ⟨by rw [HY.out]; rfl, HB.out⟩

theorem Neumaier10 (xs : List Nat) (a : Option Addr) (n c : Nat) (w : World) (hn : n = xs.length) (hF : Fs w.heap.size w a xs) (hW : W64 xs) (hm : n ≤ 4611686018427387904) :
    Calls Tryd.prog 12 #[.slice a n c] w fun r w' => r = .returned (.float .f64 (plF (neF xs).1 (neF xs).2)) ∧ Below w.heap.size w w' := by
  have H1 := hid (sumNeumaier xs a n c w hn hF hW hm)
  obtain ⟨y, hy⟩ : ∃ y, y = (plF (neF xs).1 (neF xs).2) := ⟨_, rfl⟩
  rw [← hy] at H1 ⊢
  clear hn hF hW hm hy
  go_enter Tryd.func12, Tryd.ntmps12
  go_wp2_with fail
  refine (H1.out).mono ?_
  rintro r w1 ⟨rfl, hb⟩
  have HB := Aside.intro hb
  clear hb
  go_wp2
  exact bodyPost_ret (v := .float .f64 y) (by simp [results, Tryd.results12, go_sem]) rfl ⟨rfl, HB.out⟩
end Go.Proofs.YteoednbmhiblfaaDoor

