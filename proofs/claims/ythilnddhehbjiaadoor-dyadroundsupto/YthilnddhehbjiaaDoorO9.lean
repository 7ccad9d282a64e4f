/- 32 bits: where a value lies, what it is rounded to: plain mathematics. -/
import Derived.Test.YthilnddhehbjiaaDoorO1x
namespace Go.Proofs.YthilnddhehbjiaaDoor.S
open Go.RowKit
set_option linter.unusedVariables false
set_option maxRecDepth 20000
theorem sBin : Ieee.single.binade = 8388608 := by decide
def rndK (mode : Int) (n : Bool) (X : Nat) (e : Int) : Nat :=
  let p := plc 24 (-149) 128 X e
  (p.2.1 + 149).toNat * 8388608 + (if p.2.2.1 then p.1 else if outS mode p.1 p.2.2.2 n then p.1 + 1 else p.1)

theorem plc_facts (X : Nat) (e : Int) (hX : X ≠ 0) (he0 : -1048576 ≤ e) (he1 : e ≤ 1048576) :
    (plc 24 (-149) 128 X e).1 ≤ 16777215 ∧ -149 ≤ (plc 24 (-149) 128 X e).2.1 ∧ (plc 24 (-149) 128 X e).2.1 ≤ 104 ∧ ((plc 24 (-149) 128 X e).2.1 = -149 ∨ 8388608 ≤ (plc 24 (-149) 128 X e).1) := by
  have hb := bl_pos X hX
  have h1 := bl_lt X
  have h2 := bl_ge X hX
  have e53 : (2 : Nat) ^ 24 = 16777216 := rfl
  have e52 : (2 : Nat) ^ 23 = 8388608 := rfl
  unfold plc
  by_cases hf : 128 < e + (bl X : Int)
  · rw [if_pos hf]
    refine ⟨by simp, by simp, by simp, .inr (by simp)⟩
  · rw [if_neg hf]
    simp only
    obtain ⟨ex, hex⟩ : ∃ ex, max (e + (bl X : Int) - ((24 : Nat) : Int)) (-149) = ex := ⟨_, rfl⟩
    rw [hex]
    by_cases ho : ex - e ≤ 0
    · rw [if_pos ho]
      obtain ⟨k, hk⟩ : ∃ k : Nat, (-(ex - e)).toNat = k := ⟨_, rfl⟩
      rw [hk]
      have hub : X * 2 ^ k < 2 ^ (bl X + k) := by rw [Nat.pow_add]; exact Nat.mul_lt_mul_of_pos_right h1 (Nat.two_pow_pos k)
      have hm : 2 ^ (bl X + k) ≤ 2 ^ 24 := Nat.pow_le_pow_right (by omega) (by omega)
      refine ⟨by simp only; omega, by simp only; omega, by simp only; omega, ?_⟩
      by_cases hl : ex = -149
      · exact .inl hl
      · right
        have hlb : 2 ^ (bl X - 1) * 2 ^ k ≤ X * 2 ^ k := Nat.mul_le_mul_right _ h2
        rw [← Nat.pow_add, show bl X - 1 + k = 23 by omega] at hlb
        simp only
        omega
    · rw [if_neg ho]
      obtain ⟨k, hk⟩ : ∃ k : Nat, (ex - e).toNat = k := ⟨_, rfl⟩
      rw [hk]
      have hub : X / 2 ^ k < 2 ^ 24 := by
        rw [Nat.div_lt_iff_lt_mul (Nat.two_pow_pos k), ← Nat.pow_add]
        exact Nat.lt_of_lt_of_le h1 (Nat.pow_le_pow_right (by omega) (by omega))
      refine ⟨by simp only; omega, by simp only; omega, by simp only; omega, ?_⟩
      by_cases hl : ex = -149
      · exact .inl hl
      · right
        have hlb : 2 ^ 23 ≤ X / 2 ^ k := by
          rw [Nat.le_div_iff_mul_le (Nat.two_pow_pos k), ← Nat.pow_add, show 23 + k = bl X - 1 by omega]
          exact h2
        simp only
        omega

/-- The greatest finite word that is not above a value, and the word after it. -/
def flK (X : Nat) (e : Int) : Nat := ((plc 24 (-149) 128 X e).2.1 + 149).toNat * 8388608 + (plc 24 (-149) 128 X e).1
/-- A word's value. -/
abbrev vK (K : Nat) : Nat := B.val Ieee.single K
theorem vK_lt {K L : Nat} : vK K < vK L ↔ K < L := B.val_lt_iff Ieee.single
theorem vK_word (j F : Nat) (h : j = 0 ∨ 8388608 ≤ F) (hF : F ≤ 16777216) : vK (j * 8388608 + F) = F * 2 ^ j := by
  have := B.val_at Ieee.single j F (by rw [sBin]; exact h) (by rw [sBin]; omega)
  rw [sBin] at this
  exact this

/-- Where a value lies: at a word, or between it and the next one; how it stands to their middle. V: the value, S: what the words' unit is. -/
structure Lies (K : Nat) (at' : Bool) (mid : Int) (V S : Nat) : Prop where
  fin : K < 2139095040
  pos : 0 < S
  one : at' = true → V = vK K * S
  low : at' = false → vK K * S < V
  mids : at' = false → V < vK (K + 1) * S → (mid = -1 ∧ 2 * V < vK K * S + vK (K + 1) * S ∨ mid = 0 ∧ 2 * V = vK K * S + vK (K + 1) * S ∨ mid = 1 ∧ vK K * S + vK (K + 1) * S < 2 * V)
  high : at' = false → V < vK (K + 1) * S ∨ (K = 2139095039 ∧ mid = 1)

theorem lies (X : Nat) (e : Int) (hX : X % 2 = 1) (he0 : -1048576 ≤ e) (he1 : e ≤ 1048576) (Bs : Int) (h1 : Bs ≤ e) (h2 : Bs ≤ -149) :
    Lies (flK X e) (plc 24 (-149) 128 X e).2.2.1 (plc 24 (-149) 128 X e).2.2.2 (X * 2 ^ (e - Bs).toNat) (2 ^ (-149 - Bs).toNat) := by
  have hX0 : X ≠ 0 := by omega
  obtain ⟨f1, f2, f3, f4⟩ := plc_facts X e hX0 he0 he1
  obtain ⟨j, hj⟩ : ∃ j : Nat, ((plc 24 (-149) 128 X e).2.1 + 149).toNat = j := ⟨_, rfl⟩
  have hS : 0 < 2 ^ (-149 - Bs).toNat := Nat.two_pow_pos _
  have hw : ∀ F, F ≤ 16777216 → (j = 0 ∨ 8388608 ≤ F) → vK (j * 8388608 + F) * 2 ^ (-149 - Bs).toNat = F * 2 ^ ((plc 24 (-149) 128 X e).2.1 - Bs).toNat := by
    intro F hF hn
    rw [vK_word j F hn hF, Nat.mul_assoc, ← Nat.pow_add]
    congr 2
    omega
  have hn1 : j = 0 ∨ 8388608 ≤ (plc 24 (-149) 128 X e).1 := by
    rcases f4 with h | h
    · left; omega
    · exact .inr h
  have w1 := hw (plc 24 (-149) 128 X e).1 (by omega) hn1
  have w2 := hw ((plc 24 (-149) 128 X e).1 + 1) (by omega) (by rcases hn1 with h | h; exact .inl h; exact .inr (by omega))
  have hflK : flK X e = j * 8388608 + (plc 24 (-149) 128 X e).1 := by unfold flK; rw [hj]
  have hflK1 : flK X e + 1 = j * 8388608 + ((plc 24 (-149) 128 X e).1 + 1) := by rw [hflK]; omega
  have hfin : flK X e < 2139095040 := by rw [hflK]; omega
  rw [← hflK] at w1
  rw [← hflK1] at w2
  by_cases hin : 128 < e + (bl X : Int)
  · have hp : plc 24 (-149) 128 X e = ((2 ^ 24 - 1 : Nat), ((128 : Int) - ((24 : Nat) : Int)), false, (1 : Int)) := by unfold plc; rw [if_pos hin]
    have hK : flK X e = 2139095039 := by unfold flK; rw [hp]; rfl
    refine ⟨hfin, hS, fun h => (by rw [hp] at h; cases h), fun _ => ?_, fun _ hlt => ?_, fun _ => .inr ⟨hK, (by rw [hp])⟩⟩
    · rw [w1]
      have hlow : (2 ^ 24 - 1) * 2 ^ (104 - Bs).toNat < 2 ^ 24 * 2 ^ (104 - Bs).toNat := Nat.mul_lt_mul_of_pos_right (by decide) (Nat.two_pow_pos _)
      have hup : 2 ^ 24 * 2 ^ (104 - Bs).toNat ≤ X * 2 ^ (e - Bs).toNat := by
        have hb := bl_ge X hX0
        have hbp := bl_pos X hX0
        refine Nat.le_trans ?_ (Nat.mul_le_mul_right _ hb)
        rw [← Nat.pow_add, ← Nat.pow_add]
        exact Nat.pow_le_pow_right (by omega) (by omega)
      rw [hp]
      exact Nat.lt_of_lt_of_le hlow hup
    · exfalso
      rw [w2, hp] at hlt
      have hup : 2 ^ 24 * 2 ^ (104 - Bs).toNat ≤ X * 2 ^ (e - Bs).toNat := by
        have hb := bl_ge X hX0
        have hbp := bl_pos X hX0
        refine Nat.le_trans ?_ (Nat.mul_le_mul_right _ hb)
        rw [← Nat.pow_add, ← Nat.pow_add]
        exact Nat.pow_le_pow_right (by omega) (by omega)
      exact absurd hlt (Nat.not_lt.2 hup)
  · obtain ⟨_, hfl⟩ := plc_floor 24 (-149) 128 X e hX Bs h1 h2 hin
    have hmid : vK (flK X e) * 2 ^ (-149 - Bs).toNat + vK (flK X e + 1) * 2 ^ (-149 - Bs).toNat = (2 * (plc 24 (-149) 128 X e).1 + 1) * 2 ^ ((plc 24 (-149) 128 X e).2.1 - Bs).toNat := by
      rw [w1, w2, ← Nat.add_mul]; congr 1; omega
    rcases hfl with ⟨ht, hv⟩ | ⟨hf, hlo, hhi, hm⟩
    · exact ⟨hfin, hS, fun _ => (by rw [w1]; exact hv), fun h => (by rw [ht] at h; cases h), fun h => (by rw [ht] at h; cases h), fun h => (by rw [ht] at h; cases h)⟩
    · refine ⟨hfin, hS, fun h => (by rw [hf] at h; cases h), fun _ => (by rw [w1]; exact hlo), fun _ _ => (by rw [hmid]; exact hm), fun _ => .inl (by rw [w2]; exact hhi)⟩
theorem vS_le {K L S : Nat} (h : K ≤ L) : vK K * S ≤ vK L * S := by
  rcases Nat.lt_or_ge K L with k | k
  · exact Nat.mul_le_mul_right _ (Nat.le_of_lt (vK_lt.2 k))
  · rw [show K = L by omega]; exact Nat.le_refl _
theorem vS_lt {K L S : Nat} (hS : 0 < S) (h : K < L) : vK K * S < vK L * S := Nat.mul_lt_mul_of_pos_right (vK_lt.2 h) hS
theorem Lies.ge {K : Nat} {t : Bool} {m : Int} {V S : Nat} (h : Lies K t m V S) : vK K * S ≤ V := by
  cases ht : t
  · exact Nat.le_of_lt (h.low ht)
  · rw [h.one ht]; exact Nat.le_refl _

/-- The word that is answered. -/
def rK (mode : Int) (n : Bool) (K : Nat) (t : Bool) (m : Int) : Nat := if t then K else if outS mode K m n then K + 1 else K
theorem outS_par (mode : Int) (j F : Nat) (m : Int) (n : Bool) : outS mode (j * 8388608 + F) m n = outS mode F m n := by
  unfold outS
  rw [show (j * 8388608 + F) % 2 = F % 2 by omega]
theorem rndK_eq (mode : Int) (n : Bool) (X : Nat) (e : Int) : rndK mode n X e = rK mode n (flK X e) (plc 24 (-149) 128 X e).2.2.1 (plc 24 (-149) 128 X e).2.2.2 := by
  unfold rndK rK flK
  simp only
  rw [outS_par]
  split
  · rfl
  · split <;> omega


/-- The number that a search by halves ends at is where the value lies; the halves are what the place told. -/
theorem Lies.doc {K : Nat} {t : Bool} {m : Int} {V S : Nat} (h : Lies K t m V S) (k : Nat) (hk : k < 2139095040) (h1 : vK k * S ≤ V) (h2 : k + 1 = 2139095040 ∨ V < vK (k + 1) * S) :
    k = K ∧ t = decide (V = vK K * S) ∧ (t = false → m = cmpZ ((2 * V : Nat) : Int) ((vK K * S + vK (K + 1) * S : Nat) : Int)) := by
  have hge := h.ge
  have hfin := h.fin
  have hpos := h.pos
  have hkK : k = K := by
    rcases Nat.lt_trichotomy k K with q | q | q
    · exfalso
      rcases h2 with e | e
      · omega
      · have := vS_le (S := S) (show k + 1 ≤ K by omega)
        omega
    · exact q
    · exfalso
      have a1 := vS_le (S := S) (show K + 1 ≤ k by omega)
      have a2 := vS_lt (K := K) (L := K + 1) hpos (by omega)
      cases t with
      | true =>
        have := h.one rfl
        omega
      | false =>
        rcases h.high rfl with e | e
        · omega
        · omega
  subst hkK
  refine ⟨rfl, ?_, ?_⟩
  · cases t with
    | true => exact (decide_eq_true (h.one rfl)).symm
    | false =>
      have := h.low rfl
      exact (decide_eq_false (by omega)).symm
  · intro ht
    have a2 := vS_lt (K := k) (L := k + 1) hpos (by omega)
    by_cases hb : V < vK (k + 1) * S
    · have hm := h.mids ht hb
      generalize vK k * S = A at *
      generalize vK (k + 1) * S = C at *
      unfold cmpZ
      rcases hm with ⟨e, q⟩ | ⟨e, q⟩ | ⟨e, q⟩
      · rw [if_pos (by omega), e]
      · rw [if_neg (by omega), if_neg (by omega), e]
      · rw [if_neg (by omega), if_pos (by omega), e]
    · rcases h.high ht with e | ⟨_, e⟩
      · exact absurd e hb
      · generalize vK k * S = A at *
        generalize vK (k + 1) * S = C at *
        unfold cmpZ
        rw [if_neg (by omega), if_pos (by omega), e]

/-- The document's Nearby, over where its search ended. -/
def nbyK (mode : Int) (n : Bool) (k : Nat) (V S : Nat) : Nat :=
  if V = vK k * S then k else if outS mode k (cmpZ ((2 * V : Nat) : Int) ((vK k * S + vK (k + 1) * S : Nat) : Int)) n then k + 1 else k
theorem nby_rK (mode : Int) (n : Bool) {K : Nat} {t : Bool} {m : Int} {V S : Nat} (h : Lies K t m V S) (k : Nat) (hk : k < 2139095040) (h1 : vK k * S ≤ V) (h2 : k + 1 = 2139095040 ∨ V < vK (k + 1) * S) :
    nbyK mode n k V S = rK mode n K t m := by
  obtain ⟨rfl, ht, hm⟩ := h.doc k hk h1 h2
  unfold nbyK rK
  cases t with
  | true => rw [if_pos (of_decide_eq_true ht.symm), if_pos rfl]
  | false => rw [if_neg (of_decide_eq_false ht.symm), ← hm rfl]; rfl

end Go.Proofs.YthilnddhehbjiaaDoor.S
