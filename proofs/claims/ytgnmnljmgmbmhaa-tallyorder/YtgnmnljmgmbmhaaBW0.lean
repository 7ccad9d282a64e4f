/- Plain facts on the bits of a number of 64 bits: its sign, its exponent's field, its fraction's field; what is taken apart. -/
import Derived.WalkKit
import Derived.Test.YtgnmnljmgmbmhaaBIeee
namespace Go.Proofs.Ytgnmnljmgmbmhaa.B
set_option linter.unusedVariables false
set_option maxRecDepth 20000

def bw (s : Bool) (e f : Nat) : Nat := s.toNat * 9223372036854775808 + e * 4503599627370496 + f

theorem bw_of (b : Nat) (hb : b < 18446744073709551616) : ∃ s e f, e < 2048 ∧ f < 4503599627370496 ∧ b = bw s e f := by
  refine ⟨decide (9223372036854775808 ≤ b), b % 9223372036854775808 / 4503599627370496, b % 4503599627370496, by omega, by omega, ?_⟩
  unfold bw
  by_cases h : 9223372036854775808 ≤ b
  · rw [decide_eq_true h]; simp only [Bool.toNat_true]; omega
  · rw [decide_eq_false h]; simp only [Bool.toNat_false]; omega

theorem bw_lt (s : Bool) (e f : Nat) (he : e < 2048) (hf : f < 4503599627370496) : bw s e f < 18446744073709551616 := by
  unfold bw; cases s <;> simp only [Bool.toNat_true, Bool.toNat_false] <;> omega

theorem wraps_i64 (n : Int) (h0 : 0 ≤ n) (h1 : n < 2 ^ 63) : IntKind.i64.wrap n = n := by rw [IntKind.wrap_i64]; omega
theorem wraps_u64 (n : Int) (h0 : 0 ≤ n) (h1 : n < 2 ^ 64) : IntKind.u64.wrap n = n := by
  simp [IntKind.wrap, IntKind.bits, IntKind.signed]; omega

theorem bw_exp (s : Bool) (e f : Nat) (he : e < 2048) (hf : f < 4503599627370496) : bits .and .i64 ((bw s e f : Int) / 4503599627370496) 2047 = (e : Int) := by
  have hl := bw_lt s e f he hf
  have h := bits_mask .i64 63 (by decide) wraps_i64 11 (by decide) ((bw s e f : Int) / 4503599627370496) (by omega) (by omega)
  rw [show ((2 : Int) ^ 11 - 1) = 2047 from rfl] at h
  rw [h]
  unfold bw; cases s <;> simp only [Bool.toNat_true, Bool.toNat_false] <;> omega

theorem bw_frac (s : Bool) (e f : Nat) (he : e < 2048) (hf : f < 4503599627370496) : bits .and .u64 ((bw s e f : Nat) : Int) 4503599627370495 = (f : Int) := by
  have hl := bw_lt s e f he hf
  have h := bits_mask .u64 64 (by decide) wraps_u64 52 (by decide) (bw s e f : Int) (by omega) (by omega)
  rw [show ((2 : Int) ^ 52 - 1) = 4503599627370495 from rfl] at h
  rw [h]
  unfold bw; cases s <;> simp only [Bool.toNat_true, Bool.toNat_false] <;> omega

theorem bw_sign (s : Bool) (e f : Nat) (he : e < 2048) (hf : f < 4503599627370496) : bits .and .u64 ((bw s e f : Int) / 9223372036854775808) 1 = (s.toNat : Int) := by
  have hl := bw_lt s e f he hf
  have h := bits_mask .u64 64 (by decide) wraps_u64 1 (by decide) ((bw s e f : Int) / 9223372036854775808) (by omega) (by omega)
  rw [show ((2 : Int) ^ 1 - 1) = 1 from rfl] at h
  rw [h]
  unfold bw; cases s <;> simp only [Bool.toNat_true, Bool.toNat_false] <;> omega

theorem frac_or (f : Nat) (hf : f < 4503599627370496) : bits .or .u64 (f : Int) 4503599627370496 = (f : Int) + 4503599627370496 := by
  have hc : bits .or .u64 (f : Int) 4503599627370496 = bits .or .u64 4503599627370496 (f : Int) := by simp only [bits, BitVec.or_comm]
  rw [hc, bits_join .u64 64 (by decide) wraps_u64 52 4503599627370496 (f : Int) (by decide) (by decide) (by decide) (by omega) (by omega) (by omega)]
  omega

/-- Parts as a value. -/
def pv (neg : Bool) (c x : Int) (f : Int) : Value := .agg #[.bool neg, .int .i64 c, .int .i64 x, .int .u64 f]

def cls (e f : Nat) : Int := if e = 2047 then (if f = 0 then 3 else 4) else if e = 0 then (if f = 0 then 0 else 1) else 2
def xp (e : Nat) : Int := if e = 2047 then 0 else if e = 0 then -1074 else (e : Int) - 1075
def fr (e f : Nat) : Int := if e = 2047 then 0 else if e = 0 then (f : Int) else (f : Int) + 4503599627370496
def ng (s : Bool) (e f : Nat) : Bool := if e = 2047 ∧ f ≠ 0 then false else s
def splitV (s : Bool) (e f : Nat) : Value := pv (ng s e f) (cls e f) (xp e) (fr e f)

theorem splitV_odd (s : Bool) (e f : Nat) (h : e = 2047) (h2 : ((f : Int) != 0) = true) : splitV s e f = .agg #[.bool false, .int .i64 4, .int .i64 0, .int .u64 0] := by
  have : f ≠ 0 := by intro h; subst h; simp at h2
  simp [splitV, pv, ng, cls, xp, fr, h, this]
theorem splitV_end (s : Bool) (e f : Nat) (h : e = 2047) (h2 : ((f : Int) != 0) = false) : splitV s e f = .agg #[.bool s, .int .i64 3, .int .i64 0, .int .u64 0] := by
  have : f = 0 := by simp at h2; omega
  simp [splitV, pv, ng, cls, xp, fr, h, this]
theorem splitV_nought (s : Bool) (e f : Nat) (h : e = 0) (h2 : ((f : Int) == 0) = true) : splitV s e f = .agg #[.bool s, .int .i64 0, .int .i64 (-1074), .int .u64 0] := by
  have : f = 0 := by simp at h2; omega
  simp [splitV, pv, ng, cls, xp, fr, h, this]
theorem splitV_small (s : Bool) (e f : Nat) (h : e = 0) (h2 : ((f : Int) == 0) = false) : splitV s e f = .agg #[.bool s, .int .i64 1, .int .i64 (-1074), .int .u64 f] := by
  have : f ≠ 0 := by intro h; subst h; simp at h2
  simp [splitV, pv, ng, cls, xp, fr, h, this]
theorem splitV_plain (s : Bool) (e f : Nat) (h : e ≠ 2047) (h2 : e ≠ 0) : splitV s e f = .agg #[.bool s, .int .i64 2, .int .i64 ((e : Int) - 1075), .int .u64 ((f : Int) + 4503599627370496)] := by
  simp [splitV, pv, ng, cls, xp, fr, h, h2]

/-- NaN? -/
def odd (e f : Nat) : Bool := e == 2047 && f != 0

theorem not_odd (e f : Nat) (h : odd e f = false) : ¬ (e = 2047 ∧ f ≠ 0) := by
  rintro ⟨h1, h2⟩; simp [odd, h1, h2] at h
theorem is_odd (e f : Nat) (h : odd e f = true) : e = 2047 ∧ f ≠ 0 := by
  simpa [odd] using h

/-- the bits, of a NaN those of the one that is answered. -/
def cb (s : Bool) (e f : Nat) : Nat := if e = 2047 ∧ f ≠ 0 then 9221120237041090560 else bw s e f
theorem cb_odd (s : Bool) (e f : Nat) (h : e = 2047 ∧ f ≠ 0) : cb s e f = 9221120237041090560 := if_pos h
theorem cb_else (s : Bool) (e f : Nat) (h : ¬ (e = 2047 ∧ f ≠ 0)) : cb s e f = bw s e f := if_neg h

theorem bw_mod (s : Bool) (e f : Nat) (he : e < 2048) (hf : f < 4503599627370496) : (bw s e f : Int) % 9223372036854775808 = (e : Int) * 4503599627370496 + f := by
  unfold bw; cases s <;> simp only [Bool.toNat_true, Bool.toNat_false] <;> omega

theorem dInf : Ieee.double.infRung = 9218868437227405312 := by decide
theorem dSign : Ieee.double.signWeight = 9223372036854775808 := by decide
theorem dBin : Ieee.double.binade = 4503599627370496 := by decide
theorem dHs : Ieee.double.infRung < Ieee.double.signWeight := by decide
theorem dHb : Ieee.double.binade ≤ Ieee.double.infRung := by decide

/-- the bits as a word. -/
theorem bw_word (s : Bool) (e f : Nat) : bw s e f = Ieee.double.word s (e * 4503599627370496 + f) := by
  unfold bw Ieee.Format.word
  rw [dSign]
  cases s <;> simp [Nat.add_assoc]

theorem bw_read_odd (s : Bool) (e f : Nat) (hf : f < 4503599627370496) (h : odd e f = true) : Ieee.double.read (bw s e f) = .nan s f := by
  have h0 : e = 2047 ∧ f ≠ 0 := by simpa [odd] using h
  have e1 : bw s e f % Ieee.double.signWeight = e * 4503599627370496 + f := by
    rw [dSign]; unfold bw; cases s <;> simp only [Bool.toNat_true, Bool.toNat_false] <;> omega
  have e2 : (bw s e f / Ieee.double.signWeight % 2 == 1) = s := by
    rw [dSign]
    cases s
    · have : bw false e f / 9223372036854775808 % 2 = 0 := by unfold bw; simp only [Bool.toNat_false]; omega
      rw [this]; rfl
    · have : bw true e f / 9223372036854775808 % 2 = 1 := by unfold bw; simp only [Bool.toNat_true]; omega
      rw [this]; rfl
  rw [read_nan Ieee.double _ (by rw [e1, dInf]; omega) dHb, e1, e2, dInf, show e * 4503599627370496 + f - 9218868437227405312 = f from by omega]

theorem rung_le (e f : Nat) (he : e < 2048) (hf : f < 4503599627370496) (h : odd e f = false) : e * 4503599627370496 + f ≤ Ieee.double.infRung := by
  rw [dInf]; have := not_odd e f h; omega

theorem bw_ne_nan (s : Bool) (e f : Nat) (he : e < 2048) (hf : f < 4503599627370496) (h : odd e f = false) : ¬ bw s e f = 9221120237041090560 := by
  have := not_odd e f h
  unfold bw; cases s <;> simp only [Bool.toNat_true, Bool.toNat_false] <;> omega

/-- the place of a number in the order of all but NaN. -/
def pl (s : Bool) (e f : Nat) : Int := sg s (e * 4503599627370496 + f)

theorem ord (s t : Bool) (e f u v : Nat) (he : e < 2048) (hf : f < 4503599627370496) (hu : u < 2048) (hv : v < 4503599627370496) :
    FloatKind.f64.format.order (bw s e f) (bw t u v) = if odd e f || odd u v then none else some (compare (pl s e f) (pl t u v)) := by
  show Ieee.double.order _ _ = _
  by_cases h1 : odd e f = true
  · rw [h1]
    show (Ieee.double.read (bw s e f)).order _ = none
    rw [bw_read_odd s e f hf h1]; rfl
  · by_cases h2 : odd u v = true
    · rw [h2]
      show (Ieee.double.read (bw s e f)).order (Ieee.double.read (bw t u v)) = if (odd e f || true) = true then none else _
      rw [bw_read_odd t u v hv h2, Bool.or_true, if_pos rfl]
      cases Ieee.double.read (bw s e f) <;> rfl
    · have h3 : odd e f = false := by simpa using h1
      have h4 : odd u v = false := by simpa using h2
      rw [h3, h4, bw_word, bw_word]
      rw [order_word Ieee.double dHs dHb s t _ _ (rung_le e f he hf h3) (rung_le u v hu hv h4)]
      simp [pl]

theorem order_self (s : Bool) (e f : Nat) (he : e < 2048) (hf : f < 4503599627370496) : (FloatKind.f64.format.order (bw s e f) (bw s e f) != some .eq) = odd e f := by
  rw [ord s s e f e f he hf he hf, Bool.or_self, Int.compare_eq_eq.2 rfl]
  cases odd e f <;> rfl
end Go.Proofs.Ytgnmnljmgmbmhaa.B
