/- Plain facts on numbers of 32 bits as numbers of 64: their values, conversions both ways, the middle between two neighbours. -/
import Derived.Test.YtedknjiipmppgabIeee2
import Derived.Test.YtedknjiipmppgabFl
import Derived.Test.YtedknjiipmppgabMkE
import Derived.Laws.FloatArith
namespace Go.Proofs.Ytedknjiipmppgab

/-- how many places the least of 32 bits lies above the least of 64. -/
def gp : Nat := 925
theorem gp_eq : gp = 925 := rfl

theorem sInf : Ieee.single.infRung = 2139095040 := by decide
theorem sSign : Ieee.single.signWeight = 2147483648 := by decide
theorem sBin : Ieee.single.binade = 8388608 := by decide
theorem sHs : Ieee.single.infRung < Ieee.single.signWeight := by decide
theorem sHb : Ieee.single.binade ≤ Ieee.single.infRung := by decide
theorem sLeast : Ieee.single.leastPlace = -149 := by decide
theorem dLeast : Ieee.double.leastPlace = -1074 := by decide

/-- each number of 32 bits is one of 64; so is the one that would follow the greatest. -/
theorem up_exists (r : Nat) (hr : r ≤ 2139095040) : ∃ e f, e < 2047 ∧ f < 4503599627370496 ∧ val Ieee.double (e * 4503599627370496 + f) = val Ieee.single r * 2 ^ gp := by
  unfold val
  rw [sBin]
  by_cases h : r < 8388608
  · rw [if_pos h]
    exact mk_exists gp r (by omega) (by rw [gp_eq]; omega)
  · rw [if_neg h, Nat.mul_assoc, ← Nat.pow_add]
    exact mk_exists (r / 8388608 - 1 + gp) (8388608 + r % 8388608) (by omega) (by have := gp_eq; omega)

theorem read_word_bd (f : Ieee.Format) (s : Bool) (r : Nat) (hr : r < f.infRung) (hs : f.infRung < f.signWeight) :
    ∃ m : Nat, ∃ k : Nat, f.read (f.word s r) = .number s m (f.leastPlace + k) ∧ m * 2 ^ k = val f r ∧ m < 2 * f.binade := by
  have key : (f.word s r / f.signWeight % 2 == 1) = s ∧ f.word s r % f.signWeight = r := by
    unfold Ieee.Format.word
    cases s
    · simp only [Bool.false_eq_true, if_false]
      rw [Nat.div_eq_of_lt (by omega)]; exact ⟨rfl, Nat.mod_eq_of_lt (by omega)⟩
    · simp only [if_true]
      rw [Nat.add_div_left _ (by omega), Nat.div_eq_of_lt (by omega), Nat.add_mod_left]; exact ⟨rfl, Nat.mod_eq_of_lt (by omega)⟩
  have hb := binade_pos f
  unfold Ieee.Format.read
  simp only [key.1, key.2]
  unfold val
  by_cases h : r < f.binade
  · rw [if_pos h, if_pos h]
    exact ⟨r, 0, by simp, by simp, by omega⟩
  · rw [if_neg h, if_neg h, if_pos hr]
    have := Nat.mod_lt r hb
    exact ⟨_, _, rfl, rfl, by omega⟩

/-- half of a number, exact. -/
theorem div_two (d h : Nat) (hd : d < 9218868437227405312) (hh : h < 9218868437227405312) (hv : val Ieee.double d = 2 * val Ieee.double h) (hp : 0 < val Ieee.double h) :
    Ieee.double.div (Ieee.double.word false d) 4611686018427387904 = some (Ieee.double.word false h) := by
  obtain ⟨m, k, e1, v1, hm⟩ := read_word_bd Ieee.double false d (by rw [dInf]; exact hd) dHs
  have e2 : Ieee.double.read 4611686018427387904 = .number false 4503599627370496 (-51) := by decide
  unfold Ieee.Format.div
  rw [e1, e2]
  unfold Ieee.Datum.quotient
  simp only
  have hm0 : m ≠ 0 := by
    rintro rfl
    rw [Nat.zero_mul] at v1; omega
  have hl := (Nat.log2_eq_iff hm0 (k := m.log2)).1 rfl
  have hL : m.log2 < 53 := by
    rw [dBin] at hm
    refine (Nat.pow_lt_pow_iff_right (a := 2) (by omega)).1 (Nat.lt_of_le_of_lt hl.1 (Nat.lt_of_lt_of_le hm (by decide)))
  have hlog : Nat.log2 4503599627370496 = 52 := by decide
  have hfb : Ieee.double.fractionBits = 52 := rfl
  rw [if_neg (by decide), hlog, hfb, Nat.shiftLeft_eq]
  generalize m.log2 = L at *
  obtain ⟨q, hq⟩ : ∃ q, 52 + 2 + 52 - L = q + 52 := ⟨54 - L, by omega⟩
  rw [hq, Nat.pow_add, ← Nat.mul_assoc, show (4503599627370496 : Nat) = 2 ^ 52 from rfl, Nat.mul_div_cancel _ (Nat.two_pow_pos 52), Nat.mul_mod_left]
  show some (Ieee.double.nearest _ (2 * (m * 2 ^ q) + 0) _) = _
  rw [Nat.add_zero]
  have hq2 : 2 ≤ q := by omega
  have ep : Ieee.double.leastPlace + (k : Int) - (-51) - ((q + 52 : Nat) : Int) - 1 = Ieee.double.leastPlace + (k : Int) - ((q + 2 : Nat) : Int) := by omega
  rw [ep]
  rw [nearest_exact2 Ieee.double _ (2 * (m * 2 ^ q)) k (q + 2) h (by rw [dInf]; exact hh) ?_ ?_]
  · rfl
  · rw [Nat.mul_assoc, Nat.mul_right_comm, v1, hv, Nat.pow_add]
    have : (2 : Nat) ^ 2 = 4 := rfl
    rw [this]
    generalize val Ieee.double h = H
    generalize 2 ^ q = T
    have h1 : 2 * (2 * H * T) = 4 * (H * T) := by rw [Nat.mul_assoc 2 H T]; omega
    have h2 : H * (T * 4) = 4 * (H * T) := by rw [← Nat.mul_assoc, Nat.mul_comm]
    rw [h1, h2]
  · have : 0 < m * 2 ^ q := Nat.mul_pos (by omega) (Nat.two_pow_pos _)
    omega

/-- to 64 bits. -/
theorem widen_bits (s : Bool) (r e f : Nat) (hr : r < 2139095040) (he : e < 2047) (hf : f < 4503599627370496) (hv : val Ieee.double (e * 4503599627370496 + f) = val Ieee.single r * 2 ^ gp) :
    floatToFloatBits .f32 (Ieee.single.word s r) .f64 = some (bw s e f) := by
  obtain ⟨m, k, e1, v1⟩ := read_word Ieee.single s r (by rw [sInf]; exact hr) sHs
  unfold floatToFloatBits
  rw [if_neg (by decide)]
  have hd : FloatKind.f32.decode (Ieee.single.word s r) = .number s m (Ieee.single.leastPlace + k) := e1
  rw [hd]
  have hn : FloatKind.f64.encode (.number s m (Ieee.single.leastPlace + k)) = bw s e f := by
    show Ieee.double.nearest s m (Ieee.single.leastPlace + k) = _
    have ep : Ieee.single.leastPlace + (k : Int) = Ieee.double.leastPlace + ((k + gp : Nat) : Int) := by rw [sLeast, dLeast]; have := gp_eq; omega
    rw [ep, nearest_exact Ieee.double s m (k + gp) (e * 4503599627370496 + f) (by rw [dInf]; omega) (by rw [Nat.pow_add, ← Nat.mul_assoc, v1, hv]), bw_word]
  simp only [hn]
  have hi : (FloatKind.f64.decode (bw s e f)).isInfinity = false := by
    show (Ieee.double.read (bw s e f)).isInfinity = false
    rw [bw_word]
    obtain ⟨m2, k2, e2, _⟩ := read_word Ieee.double s (e * 4503599627370496 + f) (by rw [dInf]; omega) dHs
    rw [e2]; rfl
  rw [hi]; rfl

/-- to 32 bits, below the greatest: beside the number. -/
theorem narrow_bits (r : Nat) (h0 : 0 < r) (hr : r < 9218868437227405312) (hb : val Ieee.double r < val Ieee.single 2139095039 * 2 ^ gp) :
    ∃ R, R ≤ 2139095039 ∧ floatToFloatBits .f64 (Ieee.double.word false r) .f32 = some R ∧
      (val Ieee.single R * 2 ^ gp ≤ val Ieee.double r → val Ieee.double r < val Ieee.single (R + 1) * 2 ^ gp) ∧
      (val Ieee.double r < val Ieee.single R * 2 ^ gp → 0 < R ∧ val Ieee.single (R - 1) * 2 ^ gp < val Ieee.double r) := by
  obtain ⟨m, k, e1, v1⟩ := read_word Ieee.double false r (by rw [dInf]; exact hr) dHs
  have hV0 : 0 < val Ieee.double r := by
    have := val_lt Ieee.double h0
    rw [val_zero] at this; exact this
  have hm0 : m ≠ 0 := by
    rintro rfl
    rw [Nat.zero_mul] at v1; omega
  obtain ⟨R, eN, h1, h2⟩ := nearest_near Ieee.single false m k gp hm0
  rw [v1] at h1 h2
  have hp : 0 < 2 ^ gp := Nat.two_pow_pos _
  have hR : R ≤ 2139095039 := by
    by_cases c : val Ieee.single R * 2 ^ gp ≤ val Ieee.double r
    · have c2 := (val_lt_iff Ieee.single).1 (Nat.lt_of_mul_lt_mul_right (Nat.lt_of_le_of_lt c hb))
      omega
    · have c2 := (h2 (by omega)).2
      have c3 := (val_lt_iff Ieee.single).1 (Nat.lt_of_mul_lt_mul_right (Nat.lt_trans c2 hb))
      omega
  refine ⟨R, hR, ?_, h1, h2⟩
  unfold floatToFloatBits
  rw [if_neg (by decide)]
  have hd : FloatKind.f64.decode (Ieee.double.word false r) = .number false m (Ieee.double.leastPlace + k) := e1
  rw [hd]
  have hn : FloatKind.f32.encode (.number false m (Ieee.double.leastPlace + k)) = Ieee.single.word false R := by
    show Ieee.single.nearest false m (Ieee.double.leastPlace + k) = _
    have ep : Ieee.double.leastPlace + (k : Int) = Ieee.single.leastPlace + (k : Int) - (gp : Int) := by rw [sLeast, dLeast]; have := gp_eq; omega
    rw [ep, eN, sInf, Nat.min_eq_left (by omega)]
  simp only [hn]
  have hi : (FloatKind.f32.decode (Ieee.single.word false R)).isInfinity = false := by
    show (Ieee.single.read (Ieee.single.word false R)).isInfinity = false
    obtain ⟨m2, k2, e2, _⟩ := read_word Ieee.single false R (by rw [sInf]; omega) sHs
    rw [e2]; rfl
  rw [hi]; rfl

theorem wraps_u32 (n : Int) (h0 : 0 ≤ n) (h1 : n < 2 ^ 32) : IntKind.u32.wrap n = n := by rw [IntKind.wrap_u32]; omega
theorem or_sign32 (x : Int) (h0 : 0 ≤ x) (h1 : x < 2147483648) : bits .or .u32 x 2147483648 = x + 2147483648 := by
  have hc : bits .or .u32 x 2147483648 = bits .or .u32 2147483648 x := by simp only [bits, BitVec.or_comm]
  rw [hc, bits_join .u32 32 (by decide) wraps_u32 31 2147483648 x (by decide) (by decide) (by decide) h0 (by omega) (by omega)]
  omega
theorem and_one32 (q : Int) (h0 : 0 ≤ q) (h1 : q < 4294967296) : bits .and .u32 q 1 = q % 2 := by
  have h := bits_mask .u32 32 (by decide) wraps_u32 1 (by decide) q h0 (by omega)
  rw [show ((2 : Int) ^ 1 - 1) = 1 from rfl] at h
  rw [h]; rfl
theorem ret_u32 {a b : Int} (h : a = b) : Ending.returned (.int .u32 a) = .returned (.int .u32 b) := by rw [h]
end Go.Proofs.Ytedknjiipmppgab
