import Derived.Test.YthilnddhehbjiaaDoorBW0
import Derived.Test.YthilnddhehbjiaaDoorBIeee2
import Derived.Test.YthilnddhehbjiaaDoorBFlx
import Derived.Laws.FloatArith
/- A whole number below 2^53 times a power of two that is not too great is a number of 64 bits. -/
namespace Go.Proofs.YthilnddhehbjiaaDoor.B
set_option linter.unusedVariables false
set_option maxRecDepth 20000

/-- a whole number below 2^53 times a power of two that is not too great is a number. -/
theorem mk_exists (k : Nat) : ∀ m : Nat, m < 9007199254740992 → k ≤ 2045 → ∃ e f, e < 2047 ∧ f < 4503599627370496 ∧ val Ieee.double (e * 4503599627370496 + f) = m * 2 ^ k := by
  induction k with
  | zero =>
    intro m hm _
    by_cases h : m < 4503599627370496
    · refine ⟨0, m, by omega, h, ?_⟩
      unfold val
      rw [dBin, Nat.zero_mul, Nat.zero_add, if_pos h, Nat.pow_zero, Nat.mul_one]
    · refine ⟨1, m - 4503599627370496, by omega, by omega, ?_⟩
      have e1 : 1 * 4503599627370496 + (m - 4503599627370496) = m := by omega
      rw [e1]
      unfold val
      rw [dBin, if_neg h]
      have e2 : m % 4503599627370496 = m - 4503599627370496 := by omega
      have e3 : m / 4503599627370496 - 1 = 0 := by omega
      rw [e2, e3, Nat.pow_zero, Nat.mul_one, Nat.mul_one]
      omega
  | succ k ih =>
    intro m hm hk
    by_cases h : m < 4503599627370496
    · obtain ⟨e, f, he, hf, hv⟩ := ih (2 * m) (by omega) (by omega)
      refine ⟨e, f, he, hf, ?_⟩
      rw [hv, Nat.pow_succ, Nat.mul_comm 2 m, Nat.mul_assoc, Nat.mul_comm 2]
    · refine ⟨k + 2, m - 4503599627370496, by omega, by omega, ?_⟩
      unfold val
      rw [dBin, if_neg (by omega)]
      have e2 : ((k + 2) * 4503599627370496 + (m - 4503599627370496)) % 4503599627370496 = m - 4503599627370496 := by omega
      have e3 : ((k + 2) * 4503599627370496 + (m - 4503599627370496)) / 4503599627370496 - 1 = k + 1 := by omega
      have e4 : 4503599627370496 + (m - 4503599627370496) = m := by omega
      rw [e2, e3, e4]

end Go.Proofs.YthilnddhehbjiaaDoor.B

/- Plain facts on numbers of 32 bits as numbers of 64: their values, conversions both ways, the middle between two neighbours. -/
namespace Go.Proofs.YthilnddhehbjiaaDoor.B
set_option linter.unusedVariables false
set_option maxRecDepth 20000

/-- how many places the least of 32 bits lies above the least of 64. -/
def gp : Nat := 925
theorem gp_eq : gp = 925 := rfl

theorem sInf : Ieee.single.infRung = 2139095040 := by decide
theorem sSign : Ieee.single.signWeight = 2147483648 := by decide
theorem sBin : Ieee.single.binade = 8388608 := by decide
theorem sHs : Ieee.single.infRung < Ieee.single.signWeight := by decide
theorem sHb : Ieee.single.binade ≤ Ieee.single.infRung := by decide
theorem sLeast : Ieee.single.leastPlace = -149 := by decide
theorem dLeast : Ieee.double.leastPlace = -1074 := by decide

/-- each number of 32 bits is one of 64; so is the one that would follow the greatest. -/
theorem up_exists (r : Nat) (hr : r ≤ 2139095040) : ∃ e f, e < 2047 ∧ f < 4503599627370496 ∧ val Ieee.double (e * 4503599627370496 + f) = val Ieee.single r * 2 ^ gp := by
  unfold val
  rw [sBin]
  by_cases h : r < 8388608
  · rw [if_pos h]
    exact mk_exists gp r (by omega) (by rw [gp_eq]; omega)
  · rw [if_neg h, Nat.mul_assoc, ← Nat.pow_add]
    exact mk_exists (r / 8388608 - 1 + gp) (8388608 + r % 8388608) (by omega) (by have := gp_eq; omega)

theorem read_word_bd (f : Ieee.Format) (s : Bool) (r : Nat) (hr : r < f.infRung) (hs : f.infRung < f.signWeight) :
    ∃ m : Nat, ∃ k : Nat, f.read (f.word s r) = .number s m (f.leastPlace + k) ∧ m * 2 ^ k = val f r ∧ m < 2 * f.binade := by
  have key : (f.word s r / f.signWeight % 2 == 1) = s ∧ f.word s r % f.signWeight = r := by
    unfold Ieee.Format.word
    cases s
    · simp only [Bool.false_eq_true, if_false]
      rw [Nat.div_eq_of_lt (by omega)]; exact ⟨rfl, Nat.mod_eq_of_lt (by omega)⟩
    · simp only [if_true]
      rw [Nat.add_div_left _ (by omega), Nat.div_eq_of_lt (by omega), Nat.add_mod_left]; exact ⟨rfl, Nat.mod_eq_of_lt (by omega)⟩
  have hb := binade_pos f
  unfold Ieee.Format.read
  simp only [key.1, key.2]
  unfold val
  by_cases h : r < f.binade
  · rw [if_pos h, if_pos h]
    exact ⟨r, 0, by simp, by simp, by omega⟩
  · rw [if_neg h, if_neg h, if_pos hr]
    have := Nat.mod_lt r hb
    exact ⟨_, _, rfl, rfl, by omega⟩

/-- half of a number, exact. -/
theorem div_two (d h : Nat) (hd : d < 9218868437227405312) (hh : h < 9218868437227405312) (hv : val Ieee.double d = 2 * val Ieee.double h) (hp : 0 < val Ieee.double h) :
    Ieee.double.div (Ieee.double.word false d) 4611686018427387904 = some (Ieee.double.word false h) := by
  obtain ⟨m, k, e1, v1, hm⟩ := read_word_bd Ieee.double false d (by rw [dInf]; exact hd) dHs
  have e2 : Ieee.double.read 4611686018427387904 = .number false 4503599627370496 (-51) := by decide
  unfold Ieee.Format.div
  rw [e1, e2]
  unfold Ieee.Datum.quotient
  simp only
  have hm0 : m ≠ 0 := by
    rintro rfl
    rw [Nat.zero_mul] at v1; omega
  have hl := (Nat.log2_eq_iff hm0 (k := m.log2)).1 rfl
  have hL : m.log2 < 53 := by
    rw [dBin] at hm
    refine (Nat.pow_lt_pow_iff_right (a := 2) (by omega)).1 (Nat.lt_of_le_of_lt hl.1 (Nat.lt_of_lt_of_le hm (by decide)))
  have hlog : Nat.log2 4503599627370496 = 52 := by decide
  have hfb : Ieee.double.fractionBits = 52 := rfl
  rw [if_neg (by decide), hlog, hfb, Nat.shiftLeft_eq]
  generalize m.log2 = L at *
  obtain ⟨q, hq⟩ : ∃ q, 52 + 2 + 52 - L = q + 52 := ⟨54 - L, by omega⟩
  rw [hq, Nat.pow_add, ← Nat.mul_assoc, show (4503599627370496 : Nat) = 2 ^ 52 from rfl, Nat.mul_div_cancel _ (Nat.two_pow_pos 52), Nat.mul_mod_left]
  show some (Ieee.double.nearest _ (2 * (m * 2 ^ q) + 0) _) = _
  rw [Nat.add_zero]
  have hq2 : 2 ≤ q := by omega
  have ep : Ieee.double.leastPlace + (k : Int) - (-51) - ((q + 52 : Nat) : Int) - 1 = Ieee.double.leastPlace + (k : Int) - ((q + 2 : Nat) : Int) := by omega
  rw [ep]
  rw [nearest_exact2 Ieee.double _ (2 * (m * 2 ^ q)) k (q + 2) h (by rw [dInf]; exact hh) ?_ ?_]
  · rfl
  · rw [Nat.mul_assoc, Nat.mul_right_comm, v1, hv, Nat.pow_add]
    have : (2 : Nat) ^ 2 = 4 := rfl
    rw [this]
    generalize val Ieee.double h = H
    generalize 2 ^ q = T
    have h1 : 2 * (2 * H * T) = 4 * (H * T) := by rw [Nat.mul_assoc 2 H T]; omega
    have h2 : H * (T * 4) = 4 * (H * T) := by rw [← Nat.mul_assoc, Nat.mul_comm]
    rw [h1, h2]
  · have : 0 < m * 2 ^ q := Nat.mul_pos (by omega) (Nat.two_pow_pos _)
    omega

/-- to 64 bits. -/
theorem widen_bits (s : Bool) (r e f : Nat) (hr : r < 2139095040) (he : e < 2047) (hf : f < 4503599627370496) (hv : val Ieee.double (e * 4503599627370496 + f) = val Ieee.single r * 2 ^ gp) :
    floatToFloatBits .f32 (Ieee.single.word s r) .f64 = some (bw s e f) := by
  obtain ⟨m, k, e1, v1⟩ := read_word Ieee.single s r (by rw [sInf]; exact hr) sHs
  unfold floatToFloatBits
  rw [if_neg (by decide)]
  have hd : FloatKind.f32.decode (Ieee.single.word s r) = .number s m (Ieee.single.leastPlace + k) := e1
  rw [hd]
  have hn : FloatKind.f64.encode (.number s m (Ieee.single.leastPlace + k)) = bw s e f := by
    show Ieee.double.nearest s m (Ieee.single.leastPlace + k) = _
    have ep : Ieee.single.leastPlace + (k : Int) = Ieee.double.leastPlace + ((k + gp : Nat) : Int) := by rw [sLeast, dLeast]; have := gp_eq; omega
    rw [ep, nearest_exact Ieee.double s m (k + gp) (e * 4503599627370496 + f) (by rw [dInf]; omega) (by rw [Nat.pow_add, ← Nat.mul_assoc, v1, hv]), bw_word]
  simp only [hn]
  have hi : (FloatKind.f64.decode (bw s e f)).isInfinity = false := by
    show (Ieee.double.read (bw s e f)).isInfinity = false
    rw [bw_word]
    obtain ⟨m2, k2, e2, _⟩ := read_word Ieee.double s (e * 4503599627370496 + f) (by rw [dInf]; omega) dHs
    rw [e2]; rfl
  rw [hi]; rfl

/-- to 32 bits, below the greatest: beside the number. -/
theorem narrow_bits (r : Nat) (h0 : 0 < r) (hr : r < 9218868437227405312) (hb : val Ieee.double r < val Ieee.single 2139095039 * 2 ^ gp) :
    ∃ R, R ≤ 2139095039 ∧ floatToFloatBits .f64 (Ieee.double.word false r) .f32 = some R ∧
      (val Ieee.single R * 2 ^ gp ≤ val Ieee.double r → val Ieee.double r < val Ieee.single (R + 1) * 2 ^ gp) ∧
      (val Ieee.double r < val Ieee.single R * 2 ^ gp → 0 < R ∧ val Ieee.single (R - 1) * 2 ^ gp < val Ieee.double r) := by
  obtain ⟨m, k, e1, v1⟩ := read_word Ieee.double false r (by rw [dInf]; exact hr) dHs
  have hV0 : 0 < val Ieee.double r := by
    have := val_lt Ieee.double h0
    rw [val_zero] at this; exact this
  have hm0 : m ≠ 0 := by
    rintro rfl
    rw [Nat.zero_mul] at v1; omega
  obtain ⟨R, eN, h1, h2⟩ := nearest_near Ieee.single false m k gp hm0
  rw [v1] at h1 h2
  have hp : 0 < 2 ^ gp := Nat.two_pow_pos _
  have hR : R ≤ 2139095039 := by
    by_cases c : val Ieee.single R * 2 ^ gp ≤ val Ieee.double r
    · have c2 := (val_lt_iff Ieee.single).1 (Nat.lt_of_mul_lt_mul_right (Nat.lt_of_le_of_lt c hb))
      omega
    · have c2 := (h2 (by omega)).2
      have c3 := (val_lt_iff Ieee.single).1 (Nat.lt_of_mul_lt_mul_right (Nat.lt_trans c2 hb))
      omega
  refine ⟨R, hR, ?_, h1, h2⟩
  unfold floatToFloatBits
  rw [if_neg (by decide)]
  have hd : FloatKind.f64.decode (Ieee.double.word false r) = .number false m (Ieee.double.leastPlace + k) := e1
  rw [hd]
  have hn : FloatKind.f32.encode (.number false m (Ieee.double.leastPlace + k)) = Ieee.single.word false R := by
    show Ieee.single.nearest false m (Ieee.double.leastPlace + k) = _
    have ep : Ieee.double.leastPlace + (k : Int) = Ieee.single.leastPlace + (k : Int) - (gp : Int) := by rw [sLeast, dLeast]; have := gp_eq; omega
    rw [ep, eN, sInf, Nat.min_eq_left (by omega)]
  simp only [hn]
  have hi : (FloatKind.f32.decode (Ieee.single.word false R)).isInfinity = false := by
    show (Ieee.single.read (Ieee.single.word false R)).isInfinity = false
    obtain ⟨m2, k2, e2, _⟩ := read_word Ieee.single false R (by rw [sInf]; omega) sHs
    rw [e2]; rfl
  rw [hi]; rfl

theorem wraps_u32 (n : Int) (h0 : 0 ≤ n) (h1 : n < 2 ^ 32) : IntKind.u32.wrap n = n := by rw [IntKind.wrap_u32]; omega
theorem or_sign32 (x : Int) (h0 : 0 ≤ x) (h1 : x < 2147483648) : bits .or .u32 x 2147483648 = x + 2147483648 := by
  have hc : bits .or .u32 x 2147483648 = bits .or .u32 2147483648 x := by simp only [bits, BitVec.or_comm]
  rw [hc, bits_join .u32 32 (by decide) wraps_u32 31 2147483648 x (by decide) (by decide) (by decide) h0 (by omega) (by omega)]
  omega
theorem and_one32 (q : Int) (h0 : 0 ≤ q) (h1 : q < 4294967296) : bits .and .u32 q 1 = q % 2 := by
  have h := bits_mask .u32 32 (by decide) wraps_u32 1 (by decide) q h0 (by omega)
  rw [show ((2 : Int) ^ 1 - 1) = 1 from rfl] at h
  rw [h]; rfl
theorem ret_u32 {a b : Int} (h : a = b) : Ending.returned (.int .u32 a) = .returned (.int .u32 b) := by rw [h]
end Go.Proofs.YthilnddhehbjiaaDoor.B

/- What Widen, value32, innerBits, takesOuter, taken and Narrow answer, over what their callees answer and how numbers compare. -/
namespace Go.Proofs.YthilnddhehbjiaaDoor.B
open Go.RowKit
attribute [local go_sem] f64bits f64frombits f32bits f32frombits
set_option linter.unusedVariables false
set_option maxRecDepth 20000

set_option maxHeartbeats 2000000 in
theorem widen_num (X B : Nat) (o : (FloatKind.f32.format.order X X != some .eq) = false) (cv : ∀ w, (convert 54 37 (.float .f32 X)).run Tryd.prog w = .ok (.float .f64 B) w) (w : World) :
    Calls Tryd.prog 152 #[.float .f32 X] w fun r w' => r = .returned (.float .f64 B) ∧ w' = w := by
  go_enter Tryd.func152, Tryd.ntmps152
  go_wp2
  go_ret
  exact ⟨rfl, rfl⟩

set_option maxHeartbeats 2000000 in
theorem widen_nan (X : Nat) (o : (FloatKind.f32.format.order X X != some .eq) = true) (w : World) :
    Calls Tryd.prog 152 #[.float .f32 X] w fun r w' => r = .returned (.float .f64 9221120237041090560) ∧ w' = w := by
  go_enter Tryd.func152, Tryd.ntmps152
  go_wp2_with (first
    | (go_at_call 153; refine (nan_any _).mono ?_; rintro r w1 ⟨rfl, rfl⟩)
    | (go_at_call 153; refine (nan_any _).mono ?_; rintro r w1 ⟨rfl, rfl⟩))
  go_ret
  exact ⟨rfl, rfl⟩

set_option maxHeartbeats 2000000 in
theorem val32_num (r : Int) (B : Nat) (h : (r == 2139095040) = false) (H : Hid (∀ w, Calls Tryd.prog 152 #[.float .f32 r.toNat] w fun r w' => r = .returned (.float .f64 B) ∧ w' = w)) (w : World) :
    Calls Tryd.prog 144 #[.int .u32 r] w fun r w' => r = .returned (.float .f64 B) ∧ w' = w := by
  go_enter Tryd.func144, Tryd.ntmps144
  go_wp2_with (first
    | (go_at_call 152; refine (H.out _).mono ?_; rintro r w1 ⟨rfl, rfl⟩)
    | (go_at_call 152; refine (H.out _).mono ?_; rintro r w1 ⟨rfl, rfl⟩))
  go_ret
  exact ⟨rfl, rfl⟩

set_option maxHeartbeats 2000000 in
theorem val32_end  (w : World) :
    Calls Tryd.prog 144 #[.int .u32 2139095040] w fun r w' => r = .returned (.float .f64 5183643171103440896) ∧ w' = w := by
  go_enter Tryd.func144, Tryd.ntmps144
  go_wp2_with fail
  go_ret
  exact ⟨rfl, rfl⟩

set_option maxHeartbeats 2000000 in
theorem inner_big (X : Nat) (o : (FloatKind.f64.format.order X 5183643170566569984 == some .gt || FloatKind.f64.format.order X 5183643170566569984 == some .eq) = true) (w : World) :
    Calls Tryd.prog 126 #[.float .f64 X] w fun r w' => r = .returned (.int .u32 2139095039) ∧ w' = w := by
  go_enter Tryd.func126, Tryd.ntmps126
  go_wp2_with fail
  go_ret
  exact ⟨rfl, rfl⟩

set_option maxHeartbeats 2000000 in
theorem inner_at (X R L : Nat) (o : (FloatKind.f64.format.order X 5183643170566569984 == some .gt || FloatKind.f64.format.order X 5183643170566569984 == some .eq) = false) (hR : R ≤ 2139095039) (cv : ∀ w, (convert 37 54 (.float .f64 X)).run Tryd.prog w = .ok (.float .f32 R) w) (H : Hid (∀ w, Calls Tryd.prog 144 #[.int .u32 (R : Nat)] w fun r w' => r = .returned (.float .f64 L) ∧ w' = w)) (o2 : (FloatKind.f64.format.order L X == some .gt) = false) (w : World) :
    Calls Tryd.prog 126 #[.float .f64 X] w fun r w' => r = .returned (.int .u32 (R : Nat)) ∧ w' = w := by
  go_enter Tryd.func126, Tryd.ntmps126
  go_wp2_with (first
    | (go_at_call 144; refine (H.out _).mono ?_; rintro r w1 ⟨rfl, rfl⟩)
    | (go_at_call 144; refine (H.out _).mono ?_; rintro r w1 ⟨rfl, rfl⟩))
  go_ret
  exact ⟨rfl, rfl⟩

set_option maxHeartbeats 2000000 in
theorem inner_below (X R L : Nat) (o : (FloatKind.f64.format.order X 5183643170566569984 == some .gt || FloatKind.f64.format.order X 5183643170566569984 == some .eq) = false) (hR : R ≤ 2139095039) (cv : ∀ w, (convert 37 54 (.float .f64 X)).run Tryd.prog w = .ok (.float .f32 R) w) (H : Hid (∀ w, Calls Tryd.prog 144 #[.int .u32 (R : Nat)] w fun r w' => r = .returned (.float .f64 L) ∧ w' = w)) (h0 : 1 ≤ R) (Q : Nat) (hQ : Hid (Q + 1 = R)) (o2 : (FloatKind.f64.format.order L X == some .gt) = true) (w : World) :
    Calls Tryd.prog 126 #[.float .f64 X] w fun r w' => r = .returned (.int .u32 (Q : Nat)) ∧ w' = w := by
  go_enter Tryd.func126, Tryd.ntmps126
  go_wp2_with (first
    | (go_at_call 144; refine (H.out _).mono ?_; rintro r w1 ⟨rfl, rfl⟩)
    | (go_at_call 144; refine (H.out _).mono ?_; rintro r w1 ⟨rfl, rfl⟩))
  go_ret
  exact ⟨ret_u32 (by have := hQ.out; omega), rfl⟩

set_option maxHeartbeats 2000000 in
theorem takes_same (X L : Nat) (q k : Int) (H1 : Hid (∀ w, Calls Tryd.prog 144 #[.int .u32 q] w fun r w' => r = .returned (.float .f64 L) ∧ w' = w)) (o : (FloatKind.f64.format.order X L == some .eq) = true) (w : World) :
    Calls Tryd.prog 127 #[.float .f64 X, .int .u32 q, .int .i64 k] w fun r w' => r = .returned (.bool false) ∧ w' = w := by
  go_enter Tryd.func127, Tryd.ntmps127
  go_wp2_with (first
    | (go_at_call 144; refine (H1.out _).mono ?_; rintro r w1 ⟨rfl, rfl⟩)
    | (go_at_call 144; refine (H1.out _).mono ?_; rintro r w1 ⟨rfl, rfl⟩))
  go_ret
  exact ⟨rfl, rfl⟩

set_option maxHeartbeats 2000000 in
theorem takes_out (X L M D Hf Md : Nat) (q : Int) (hq0 : 0 ≤ q) (hq1 : q ≤ 2139095039) (H1 : Hid (∀ w, Calls Tryd.prog 144 #[.int .u32 q] w fun r w' => r = .returned (.float .f64 L) ∧ w' = w)) (H2 : Hid (∀ w, Calls Tryd.prog 144 #[.int .u32 (q + 1)] w fun r w' => r = .returned (.float .f64 M) ∧ w' = w)) (o : (FloatKind.f64.format.order X L == some .eq) = false) (d1 : ∀ w, (binOp .sub 37 (.float .f64 M) (.float .f64 L)).run Tryd.prog w = .ok (.float .f64 D) w) (d2 : ∀ w, (binOp .quo 37 (.float .f64 D) (.float .f64 4611686018427387904)).run Tryd.prog w = .ok (.float .f64 Hf) w) (d3 : ∀ w, (binOp .add 37 (.float .f64 L) (.float .f64 Hf)).run Tryd.prog w = .ok (.float .f64 Md) w) (w : World) :
    Calls Tryd.prog 127 #[.float .f64 X, .int .u32 q, .int .i64 1] w fun r w' => r = .returned (.bool true) ∧ w' = w := by
  go_enter Tryd.func127, Tryd.ntmps127
  go_wp2_with fail
  refine (H1.out _).mono ?_
  rintro r w1 ⟨rfl, rfl⟩
  go_wp2_with fail
  refine (H2.out _).mono ?_
  rintro r w1 ⟨rfl, rfl⟩
  go_wp2_with fail
  go_ret
  exact ⟨rfl, rfl⟩

set_option maxHeartbeats 2000000 in
theorem takes_in (X L M D Hf Md : Nat) (q : Int) (hq0 : 0 ≤ q) (hq1 : q ≤ 2139095039) (H1 : Hid (∀ w, Calls Tryd.prog 144 #[.int .u32 q] w fun r w' => r = .returned (.float .f64 L) ∧ w' = w)) (H2 : Hid (∀ w, Calls Tryd.prog 144 #[.int .u32 (q + 1)] w fun r w' => r = .returned (.float .f64 M) ∧ w' = w)) (o : (FloatKind.f64.format.order X L == some .eq) = false) (d1 : ∀ w, (binOp .sub 37 (.float .f64 M) (.float .f64 L)).run Tryd.prog w = .ok (.float .f64 D) w) (d2 : ∀ w, (binOp .quo 37 (.float .f64 D) (.float .f64 4611686018427387904)).run Tryd.prog w = .ok (.float .f64 Hf) w) (d3 : ∀ w, (binOp .add 37 (.float .f64 L) (.float .f64 Hf)).run Tryd.prog w = .ok (.float .f64 Md) w) (w : World) :
    Calls Tryd.prog 127 #[.float .f64 X, .int .u32 q, .int .i64 0] w fun r w' => r = .returned (.bool false) ∧ w' = w := by
  go_enter Tryd.func127, Tryd.ntmps127
  go_wp2_with fail
  refine (H1.out _).mono ?_
  rintro r w1 ⟨rfl, rfl⟩
  go_wp2_with fail
  refine (H2.out _).mono ?_
  rintro r w1 ⟨rfl, rfl⟩
  go_wp2_with fail
  go_ret
  exact ⟨rfl, rfl⟩

set_option maxHeartbeats 2000000 in
theorem takes_even_gt (X L M D Hf Md : Nat) (q : Int) (hq0 : 0 ≤ q) (hq1 : q ≤ 2139095039) (H1 : Hid (∀ w, Calls Tryd.prog 144 #[.int .u32 q] w fun r w' => r = .returned (.float .f64 L) ∧ w' = w)) (H2 : Hid (∀ w, Calls Tryd.prog 144 #[.int .u32 (q + 1)] w fun r w' => r = .returned (.float .f64 M) ∧ w' = w)) (o : (FloatKind.f64.format.order X L == some .eq) = false) (d1 : ∀ w, (binOp .sub 37 (.float .f64 M) (.float .f64 L)).run Tryd.prog w = .ok (.float .f64 D) w) (d2 : ∀ w, (binOp .quo 37 (.float .f64 D) (.float .f64 4611686018427387904)).run Tryd.prog w = .ok (.float .f64 Hf) w) (d3 : ∀ w, (binOp .add 37 (.float .f64 L) (.float .f64 Hf)).run Tryd.prog w = .ok (.float .f64 Md) w) (m : (FloatKind.f64.format.order X Md == some .gt) = true) (w : World) :
    Calls Tryd.prog 127 #[.float .f64 X, .int .u32 q, .int .i64 2] w fun r w' => r = .returned (.bool true) ∧ w' = w := by
  go_enter Tryd.func127, Tryd.ntmps127
  go_wp2_with fail
  refine (H1.out _).mono ?_
  rintro r w1 ⟨rfl, rfl⟩
  go_wp2_with fail
  refine (H2.out _).mono ?_
  rintro r w1 ⟨rfl, rfl⟩
  go_wp2_with fail
  go_ret
  exact ⟨rfl, rfl⟩

set_option maxHeartbeats 2000000 in
theorem takes_even_lt (X L M D Hf Md : Nat) (q : Int) (hq0 : 0 ≤ q) (hq1 : q ≤ 2139095039) (H1 : Hid (∀ w, Calls Tryd.prog 144 #[.int .u32 q] w fun r w' => r = .returned (.float .f64 L) ∧ w' = w)) (H2 : Hid (∀ w, Calls Tryd.prog 144 #[.int .u32 (q + 1)] w fun r w' => r = .returned (.float .f64 M) ∧ w' = w)) (o : (FloatKind.f64.format.order X L == some .eq) = false) (d1 : ∀ w, (binOp .sub 37 (.float .f64 M) (.float .f64 L)).run Tryd.prog w = .ok (.float .f64 D) w) (d2 : ∀ w, (binOp .quo 37 (.float .f64 D) (.float .f64 4611686018427387904)).run Tryd.prog w = .ok (.float .f64 Hf) w) (d3 : ∀ w, (binOp .add 37 (.float .f64 L) (.float .f64 Hf)).run Tryd.prog w = .ok (.float .f64 Md) w) (m : (FloatKind.f64.format.order X Md == some .gt) = false) (m2 : (FloatKind.f64.format.order X Md == some .eq) = false) (w : World) :
    Calls Tryd.prog 127 #[.float .f64 X, .int .u32 q, .int .i64 2] w fun r w' => r = .returned (.bool false) ∧ w' = w := by
  go_enter Tryd.func127, Tryd.ntmps127
  go_wp2_with fail
  refine (H1.out _).mono ?_
  rintro r w1 ⟨rfl, rfl⟩
  go_wp2_with fail
  refine (H2.out _).mono ?_
  rintro r w1 ⟨rfl, rfl⟩
  go_wp2_with fail
  go_ret
  exact ⟨rfl, rfl⟩

set_option maxHeartbeats 2000000 in
theorem takes_even_eq (X L M D Hf Md : Nat) (q : Int) (hq0 : 0 ≤ q) (hq1 : q ≤ 2139095039) (H1 : Hid (∀ w, Calls Tryd.prog 144 #[.int .u32 q] w fun r w' => r = .returned (.float .f64 L) ∧ w' = w)) (H2 : Hid (∀ w, Calls Tryd.prog 144 #[.int .u32 (q + 1)] w fun r w' => r = .returned (.float .f64 M) ∧ w' = w)) (o : (FloatKind.f64.format.order X L == some .eq) = false) (d1 : ∀ w, (binOp .sub 37 (.float .f64 M) (.float .f64 L)).run Tryd.prog w = .ok (.float .f64 D) w) (d2 : ∀ w, (binOp .quo 37 (.float .f64 D) (.float .f64 4611686018427387904)).run Tryd.prog w = .ok (.float .f64 Hf) w) (d3 : ∀ w, (binOp .add 37 (.float .f64 L) (.float .f64 Hf)).run Tryd.prog w = .ok (.float .f64 Md) w) (b : Bool) (m : (FloatKind.f64.format.order X Md == some .gt) = false) (m2 : (FloatKind.f64.format.order X Md == some .eq) = true) (m3 : (bits .and .u32 q 1 == 1) = b) (w : World) :
    Calls Tryd.prog 127 #[.float .f64 X, .int .u32 q, .int .i64 2] w fun r w' => r = .returned (.bool b) ∧ w' = w := by
  go_enter Tryd.func127, Tryd.ntmps127
  go_wp2_with fail
  refine (H1.out _).mono ?_
  rintro r w1 ⟨rfl, rfl⟩
  go_wp2_with fail
  refine (H2.out _).mono ?_
  rintro r w1 ⟨rfl, rfl⟩
  go_wp2_with fail
  go_ret
  exact ⟨rfl, rfl⟩

set_option maxHeartbeats 2000000 in
theorem takes_away (X L M D Hf Md : Nat) (q : Int) (hq0 : 0 ≤ q) (hq1 : q ≤ 2139095039) (H1 : Hid (∀ w, Calls Tryd.prog 144 #[.int .u32 q] w fun r w' => r = .returned (.float .f64 L) ∧ w' = w)) (H2 : Hid (∀ w, Calls Tryd.prog 144 #[.int .u32 (q + 1)] w fun r w' => r = .returned (.float .f64 M) ∧ w' = w)) (o : (FloatKind.f64.format.order X L == some .eq) = false) (d1 : ∀ w, (binOp .sub 37 (.float .f64 M) (.float .f64 L)).run Tryd.prog w = .ok (.float .f64 D) w) (d2 : ∀ w, (binOp .quo 37 (.float .f64 D) (.float .f64 4611686018427387904)).run Tryd.prog w = .ok (.float .f64 Hf) w) (d3 : ∀ w, (binOp .add 37 (.float .f64 L) (.float .f64 Hf)).run Tryd.prog w = .ok (.float .f64 Md) w) (b : Bool) (m : (FloatKind.f64.format.order X Md == some .gt || FloatKind.f64.format.order X Md == some .eq) = b) (w : World) :
    Calls Tryd.prog 127 #[.float .f64 X, .int .u32 q, .int .i64 3] w fun r w' => r = .returned (.bool b) ∧ w' = w := by
  go_enter Tryd.func127, Tryd.ntmps127
  go_wp2_with fail
  refine (H1.out _).mono ?_
  rintro r w1 ⟨rfl, rfl⟩
  go_wp2_with fail
  refine (H2.out _).mono ?_
  rintro r w1 ⟨rfl, rfl⟩
  go_wp2_with fail
  go_ret
  exact ⟨rfl, rfl⟩

set_option maxHeartbeats 2000000 in
theorem taken_0p  (w : World) :
    Calls Tryd.prog 128 #[.int .i64 0, .bool false] w fun r w' => r = .returned (.int .i64 2) ∧ Below w.heap.size w w' := by
  go_enter Tryd.func128, Tryd.ntmps128
  go_wp2
  go_ret
  exact ⟨rfl, (by repeat (first | exact Below.refl _ _ | assumption | exact Nat.le_refl _ | (simp; done) | (simp; omega) | refine Below.alloc ?_ ?_ _ | refine Below.setCell ?_ ?_ _ | refine Below.drew ?_))⟩

set_option maxHeartbeats 2000000 in
theorem taken_0n  (w : World) :
    Calls Tryd.prog 128 #[.int .i64 0, .bool true] w fun r w' => r = .returned (.int .i64 2) ∧ Below w.heap.size w w' := by
  go_enter Tryd.func128, Tryd.ntmps128
  go_wp2
  go_ret
  exact ⟨rfl, (by repeat (first | exact Below.refl _ _ | assumption | exact Nat.le_refl _ | (simp; done) | (simp; omega) | refine Below.alloc ?_ ?_ _ | refine Below.setCell ?_ ?_ _ | refine Below.drew ?_))⟩

set_option maxHeartbeats 2000000 in
theorem taken_1p  (w : World) :
    Calls Tryd.prog 128 #[.int .i64 1, .bool false] w fun r w' => r = .returned (.int .i64 0) ∧ Below w.heap.size w w' := by
  go_enter Tryd.func128, Tryd.ntmps128
  go_wp2
  go_ret
  exact ⟨rfl, (by repeat (first | exact Below.refl _ _ | assumption | exact Nat.le_refl _ | (simp; done) | (simp; omega) | refine Below.alloc ?_ ?_ _ | refine Below.setCell ?_ ?_ _ | refine Below.drew ?_))⟩

set_option maxHeartbeats 2000000 in
theorem taken_1n  (w : World) :
    Calls Tryd.prog 128 #[.int .i64 1, .bool true] w fun r w' => r = .returned (.int .i64 0) ∧ Below w.heap.size w w' := by
  go_enter Tryd.func128, Tryd.ntmps128
  go_wp2
  go_ret
  exact ⟨rfl, (by repeat (first | exact Below.refl _ _ | assumption | exact Nat.le_refl _ | (simp; done) | (simp; omega) | refine Below.alloc ?_ ?_ _ | refine Below.setCell ?_ ?_ _ | refine Below.drew ?_))⟩

set_option maxHeartbeats 2000000 in
theorem taken_2p  (w : World) :
    Calls Tryd.prog 128 #[.int .i64 2, .bool false] w fun r w' => r = .returned (.int .i64 1) ∧ Below w.heap.size w w' := by
  go_enter Tryd.func128, Tryd.ntmps128
  go_wp2
  go_ret
  exact ⟨rfl, (by repeat (first | exact Below.refl _ _ | assumption | exact Nat.le_refl _ | (simp; done) | (simp; omega) | refine Below.alloc ?_ ?_ _ | refine Below.setCell ?_ ?_ _ | refine Below.drew ?_))⟩

set_option maxHeartbeats 2000000 in
theorem taken_2n  (w : World) :
    Calls Tryd.prog 128 #[.int .i64 2, .bool true] w fun r w' => r = .returned (.int .i64 0) ∧ Below w.heap.size w w' := by
  go_enter Tryd.func128, Tryd.ntmps128
  go_wp2
  go_ret
  exact ⟨rfl, (by repeat (first | exact Below.refl _ _ | assumption | exact Nat.le_refl _ | (simp; done) | (simp; omega) | refine Below.alloc ?_ ?_ _ | refine Below.setCell ?_ ?_ _ | refine Below.drew ?_))⟩

set_option maxHeartbeats 2000000 in
theorem taken_3p  (w : World) :
    Calls Tryd.prog 128 #[.int .i64 3, .bool false] w fun r w' => r = .returned (.int .i64 0) ∧ Below w.heap.size w w' := by
  go_enter Tryd.func128, Tryd.ntmps128
  go_wp2
  go_ret
  exact ⟨rfl, (by repeat (first | exact Below.refl _ _ | assumption | exact Nat.le_refl _ | (simp; done) | (simp; omega) | refine Below.alloc ?_ ?_ _ | refine Below.setCell ?_ ?_ _ | refine Below.drew ?_))⟩

set_option maxHeartbeats 2000000 in
theorem taken_3n  (w : World) :
    Calls Tryd.prog 128 #[.int .i64 3, .bool true] w fun r w' => r = .returned (.int .i64 1) ∧ Below w.heap.size w w' := by
  go_enter Tryd.func128, Tryd.ntmps128
  go_wp2
  go_ret
  exact ⟨rfl, (by repeat (first | exact Below.refl _ _ | assumption | exact Nat.le_refl _ | (simp; done) | (simp; omega) | refine Below.alloc ?_ ?_ _ | refine Below.setCell ?_ ?_ _ | refine Below.drew ?_))⟩

set_option maxHeartbeats 2000000 in
theorem taken_4p  (w : World) :
    Calls Tryd.prog 128 #[.int .i64 4, .bool false] w fun r w' => r = .returned (.int .i64 3) ∧ Below w.heap.size w w' := by
  go_enter Tryd.func128, Tryd.ntmps128
  go_wp2
  go_ret
  exact ⟨rfl, (by repeat (first | exact Below.refl _ _ | assumption | exact Nat.le_refl _ | (simp; done) | (simp; omega) | refine Below.alloc ?_ ?_ _ | refine Below.setCell ?_ ?_ _ | refine Below.drew ?_))⟩

set_option maxHeartbeats 2000000 in
theorem taken_4n  (w : World) :
    Calls Tryd.prog 128 #[.int .i64 4, .bool true] w fun r w' => r = .returned (.int .i64 3) ∧ Below w.heap.size w w' := by
  go_enter Tryd.func128, Tryd.ntmps128
  go_wp2
  go_ret
  exact ⟨rfl, (by repeat (first | exact Below.refl _ _ | assumption | exact Nat.le_refl _ | (simp; done) | (simp; omega) | refine Below.alloc ?_ ?_ _ | refine Below.setCell ?_ ?_ _ | refine Below.drew ?_))⟩

set_option maxHeartbeats 2000000 in
theorem nar_low (X : Nat) (k : Int) (h : k < 0) (w : World) :
    Calls Tryd.prog 95 #[.float .f64 X, .int .i64 k] w fun r w' => r = .returned (.tuple #[.float .f32 0, .int .i64 1]) ∧ w' = w := by
  go_enter Tryd.func95, Tryd.ntmps95
  go_wp2_with fail
  go_ret2
  exact ⟨rfl, rfl⟩

set_option maxHeartbeats 2000000 in
theorem nar_high (X : Nat) (k : Int) (h : 4 < k) (w : World) :
    Calls Tryd.prog 95 #[.float .f64 X, .int .i64 k] w fun r w' => r = .returned (.tuple #[.float .f32 0, .int .i64 1]) ∧ w' = w := by
  have h0 : ¬ k < 0 := by omega
  go_enter Tryd.func95, Tryd.ntmps95
  go_wp2_with fail
  go_ret2
  exact ⟨rfl, rfl⟩

set_option maxHeartbeats 2000000 in
theorem nar_odd (X : Nat) (k : Int) (k0 : 0 ≤ k) (k4 : k ≤ 4) (s : Bool) (x g : Int) (H0 : Hid (∀ w, Calls Tryd.prog 69 #[.float .f64 X] w fun r w' => r = .returned (.agg #[.bool s, .int .i64 4, .int .i64 x, .int .u64 g]) ∧ Below w.heap.size w w')) (w : World) :
    Calls Tryd.prog 95 #[.float .f64 X, .int .i64 k] w fun r w' => r = .returned (.tuple #[.float .f32 2143289344, .int .i64 0]) ∧ Below w.heap.size w w' := by
  go_enter Tryd.func95, Tryd.ntmps95
  go_wp2_with fail
  refine (H0.out _).mono ?_
  rintro r w1 ⟨rfl, hb⟩
  go_wp2_with fail
  go_ret2
  exact ⟨rfl, hb.alloc hb.size _⟩

set_option maxHeartbeats 2000000 in
theorem nar_zero (X B : Nat) (k : Int) (k0 : 0 ≤ k) (k4 : k ≤ 4) (s : Bool) (x g : Int) (H0 : Hid (∀ w, Calls Tryd.prog 69 #[.float .f64 X] w fun r w' => r = .returned (.agg #[.bool s, .int .i64 0, .int .i64 x, .int .u64 g]) ∧ Below w.heap.size w w')) (cv : ∀ w, (convert 37 54 (.float .f64 X)).run Tryd.prog w = .ok (.float .f32 B) w) (w : World) :
    Calls Tryd.prog 95 #[.float .f64 X, .int .i64 k] w fun r w' => r = .returned (.tuple #[.float .f32 B, .int .i64 0]) ∧ Below w.heap.size w w' := by
  go_enter Tryd.func95, Tryd.ntmps95
  go_wp2_with fail
  refine (H0.out _).mono ?_
  rintro r w1 ⟨rfl, hb⟩
  go_wp2_with fail
  go_ret2
  exact ⟨rfl, hb.alloc hb.size _⟩

set_option maxHeartbeats 2000000 in
theorem nar_end (X B : Nat) (k : Int) (k0 : 0 ≤ k) (k4 : k ≤ 4) (s : Bool) (x g : Int) (H0 : Hid (∀ w, Calls Tryd.prog 69 #[.float .f64 X] w fun r w' => r = .returned (.agg #[.bool s, .int .i64 3, .int .i64 x, .int .u64 g]) ∧ Below w.heap.size w w')) (cv : ∀ w, (convert 37 54 (.float .f64 X)).run Tryd.prog w = .ok (.float .f32 B) w) (w : World) :
    Calls Tryd.prog 95 #[.float .f64 X, .int .i64 k] w fun r w' => r = .returned (.tuple #[.float .f32 B, .int .i64 0]) ∧ Below w.heap.size w w' := by
  go_enter Tryd.func95, Tryd.ntmps95
  go_wp2_with fail
  refine (H0.out _).mono ?_
  rintro r w1 ⟨rfl, hb⟩
  go_wp2_with fail
  go_ret2
  exact ⟨rfl, hb.alloc hb.size _⟩

set_option maxHeartbeats 2000000 in
theorem nar_fin_ff (X A : Nat) (k : Int) (k0 : 0 ≤ k) (k4 : k ≤ 4) (c x g q y : Int) (c4 : (c == 4) = false) (c0 : (c == 0) = false) (c3 : (c == 3) = false) (q0 : 0 ≤ q) (q1 : q ≤ 2139095039) (H0 : Hid (∀ w, Calls Tryd.prog 69 #[.float .f64 X] w fun r w' => r = .returned (.agg #[.bool false, .int .i64 c, .int .i64 x, .int .u64 g]) ∧ Below w.heap.size w w')) (H1 : Hid (∀ w, Calls Tryd.prog 70 #[.float .f64 X] w fun r w' => r = .returned (.float .f64 A) ∧ w' = w)) (H2 : Hid (∀ w, Calls Tryd.prog 126 #[.float .f64 A] w fun r w' => r = .returned (.int .u32 q) ∧ w' = w)) (H3 : Hid (∀ w, Calls Tryd.prog 128 #[.int .i64 k, .bool false] w fun r w' => r = .returned (.int .i64 y) ∧ Below w.heap.size w w')) (H4 : Hid (∀ w, Calls Tryd.prog 127 #[.float .f64 A, .int .u32 q, .int .i64 y] w fun r w' => r = .returned (.bool false) ∧ w' = w)) (w : World) :
    Calls Tryd.prog 95 #[.float .f64 X, .int .i64 k] w fun r w' => r = .returned (.tuple #[.float .f32 ((q : Int).toNat), .int .i64 0]) ∧ Below w.heap.size w w' := by
  go_enter Tryd.func95, Tryd.ntmps95
  go_wp2_with fail
  refine (H0.out _).mono ?_
  rintro r w1 ⟨rfl, hb⟩
  go_wp2_with fail
  refine (H1.out _).mono ?_
  rintro r w2 ⟨rfl, rfl⟩
  go_wp2_with fail
  refine (H2.out _).mono ?_
  rintro r w2 ⟨rfl, rfl⟩
  go_wp2_with fail
  refine (H3.out _).mono ?_
  rintro r w3 ⟨rfl, hb3⟩
  obtain ⟨hc, hfz⟩ := bcell hb3
  have B3 := (hb.alloc hb.size (.cells #[.bool false, .int .i64 c, .int .i64 x, .int .u64 g] 85)).trans (hb3.mono (by simp; exact Nat.le_succ_of_le hb.size))
  go_wp2_with fail
  refine (H4.out _).mono ?_
  rintro r w2 ⟨rfl, rfl⟩
  go_wp2_with fail
  go_ret2
  exact ⟨rfl, B3⟩

set_option maxHeartbeats 2000000 in
theorem nar_fin_ft (X A : Nat) (k : Int) (k0 : 0 ≤ k) (k4 : k ≤ 4) (c x g q y : Int) (c4 : (c == 4) = false) (c0 : (c == 0) = false) (c3 : (c == 3) = false) (q0 : 0 ≤ q) (q1 : q ≤ 2139095039) (H0 : Hid (∀ w, Calls Tryd.prog 69 #[.float .f64 X] w fun r w' => r = .returned (.agg #[.bool false, .int .i64 c, .int .i64 x, .int .u64 g]) ∧ Below w.heap.size w w')) (H1 : Hid (∀ w, Calls Tryd.prog 70 #[.float .f64 X] w fun r w' => r = .returned (.float .f64 A) ∧ w' = w)) (H2 : Hid (∀ w, Calls Tryd.prog 126 #[.float .f64 A] w fun r w' => r = .returned (.int .u32 q) ∧ w' = w)) (H3 : Hid (∀ w, Calls Tryd.prog 128 #[.int .i64 k, .bool false] w fun r w' => r = .returned (.int .i64 y) ∧ Below w.heap.size w w')) (H4 : Hid (∀ w, Calls Tryd.prog 127 #[.float .f64 A, .int .u32 q, .int .i64 y] w fun r w' => r = .returned (.bool true) ∧ w' = w)) (w : World) :
    Calls Tryd.prog 95 #[.float .f64 X, .int .i64 k] w fun r w' => r = .returned (.tuple #[.float .f32 ((q + 1 : Int).toNat), .int .i64 0]) ∧ Below w.heap.size w w' := by
  go_enter Tryd.func95, Tryd.ntmps95
  go_wp2_with fail
  refine (H0.out _).mono ?_
  rintro r w1 ⟨rfl, hb⟩
  go_wp2_with fail
  refine (H1.out _).mono ?_
  rintro r w2 ⟨rfl, rfl⟩
  go_wp2_with fail
  refine (H2.out _).mono ?_
  rintro r w2 ⟨rfl, rfl⟩
  go_wp2_with fail
  refine (H3.out _).mono ?_
  rintro r w3 ⟨rfl, hb3⟩
  obtain ⟨hc, hfz⟩ := bcell hb3
  have B3 := (hb.alloc hb.size (.cells #[.bool false, .int .i64 c, .int .i64 x, .int .u64 g] 85)).trans (hb3.mono (by simp; exact Nat.le_succ_of_le hb.size))
  go_wp2_with fail
  refine (H4.out _).mono ?_
  rintro r w2 ⟨rfl, rfl⟩
  go_wp2_with fail
  go_ret2
  exact ⟨rfl, B3⟩

set_option maxHeartbeats 2000000 in
theorem nar_fin_tf (X A : Nat) (k : Int) (k0 : 0 ≤ k) (k4 : k ≤ 4) (c x g q y : Int) (c4 : (c == 4) = false) (c0 : (c == 0) = false) (c3 : (c == 3) = false) (q0 : 0 ≤ q) (q1 : q ≤ 2139095039) (H0 : Hid (∀ w, Calls Tryd.prog 69 #[.float .f64 X] w fun r w' => r = .returned (.agg #[.bool true, .int .i64 c, .int .i64 x, .int .u64 g]) ∧ Below w.heap.size w w')) (H1 : Hid (∀ w, Calls Tryd.prog 70 #[.float .f64 X] w fun r w' => r = .returned (.float .f64 A) ∧ w' = w)) (H2 : Hid (∀ w, Calls Tryd.prog 126 #[.float .f64 A] w fun r w' => r = .returned (.int .u32 q) ∧ w' = w)) (H3 : Hid (∀ w, Calls Tryd.prog 128 #[.int .i64 k, .bool true] w fun r w' => r = .returned (.int .i64 y) ∧ Below w.heap.size w w')) (H4 : Hid (∀ w, Calls Tryd.prog 127 #[.float .f64 A, .int .u32 q, .int .i64 y] w fun r w' => r = .returned (.bool false) ∧ w' = w)) (w : World) :
    Calls Tryd.prog 95 #[.float .f64 X, .int .i64 k] w fun r w' => r = .returned (.tuple #[.float .f32 ((q + 2147483648 : Int).toNat), .int .i64 0]) ∧ Below w.heap.size w w' := by
  have hor := or_sign32 (q) (by omega) (by omega)
  go_enter Tryd.func95, Tryd.ntmps95
  go_wp2_with fail
  refine (H0.out _).mono ?_
  rintro r w1 ⟨rfl, hb⟩
  go_wp2_with fail
  refine (H1.out _).mono ?_
  rintro r w2 ⟨rfl, rfl⟩
  go_wp2_with fail
  refine (H2.out _).mono ?_
  rintro r w2 ⟨rfl, rfl⟩
  go_wp2_with fail
  refine (H3.out _).mono ?_
  rintro r w3 ⟨rfl, hb3⟩
  obtain ⟨hc, hfz⟩ := bcell hb3
  have B3 := (hb.alloc hb.size (.cells #[.bool true, .int .i64 c, .int .i64 x, .int .u64 g] 85)).trans (hb3.mono (by simp; exact Nat.le_succ_of_le hb.size))
  go_wp2_with fail
  refine (H4.out _).mono ?_
  rintro r w2 ⟨rfl, rfl⟩
  go_wp2_with fail
  go_ret2
  exact ⟨rfl, B3⟩

set_option maxHeartbeats 2000000 in
theorem nar_fin_tt (X A : Nat) (k : Int) (k0 : 0 ≤ k) (k4 : k ≤ 4) (c x g q y : Int) (c4 : (c == 4) = false) (c0 : (c == 0) = false) (c3 : (c == 3) = false) (q0 : 0 ≤ q) (q1 : q ≤ 2139095039) (H0 : Hid (∀ w, Calls Tryd.prog 69 #[.float .f64 X] w fun r w' => r = .returned (.agg #[.bool true, .int .i64 c, .int .i64 x, .int .u64 g]) ∧ Below w.heap.size w w')) (H1 : Hid (∀ w, Calls Tryd.prog 70 #[.float .f64 X] w fun r w' => r = .returned (.float .f64 A) ∧ w' = w)) (H2 : Hid (∀ w, Calls Tryd.prog 126 #[.float .f64 A] w fun r w' => r = .returned (.int .u32 q) ∧ w' = w)) (H3 : Hid (∀ w, Calls Tryd.prog 128 #[.int .i64 k, .bool true] w fun r w' => r = .returned (.int .i64 y) ∧ Below w.heap.size w w')) (H4 : Hid (∀ w, Calls Tryd.prog 127 #[.float .f64 A, .int .u32 q, .int .i64 y] w fun r w' => r = .returned (.bool true) ∧ w' = w)) (w : World) :
    Calls Tryd.prog 95 #[.float .f64 X, .int .i64 k] w fun r w' => r = .returned (.tuple #[.float .f32 ((q + 1 + 2147483648 : Int).toNat), .int .i64 0]) ∧ Below w.heap.size w w' := by
  have hor := or_sign32 (q + 1) (by omega) (by omega)
  go_enter Tryd.func95, Tryd.ntmps95
  go_wp2_with fail
  refine (H0.out _).mono ?_
  rintro r w1 ⟨rfl, hb⟩
  go_wp2_with fail
  refine (H1.out _).mono ?_
  rintro r w2 ⟨rfl, rfl⟩
  go_wp2_with fail
  refine (H2.out _).mono ?_
  rintro r w2 ⟨rfl, rfl⟩
  go_wp2_with fail
  refine (H3.out _).mono ?_
  rintro r w3 ⟨rfl, hb3⟩
  obtain ⟨hc, hfz⟩ := bcell hb3
  have B3 := (hb.alloc hb.size (.cells #[.bool true, .int .i64 c, .int .i64 x, .int .u64 g] 85)).trans (hb3.mono (by simp; exact Nat.le_succ_of_le hb.size))
  go_wp2_with fail
  refine (H4.out _).mono ?_
  rintro r w2 ⟨rfl, rfl⟩
  go_wp2_with fail
  go_ret2
  exact ⟨rfl, B3⟩
end Go.Proofs.YthilnddhehbjiaaDoor.B

/- What innerBits, takesOuter and Narrow answer, at every number and every mode. -/
namespace Go.Proofs.YthilnddhehbjiaaDoor.B
set_option linter.unusedVariables false
set_option maxRecDepth 20000
open Go.RowKit

theorem max32_bw : bw false 1150 4503599090499584 = 5183643170566569984 := by decide
theorem end32_bw : bw false 1151 0 = 5183643171103440896 := by decide

theorem pow_29 (p t : Nat) (h : p = t + 29) : 9007198717870080 * 2 ^ t = 16777215 * 2 ^ p := by
  subst h
  rw [Nat.pow_add, Nat.mul_comm (2 ^ t), ← Nat.mul_assoc]

theorem val_max32 : val Ieee.double (1150 * 4503599627370496 + 4503599090499584) = val Ieee.single 2139095039 * 2 ^ gp := by
  obtain ⟨t, ht, hg⟩ : ∃ t, (1150 * 4503599627370496 + 4503599090499584) / 4503599627370496 - 1 = t ∧ 2139095039 / 8388608 - 1 + gp = t + 29 := ⟨_, rfl, by have := gp_eq; omega⟩
  unfold val
  rw [dBin, sBin, if_neg (by omega), if_neg (by omega), ht, Nat.mul_assoc (8388608 + 2139095039 % 8388608), ← Nat.pow_add, hg, show 4503599627370496 + (1150 * 4503599627370496 + 4503599090499584) % 4503599627370496 = 9007198717870080 from by omega, show 8388608 + 2139095039 % 8388608 = 16777215 from by omega]
  exact pow_29 _ _ rfl

theorem pow_half (p t : Nat) (h : t = p + 29) : 4503599627370496 * 2 ^ p = 8388608 * 2 ^ t := by
  subst h
  rw [Nat.pow_add, Nat.mul_comm (2 ^ p), ← Nat.mul_assoc]

theorem val_end32 : val Ieee.double (1151 * 4503599627370496 + 0) = val Ieee.single 2139095040 * 2 ^ gp := by
  obtain ⟨t, ht, hg⟩ : ∃ t, (1151 * 4503599627370496 + 0) / 4503599627370496 - 1 = t ∧ 2139095040 / 8388608 - 1 + gp = t + 29 := ⟨_, rfl, by have := gp_eq; omega⟩
  unfold val
  rw [dBin, sBin, if_neg (by omega), if_neg (by omega), ht, Nat.mul_assoc (8388608 + 2139095040 % 8388608), ← Nat.pow_add, hg, show 4503599627370496 + (1151 * 4503599627370496 + 0) % 4503599627370496 = 4503599627370496 from by omega, show 8388608 + 2139095040 % 8388608 = 8388608 from by omega]
  exact pow_half _ _ rfl

section
variable (e f u v : Nat)
theorem plf : pl false e f = ((e * 4503599627370496 + f : Nat) : Int) := by unfold pl sg; simp

/-- finite numbers above nought compare as their values. -/
theorem gt_val (he : e < 2047) (hf : f < 4503599627370496) (hu : u < 2047) (hv : v < 4503599627370496) : (FloatKind.f64.format.order (bw false e f) (bw false u v) == some .gt) = decide (val Ieee.double (u * 4503599627370496 + v) < val Ieee.double (e * 4503599627370496 + f)) := by
  rw [gt_f64 false false e f u v (by omega) hf (by omega) hv, odd_lt e f he, odd_lt u v hu, plf, plf, Bool.eq_iff_iff]
  have := @val_lt_iff Ieee.double (u * 4503599627370496 + v) (e * 4503599627370496 + f)
  simp only [Bool.not_false, Bool.true_and, decide_eq_true_eq]
  omega
theorem eq_val (he : e < 2047) (hf : f < 4503599627370496) (hu : u < 2047) (hv : v < 4503599627370496) : (FloatKind.f64.format.order (bw false e f) (bw false u v) == some .eq) = decide (val Ieee.double (e * 4503599627370496 + f) = val Ieee.double (u * 4503599627370496 + v)) := by
  rw [eq_f64 false false e f u v (by omega) hf (by omega) hv, odd_lt e f he, odd_lt u v hu, plf, plf, Bool.eq_iff_iff]
  have h1 := @val_inj Ieee.double (e * 4503599627370496 + f) (u * 4503599627370496 + v)
  simp only [Bool.not_false, Bool.true_and, decide_eq_true_eq]
  constructor
  · intro h
    have : e * 4503599627370496 + f = u * 4503599627370496 + v := by omega
    rw [this]
  · intro h; have := h1 h; omega
end

/-- the value of a number of 32 bits, as one of 64. -/
theorem value32_is (r e f : Nat) (hr : r ≤ 2139095040) (he : e < 2047) (hf : f < 4503599627370496) (hv : val Ieee.double (e * 4503599627370496 + f) = val Ieee.single r * 2 ^ gp) :
    ∀ w, Calls Tryd.prog 144 #[.int .u32 (r : Int)] w fun q w' => q = .returned (.float .f64 (bw false e f)) ∧ w' = w := by
  by_cases h : r = 2139095040
  · subst h
    have : bw false e f = 5183643171103440896 := by
      have := val_inj Ieee.double (hv.trans val_end32.symm)
      rw [← end32_bw, bw_word, bw_word, this]
    rw [this]
    exact val32_end
  · intro w
    refine val32_num r (bw false e f) (beq_eq_false_iff_ne.2 (by omega)) (fun w => ?_) w
    rw [Int.toNat_natCast]
    refine widen_num _ _ ?_ (fun w => ?_) w
    · have h1 : FloatKind.f32.format.order r r = some .eq := by
        show Ieee.single.order (Ieee.single.word false r) (Ieee.single.word false r) = _
        rw [order_word Ieee.single sHs sHb false false r r (by rw [sInf]; omega) (by rw [sInf]; omega), Int.compare_eq_eq.2 rfl]
      rw [h1]; rfl
    · exact run_convert_float_float w _ _ .f32 .f64 _ _ (by kernel_rfl) Tryd.underlying37 (widen_bits false r e f (by omega) he hf hv)

/-- q is the greatest finite number of 32 bits that is not above the value. -/
def Floor (V q : Nat) : Prop := q ≤ 2139095039 ∧ val Ieee.single q * 2 ^ gp ≤ V ∧ (q = 2139095039 ∨ V < val Ieee.single (q + 1) * 2 ^ gp)

theorem floor_uniq (V p q : Nat) (hp : Floor V p) (hq : Floor V q) : p = q := by
  have key : ∀ p q, Floor V p → Floor V q → ¬ p < q := by
    intro p q hp hq h
    rcases hp.2.2 with h1 | h1
    · have := hq.1; omega
    · have h2 := (val_lt_iff Ieee.single).1 (Nat.lt_of_mul_lt_mul_right (Nat.lt_of_le_of_lt hq.2.1 h1))
      omega
  have := key p q hp hq
  have := key q p hq hp
  omega

theorem inner_is (e f : Nat) (he : e < 2047) (hf : f < 4503599627370496) (h0 : 0 < e * 4503599627370496 + f) :
    ∃ q, Floor (val Ieee.double (e * 4503599627370496 + f)) q ∧ ∀ w, Calls Tryd.prog 126 #[.float .f64 (bw false e f)] w fun r w' => r = .returned (.int .u32 (q : Int)) ∧ w' = w := by
  have g1 := gt_val e f 1150 4503599090499584 he hf (by omega) (by omega)
  have g2 := eq_val e f 1150 4503599090499584 he hf (by omega) (by omega)
  rw [max32_bw, val_max32] at g1 g2
  by_cases hb : val Ieee.single 2139095039 * 2 ^ gp ≤ val Ieee.double (e * 4503599627370496 + f)
  · refine ⟨2139095039, ⟨Nat.le_refl _, hb, Or.inl rfl⟩, fun w => inner_big _ ?_ w⟩
    rw [g1, g2]
    by_cases c : val Ieee.single 2139095039 * 2 ^ gp < val Ieee.double (e * 4503599627370496 + f)
    · rw [decide_eq_true c]; rfl
    · rw [decide_eq_false c, decide_eq_true (show val Ieee.double (e * 4503599627370496 + f) = val Ieee.single 2139095039 * 2 ^ gp by omega)]; rfl
  · have o : (FloatKind.f64.format.order (bw false e f) 5183643170566569984 == some .gt || FloatKind.f64.format.order (bw false e f) 5183643170566569984 == some .eq) = false := by
      rw [g1, g2, decide_eq_false (show ¬ val Ieee.single 2139095039 * 2 ^ gp < val Ieee.double (e * 4503599627370496 + f) by omega), decide_eq_false (show ¬ val Ieee.double (e * 4503599627370496 + f) = val Ieee.single 2139095039 * 2 ^ gp by omega)]; rfl
    obtain ⟨R, hR, hcv, h1, h2⟩ := narrow_bits (e * 4503599627370496 + f) h0 (by omega) (by omega)
    rw [← bw_word] at hcv
    obtain ⟨eL, fL, heL, hfL, hvL⟩ := up_exists R (by omega)
    have cv : ∀ w, (convert 37 54 (.float .f64 (bw false e f))).run Tryd.prog w = .ok (.float .f32 R) w := fun w => run_convert_float_float w _ _ .f64 .f32 _ _ (by kernel_rfl) Tryd.underlying54 hcv
    have HL := value32_is R eL fL (by omega) heL hfL hvL
    have g3 := gt_val eL fL e f heL hfL he hf
    rw [hvL] at g3
    by_cases c : val Ieee.single R * 2 ^ gp ≤ val Ieee.double (e * 4503599627370496 + f)
    · rw [decide_eq_false (by omega)] at g3
      exact ⟨R, ⟨hR, c, Or.inr (h1 c)⟩, fun w => inner_at _ R _ o hR cv HL g3 w⟩
    · rw [decide_eq_true (by omega)] at g3
      obtain ⟨c1, c2⟩ := h2 (by omega)
      refine ⟨R - 1, ⟨by omega, by omega, Or.inr ?_⟩, fun w => inner_below _ R _ o hR cv HL c1 (R - 1) (show R - 1 + 1 = R by omega) g3 w⟩
      rw [show R - 1 + 1 = R by omega]; omega

/-- is the outer one of two neighbours taken? -/
def tkS (V LO HI q : Nat) (way : Int) : Bool :=
  if V = LO then false else if way = 1 then true else if way = 2 then decide (LO + HI < 2 * V) || (decide (2 * V = LO + HI) && q % 2 == 1) else if way = 3 then decide (LO + HI ≤ 2 * V) else false

/-- the middle of two neighbours, as Go reckons it, is exact. -/
theorem middle_is (q : Nat) (hq : q ≤ 2139095039) (e0 f0 e1 f1 : Nat) (he0 : e0 < 2047) (hf0 : f0 < 4503599627370496) (he1 : e1 < 2047) (hf1 : f1 < 4503599627370496)
    (h0 : val Ieee.double (e0 * 4503599627370496 + f0) = val Ieee.single q * 2 ^ gp) (h1 : val Ieee.double (e1 * 4503599627370496 + f1) = val Ieee.single (q + 1) * 2 ^ gp) :
    ∃ D Hf em fm, em < 2047 ∧ fm < 4503599627370496 ∧ 2 * val Ieee.double (em * 4503599627370496 + fm) = val Ieee.single q * 2 ^ gp + val Ieee.single (q + 1) * 2 ^ gp ∧
      floatBits .sub .f64 (bw false e1 f1) (bw false e0 f0) = some D ∧ floatBits .quo .f64 D 4611686018427387904 = some Hf ∧ floatBits .add .f64 (bw false e0 f0) Hf = some (bw false em fm) := by
  have hs := val_succ Ieee.single q
  rw [sBin] at hs
  -- the step, by its power
  obtain ⟨t, ht⟩ : ∃ t, q / 8388608 - 1 + gp = t + 1 := ⟨q / 8388608 - 1 + gp - 1, by have := gp_eq; omega⟩
  have hstep : val Ieee.single (q + 1) * 2 ^ gp = val Ieee.single q * 2 ^ gp + 2 * 2 ^ t := by
    rw [hs, Nat.add_mul, ← Nat.pow_add, ht, Nat.pow_succ, Nat.mul_comm (2 ^ t)]
  obtain ⟨c, hc, hcv⟩ : ∃ c, c < 16777216 ∧ val Ieee.single q * 2 ^ gp = c * (2 * 2 ^ t) := by
    unfold val
    rw [sBin]
    by_cases h : q < 8388608
    · rw [if_pos h]
      refine ⟨q, by omega, ?_⟩
      have : gp = t + 1 := by have := Nat.div_eq_of_lt h; omega
      rw [this, Nat.pow_succ, Nat.mul_comm (2 ^ t)]
    · rw [if_neg h]
      refine ⟨8388608 + q % 8388608, by omega, ?_⟩
      rw [Nat.mul_assoc, ← Nat.pow_add, ht, Nat.pow_succ, Nat.mul_comm (2 ^ t)]
  have htb : t + 1 ≤ 2045 := by have := gp_eq; omega
  have hp : 0 < 2 ^ t := Nat.two_pow_pos _
  obtain ⟨ed, fd, hed, hfd, hvd⟩ := mk_exists (t + 1) 1 (by omega) htb
  obtain ⟨eh, fh, heh, hfh, hvh⟩ := mk_exists t 1 (by omega) (by omega)
  obtain ⟨em, fm, hem, hfm, hvm⟩ := mk_exists t (2 * c + 1) (by omega) (by omega)
  rw [Nat.one_mul] at hvd hvh
  rw [Nat.pow_succ, Nat.mul_comm (2 ^ t) 2] at hvd
  have hm2 : (2 * c + 1) * 2 ^ t = c * (2 * 2 ^ t) + 2 ^ t := by rw [Nat.add_mul, Nat.one_mul, Nat.mul_comm 2 c, Nat.mul_assoc]
  rw [hm2] at hvm
  refine ⟨bw false ed fd, bw false eh fh, em, fm, hem, hfm, ?_, ?_, ?_, ?_⟩
  · rw [hvm, hstep, hcv]; omega
  · show Ieee.double.sub _ _ = _
    rw [bw_word, bw_word, bw_word]
    have hsum : sg false (val Ieee.double (e1 * 4503599627370496 + f1)) + sg (!false) (val Ieee.double (e0 * 4503599627370496 + f0)) = ((2 * 2 ^ t : Nat) : Int) := by
      unfold sg; simp only [Bool.not_false, if_true, Bool.false_eq_true, if_false]
      rw [h1, h0, hstep]; omega
    have hnz : ed * 4503599627370496 + fd ≠ 0 := by
      intro h; rw [h, val_zero] at hvd; omega
    have := sub_exact Ieee.double dHs false false (e1 * 4503599627370496 + f1) (e0 * 4503599627370496 + f0) (ed * 4503599627370496 + fd) (by rw [dInf]; omega) (by rw [dInf]; omega) (by rw [dInf]; omega) (by rw [hsum, hvd, Int.natAbs_natCast])
    rw [this, if_neg hnz, hsum, decide_eq_false (by omega)]
  · show Ieee.double.div _ _ = _
    rw [bw_word, bw_word]
    exact div_two _ _ (by omega) (by omega) (by rw [hvd, hvh]) (by rw [hvh]; exact hp)
  · show Ieee.double.add _ _ = _
    rw [bw_word, bw_word, bw_word]
    have hsum : sg false (val Ieee.double (e0 * 4503599627370496 + f0)) + sg false (val Ieee.double (eh * 4503599627370496 + fh)) = ((c * (2 * 2 ^ t) + 2 ^ t : Nat) : Int) := by
      unfold sg; simp only [Bool.false_eq_true, if_false]
      rw [h0, hvh, hcv]; omega
    have hnz : em * 4503599627370496 + fm ≠ 0 := by
      intro h; rw [h, val_zero] at hvm; omega
    have := add_exact Ieee.double dHs false false (e0 * 4503599627370496 + f0) (eh * 4503599627370496 + fh) (em * 4503599627370496 + fm) (by rw [dInf]; omega) (by rw [dInf]; omega) (by rw [dInf]; omega) (by rw [hsum, hvm, Int.natAbs_natCast])
    rw [this, if_neg hnz, hsum, decide_eq_false (by omega)]
end Go.Proofs.YthilnddhehbjiaaDoor.B

/- What takesOuter and Narrow answer, at every number and every mode. -/
namespace Go.Proofs.YthilnddhehbjiaaDoor.B
set_option linter.unusedVariables false
set_option maxRecDepth 20000
open Go.RowKit

theorem takes_core (X L B D Hf Md q : Nat) (hq : q ≤ 2139095039) (y : Int) (hy : y = 0 ∨ y = 1 ∨ y = 2 ∨ y = 3) (V M LO HI : Nat)
    (H1 : ∀ w, Calls Tryd.prog 144 #[.int .u32 (q : Int)] w fun r w' => r = .returned (.float .f64 L) ∧ w' = w)
    (H2 : ∀ w, Calls Tryd.prog 144 #[.int .u32 ((q : Int) + 1)] w fun r w' => r = .returned (.float .f64 B) ∧ w' = w)
    (o : (FloatKind.f64.format.order X L == some .eq) = decide (V = LO))
    (d1 : ∀ w, (binOp .sub 37 (.float .f64 B) (.float .f64 L)).run Tryd.prog w = .ok (.float .f64 D) w)
    (d2 : ∀ w, (binOp .quo 37 (.float .f64 D) (.float .f64 4611686018427387904)).run Tryd.prog w = .ok (.float .f64 Hf) w)
    (d3 : ∀ w, (binOp .add 37 (.float .f64 L) (.float .f64 Hf)).run Tryd.prog w = .ok (.float .f64 Md) w)
    (m1 : (FloatKind.f64.format.order X Md == some .gt) = decide (M < V)) (m2 : (FloatKind.f64.format.order X Md == some .eq) = decide (V = M)) (hM : 2 * M = LO + HI) (w : World) :
    Calls Tryd.prog 127 #[.float .f64 X, .int .u32 (q : Int), .int .i64 y] w fun r w' => r = .returned (.bool (tkS V LO HI q y)) ∧ w' = w := by
  unfold tkS
  by_cases hV : V = LO
  · rw [if_pos hV]
    rw [decide_eq_true hV] at o
    exact takes_same _ _ q y H1 o w
  · rw [if_neg hV]
    rw [decide_eq_false hV] at o
    rw [← hM]
    rcases hy with rfl | rfl | rfl | rfl
    · rw [if_neg (by decide), if_neg (by decide), if_neg (by decide)]
      exact takes_in _ _ _ _ _ _ q (by omega) (by omega) H1 H2 o d1 d2 d3 w
    · rw [if_pos rfl]
      exact takes_out _ _ _ _ _ _ q (by omega) (by omega) H1 H2 o d1 d2 d3 w
    · rw [if_neg (by decide), if_pos rfl]
      by_cases c1 : M < V
      · rw [decide_eq_true c1] at m1
        rw [decide_eq_true (show 2 * M < 2 * V by omega), Bool.true_or]
        exact takes_even_gt _ _ _ _ _ _ q (by omega) (by omega) H1 H2 o d1 d2 d3 m1 w
      · rw [decide_eq_false c1] at m1
        rw [decide_eq_false (show ¬ 2 * M < 2 * V by omega), Bool.false_or]
        by_cases c2 : V = M
        · rw [decide_eq_true c2] at m2
          rw [decide_eq_true (show 2 * V = 2 * M by omega), Bool.true_and]
          refine takes_even_eq _ _ _ _ _ _ q (by omega) (by omega) H1 H2 o d1 d2 d3 _ m1 m2 ?_ w
          rw [and_one32 q (by omega) (by omega), Bool.eq_iff_iff]
          simp; omega
        · rw [decide_eq_false c2] at m2
          rw [decide_eq_false (show ¬ 2 * V = 2 * M by omega), Bool.false_and]
          exact takes_even_lt _ _ _ _ _ _ q (by omega) (by omega) H1 H2 o d1 d2 d3 m1 m2 w
    · rw [if_neg (by decide), if_neg (by decide), if_pos rfl]
      refine takes_away _ _ _ _ _ _ q (by omega) (by omega) H1 H2 o d1 d2 d3 _ ?_ w
      rw [m1, m2, Bool.eq_iff_iff]
      simp; omega

theorem takes_is (e f q : Nat) (he : e < 2047) (hf : f < 4503599627370496) (hq : q ≤ 2139095039) (y : Int) (hy : y = 0 ∨ y = 1 ∨ y = 2 ∨ y = 3) :
    ∀ w, Calls Tryd.prog 127 #[.float .f64 (bw false e f), .int .u32 (q : Int), .int .i64 y] w fun r w' => r = .returned (.bool (tkS (val Ieee.double (e * 4503599627370496 + f)) (val Ieee.single q * 2 ^ gp) (val Ieee.single (q + 1) * 2 ^ gp) q y)) ∧ w' = w := by
  intro w
  obtain ⟨e0, f0, he0, hf0, h0⟩ := up_exists q (by omega)
  obtain ⟨e1, f1, he1, hf1, h1⟩ := up_exists (q + 1) (by omega)
  have H1 := value32_is q e0 f0 (by omega) he0 hf0 h0
  have H2 := value32_is (q + 1) e1 f1 (by omega) he1 hf1 h1
  rw [show ((q + 1 : Nat) : Int) = (q : Int) + 1 from by omega] at H2
  have o := eq_val e f e0 f0 he hf he0 hf0
  rw [h0] at o
  obtain ⟨D, Hf, em, fm, hem, hfm, hM, s1, s2, s3⟩ := middle_is q hq e0 f0 e1 f1 he0 hf0 he1 hf1 h0 h1
  exact takes_core _ _ _ D Hf (bw false em fm) q hq y hy _ _ _ _ H1 H2 o (fun w => run_float_arith w .sub _ .f64 _ _ _ s1) (fun w => run_float_arith w .quo _ .f64 _ _ _ s2) (fun w => run_float_arith w .add _ .f64 _ _ _ s3) (gt_val e f em fm he hf hem hfm) (eq_val e f em fm he hf hem hfm) hM w

/-- how a mode goes, above nought and below it. -/
def wayS (k : Int) (s : Bool) : Int := if k = 0 then 2 else if k = 1 then 0 else if k = 2 then (if s then 0 else 1) else if k = 3 then (if s then 1 else 0) else 3

theorem taken_is (k : Int) (s : Bool) (k0 : 0 ≤ k) (k4 : k ≤ 4) : ∀ w, Calls Tryd.prog 128 #[.int .i64 k, .bool s] w fun r w' => r = .returned (.int .i64 (wayS k s)) ∧ Below w.heap.size w w' := by
  have h : k = 0 ∨ k = 1 ∨ k = 2 ∨ k = 3 ∨ k = 4 := by omega
  rcases h with rfl | rfl | rfl | rfl | rfl <;> cases s
  · exact taken_0p
  · exact taken_0n
  · exact taken_1p
  · exact taken_1n
  · exact taken_2p
  · exact taken_2n
  · exact taken_3p
  · exact taken_3n
  · exact taken_4p
  · exact taken_4n

theorem wayS_in (k : Int) (s : Bool) : wayS k s = 0 ∨ wayS k s = 1 ∨ wayS k s = 2 ∨ wayS k s = 3 := by
  unfold wayS; split
  · simp
  · split
    · simp
    · split
      · cases s <;> simp
      · split
        · cases s <;> simp
        · simp

/-- the rung that is taken. -/
def nr (V q : Nat) (k : Int) (s : Bool) : Nat := q + (tkS V (val Ieee.single q * 2 ^ gp) (val Ieee.single (q + 1) * 2 ^ gp) q (wayS k s)).toNat

/-- Narrow at a finite number that is no nought. -/
theorem narrow_fin (s : Bool) (e f q : Nat) (k : Int) (he : e < 2047) (hf : f < 4503599627370496) (h0 : 0 < e * 4503599627370496 + f) (k0 : 0 ≤ k) (k4 : k ≤ 4)
    (hq : Floor (val Ieee.double (e * 4503599627370496 + f)) q) :
    ∀ w, Calls Tryd.prog 95 #[.float .f64 (bw s e f), .int .i64 k] w fun r w' => r = .returned (.tuple #[.float .f32 (Ieee.single.word s (nr (val Ieee.double (e * 4503599627370496 + f)) q k s)), .int .i64 0]) ∧ Below w.heap.size w w' := by
  intro w
  obtain ⟨q', hq', H2⟩ := inner_is e f he hf h0
  have : q' = q := floor_uniq _ _ _ hq' hq
  subst this
  have hqb := hq.1
  have H0 : ∀ w, Calls Tryd.prog 69 #[.float .f64 (bw s e f)] w fun r w' => r = .returned (.agg #[.bool s, .int .i64 (cls e f), .int .i64 (xp e), .int .u64 (fr e f)]) ∧ Below w.heap.size w w' := by
    have h := Split_any s e f (by omega) hf
    have hn : ng s e f = s := if_neg (by omega)
    rwa [hn] at h
  have hc : (cls e f == 4) = false ∧ (cls e f == 0) = false ∧ (cls e f == 3) = false := by
    unfold cls
    rw [if_neg (by omega)]
    by_cases h : e = 0
    · rw [if_pos h, if_neg (by omega)]; exact ⟨rfl, rfl, rfl⟩
    · rw [if_neg h]; exact ⟨rfl, rfl, rfl⟩
  have H1 := abs_any s e f (by omega) hf
  have H3 := taken_is k s k0 k4
  have H4 := takes_is e f q' he hf hqb (wayS k s) (wayS_in k s)
  unfold nr
  cases ht : tkS (val Ieee.double (e * 4503599627370496 + f)) (val Ieee.single q' * 2 ^ gp) (val Ieee.single (q' + 1) * 2 ^ gp) q' (wayS k s)
  · rw [ht] at H4
    have hw : Ieee.single.word s (q' + Bool.false.toNat) = (if s then (q' : Int) + 2147483648 else (q' : Int)).toNat := by
      unfold Ieee.Format.word; rw [sSign]; cases s <;> simp <;> omega
    rw [hw]
    cases s
    · exact nar_fin_ff _ _ k k0 k4 _ _ _ _ _ hc.1 hc.2.1 hc.2.2 (by omega) (by omega) H0 H1 H2 H3 H4 w
    · exact nar_fin_tf _ _ k k0 k4 _ _ _ _ _ hc.1 hc.2.1 hc.2.2 (by omega) (by omega) H0 H1 H2 H3 H4 w
  · rw [ht] at H4
    have hw : Ieee.single.word s (q' + Bool.true.toNat) = (if s then (q' : Int) + 1 + 2147483648 else (q' : Int) + 1).toNat := by
      unfold Ieee.Format.word; rw [sSign]; cases s <;> simp <;> omega
    rw [hw]
    cases s
    · exact nar_fin_ft _ _ k k0 k4 _ _ _ _ _ hc.1 hc.2.1 hc.2.2 (by omega) (by omega) H0 H1 H2 H3 H4 w
    · exact nar_fin_tt _ _ k k0 k4 _ _ _ _ _ hc.1 hc.2.1 hc.2.2 (by omega) (by omega) H0 H1 H2 H3 H4 w

theorem narrow_odd (s : Bool) (e f : Nat) (k : Int) (he : e < 2048) (hf : f < 4503599627370496) (ho : odd e f = true) (k0 : 0 ≤ k) (k4 : k ≤ 4) :
    ∀ w, Calls Tryd.prog 95 #[.float .f64 (bw s e f), .int .i64 k] w fun r w' => r = .returned (.tuple #[.float .f32 2143289344, .int .i64 0]) ∧ Below w.heap.size w w' := by
  have h : ∀ w, Calls Tryd.prog 69 #[.float .f64 (bw s e f)] w fun r w' => r = .returned (.agg #[.bool false, .int .i64 4, .int .i64 0, .int .u64 0]) ∧ Below w.heap.size w w' := by
    intro w; rw [← splitV_odd s e f (is_odd e f ho).1 (by simp [(is_odd e f ho).2])]; exact Split_any s e f he hf w
  exact nar_odd _ k k0 k4 false 0 0 h

theorem narrow_zero (s : Bool) (k : Int) (k0 : 0 ≤ k) (k4 : k ≤ 4) :
    ∀ w, Calls Tryd.prog 95 #[.float .f64 (bw s 0 0), .int .i64 k] w fun r w' => r = .returned (.tuple #[.float .f32 (Ieee.single.word s 0), .int .i64 0]) ∧ Below w.heap.size w w' := by
  have h : ∀ w, Calls Tryd.prog 69 #[.float .f64 (bw s 0 0)] w fun r w' => r = .returned (.agg #[.bool s, .int .i64 0, .int .i64 (-1074), .int .u64 0]) ∧ Below w.heap.size w w' := by
    intro w; rw [← splitV_nought s 0 0 rfl (by simp)]; exact Split_any s 0 0 (by omega) (by omega) w
  have cv : floatToFloatBits .f64 (bw s 0 0) .f32 = some (Ieee.single.word s 0) := by cases s <;> decide
  exact nar_zero _ _ k k0 k4 s _ _ h (fun w => run_convert_float_float w _ _ .f64 .f32 _ _ (by kernel_rfl) Tryd.underlying54 cv)

theorem narrow_end (s : Bool) (k : Int) (k0 : 0 ≤ k) (k4 : k ≤ 4) :
    ∀ w, Calls Tryd.prog 95 #[.float .f64 (bw s 2047 0), .int .i64 k] w fun r w' => r = .returned (.tuple #[.float .f32 (Ieee.single.word s 2139095040), .int .i64 0]) ∧ Below w.heap.size w w' := by
  have h : ∀ w, Calls Tryd.prog 69 #[.float .f64 (bw s 2047 0)] w fun r w' => r = .returned (.agg #[.bool s, .int .i64 3, .int .i64 0, .int .u64 0]) ∧ Below w.heap.size w w' := by
    intro w; rw [← splitV_end s 2047 0 rfl (by simp)]; exact Split_any s 2047 0 (by omega) (by omega) w
  have cv : floatToFloatBits .f64 (bw s 2047 0) .f32 = some (Ieee.single.word s 2139095040) := by cases s <;> decide
  exact nar_end _ _ k k0 k4 s _ _ h (fun w => run_convert_float_float w _ _ .f64 .f32 _ _ (by kernel_rfl) Tryd.underlying54 cv)

theorem narrow_err (X : Nat) (k : Int) (h : k < 0 ∨ 4 < k) : ∀ w, Calls Tryd.prog 95 #[.float .f64 X, .int .i64 k] w fun r w' => r = .returned (.tuple #[.float .f32 0, .int .i64 1]) ∧ w' = w := by
  rcases h with h | h
  · exact nar_low X k h
  · exact nar_high X k h
end Go.Proofs.YthilnddhehbjiaaDoor.B

