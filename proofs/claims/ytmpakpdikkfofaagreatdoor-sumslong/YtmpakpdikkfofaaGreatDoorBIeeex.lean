/- Plain facts on the numbers of a format of IEEE 754, by rungs: their values rise, words are in the order of their signed rungs, what is a number of the format is written as that number, sums that are numbers are exact. No condition but what each theorem names. -/
import Ieee.Arith
namespace Go.Proofs.YtmpakpdikkfofaaGreatDoor.B
set_option linter.unusedVariables false
set_option maxRecDepth 20000
open Ieee

def val (f : Format) (r : Nat) : Nat := if r < f.binade then r else (f.binade + r % f.binade) * 2 ^ (r / f.binade - 1)

theorem binade_pos (f : Format) : 0 < f.binade := Nat.two_pow_pos _

theorem val_succ (f : Format) (r : Nat) : val f (r + 1) = val f r + 2 ^ (r / f.binade - 1) := by
  have hb := binade_pos f
  unfold val
  generalize hB : f.binade = B at *
  by_cases h : r < B
  · rw [if_pos h, Nat.div_eq_of_lt h]
    by_cases h1 : r + 1 < B
    · rw [if_pos h1]
    · have e : r + 1 = B := by omega
      rw [if_neg h1, e, Nat.mod_self, Nat.div_self hb]; simp
  · have h1 : ¬ r + 1 < B := by omega
    rw [if_neg h, if_neg h1]
    have hq : 1 ≤ r / B := by
      have := Nat.div_le_div_right (c := B) (Nat.le_of_not_lt h)
      rw [Nat.div_self hb] at this; exact this
    have hm := Nat.mod_lt r hb
    have hd := Nat.div_add_mod r B
    generalize r / B = q at *
    generalize hmm : r % B = m at *
    obtain ⟨q, rfl⟩ : ∃ k, q = k + 1 := ⟨q - 1, by omega⟩
    by_cases h2 : m + 1 < B
    · have e : r + 1 = B * (q + 1) + (m + 1) := by omega
      have e1 : (r + 1) % B = m + 1 := by rw [e, Nat.mul_add_mod, Nat.mod_eq_of_lt h2]
      have e2 : (r + 1) / B = q + 1 := by rw [e, Nat.mul_add_div hb, Nat.div_eq_of_lt h2]
      rw [e1, e2, Nat.add_sub_cancel, ← Nat.add_assoc, Nat.add_mul, Nat.one_mul]
    · have hm1 : m + 1 = B := by omega
      have e : r + 1 = B * (q + 2) := by rw [show q + 2 = (q + 1) + 1 from rfl, Nat.mul_succ]; omega
      have e1 : (r + 1) % B = 0 := by rw [e, Nat.mul_mod_right]
      have e2 : (r + 1) / B = q + 2 := by rw [e, Nat.mul_div_cancel_left _ hb]
      rw [e1, e2]
      have : B + m = 2 * B - 1 := by omega
      have h3 : (B + m) * 2 ^ q + 2 ^ q = (2 * B) * 2 ^ q := by
        rw [← Nat.succ_mul]; congr 1; omega
      show (B + 0) * 2 ^ (q + 1) = (B + m) * 2 ^ q + 2 ^ q
      rw [h3, Nat.pow_succ, Nat.add_zero, Nat.mul_comm 2 B, Nat.mul_assoc, Nat.mul_comm 2]

theorem val_lt_succ (f : Format) (r : Nat) : val f r < val f (r + 1) := by
  rw [val_succ]; exact Nat.lt_add_of_pos_right (Nat.two_pow_pos _)

theorem val_lt (f : Format) {r s : Nat} (h : r < s) : val f r < val f s := by
  induction s with
  | zero => omega
  | succ s ih =>
    by_cases e : r = s
    · subst e; exact val_lt_succ f r
    · exact Nat.lt_trans (ih (by omega)) (val_lt_succ f s)

theorem val_lt_iff (f : Format) {r s : Nat} : val f r < val f s ↔ r < s := by
  constructor
  · intro h
    by_cases e : r < s
    · exact e
    · by_cases e2 : r = s
      · subst e2; omega
      · have := val_lt f (show s < r by omega); omega
  · exact val_lt f

theorem val_inj (f : Format) {r s : Nat} (h : val f r = val f s) : r = s := by
  by_cases e : r < s
  · have := val_lt f e; omega
  · by_cases e2 : s < r
    · have := val_lt f e2; omega
    · omega

theorem val_zero (f : Format) : val f 0 = 0 := by
  unfold val; rw [if_pos (binade_pos f)]

/-- the signed rung. -/
def sg (s : Bool) (r : Nat) : Int := if s then -(r : Int) else r

theorem sg_val_lt (f : Format) (s t : Bool) (r u : Nat) : sg s (val f r) < sg t (val f u) ↔ sg s r < sg t u := by
  have h1 := @val_lt_iff f r u
  have h2 := @val_lt_iff f u r
  have z := val_zero f
  have h3 := @val_lt_iff f 0 r
  have h4 := @val_lt_iff f 0 u
  cases s <;> cases t <;> simp only [sg, if_true, if_false, Bool.false_eq_true] <;> omega

theorem signed_eq (s : Bool) (m k : Nat) : signed s m k = sg s (m * 2 ^ k) := by
  unfold signed sg; rw [Nat.shiftLeft_eq]

/-- what a word below infinity reads as. -/
theorem read_word (f : Format) (s : Bool) (r : Nat) (hr : r < f.infRung) (hs : f.infRung < f.signWeight) :
    ∃ m : Nat, ∃ k : Nat, f.read (f.word s r) = .number s m (f.leastPlace + k) ∧ m * 2 ^ k = val f r := by
  have e1 : (f.word s r / f.signWeight % 2 == 1) = s := by
    unfold Format.word
    cases s
    · simp only [Bool.false_eq_true, if_false]
      rw [Nat.div_eq_of_lt (by omega)]; rfl
    · simp only [if_true]
      rw [Nat.add_div_left _ (by omega), Nat.div_eq_of_lt (by omega)]; rfl
  have e2 : f.word s r % f.signWeight = r := by
    unfold Format.word
    cases s
    · simp only [Bool.false_eq_true, if_false]; exact Nat.mod_eq_of_lt (by omega)
    · simp only [if_true]; rw [Nat.add_mod_left]; exact Nat.mod_eq_of_lt (by omega)
  unfold Format.read
  simp only [e1, e2]
  unfold val
  by_cases h : r < f.binade
  · rw [if_pos h, if_pos h]
    exact ⟨r, 0, by simp, by simp⟩
  · rw [if_neg h, if_neg h, if_pos hr]
    exact ⟨_, _, rfl, rfl⟩

theorem read_inf (f : Format) (s : Bool) (hs : f.infRung < f.signWeight) (hb : f.binade ≤ f.infRung) :
    f.read (f.word s f.infRung) = .infinity s := by
  have e1 : (f.word s f.infRung / f.signWeight % 2 == 1) = s := by
    unfold Format.word
    cases s
    · simp only [Bool.false_eq_true, if_false]
      rw [Nat.div_eq_of_lt (by omega)]; rfl
    · simp only [if_true]
      rw [Nat.add_div_left _ (by omega), Nat.div_eq_of_lt (by omega)]; rfl
  have e2 : f.word s f.infRung % f.signWeight = f.infRung := by
    unfold Format.word
    cases s
    · simp only [Bool.false_eq_true, if_false]; exact Nat.mod_eq_of_lt (by omega)
    · simp only [if_true]; rw [Nat.add_mod_left]; exact Nat.mod_eq_of_lt (by omega)
  unfold Format.read
  simp only [e1, e2]
  rw [if_neg (by omega), if_neg (by omega), if_pos trivial]

theorem read_nan (f : Format) (w : Nat) (h : f.infRung < w % f.signWeight) (hb : f.binade ≤ f.infRung) :
    f.read w = .nan (w / f.signWeight % 2 == 1) (w % f.signWeight - f.infRung) := by
  unfold Format.read
  simp only
  rw [if_neg (by omega), if_neg (by omega), if_neg (by omega)]

theorem compare_of (a b c d : Int) (h1 : a < b ↔ c < d) (h2 : b < a ↔ d < c) : compare a b = compare c d := by
  by_cases x : a < b
  · rw [Int.compare_eq_lt.2 x, Int.compare_eq_lt.2 (h1.1 x)]
  · by_cases y : b < a
    · rw [Int.compare_eq_gt.2 y, Int.compare_eq_gt.2 (h2.1 y)]
    · have e1 : a = b := by omega
      have e2 : c = d := by
        have n1 := mt h1.2 x
        have n2 := mt h2.2 y
        omega
      rw [Int.compare_eq_eq.2 e1, Int.compare_eq_eq.2 e2]

theorem sg_mul (s : Bool) (a k : Nat) : sg s (a * k) = sg s a * (k : Int) := by
  unfold sg; cases s <;> simp [Int.neg_mul]

/-- how two numbers compare. -/
theorem order_num (s t : Bool) (m n j k : Nat) (p : Int) :
    Datum.order (.number s m (p + j)) (.number t n (p + k)) = some (compare (sg s (m * 2 ^ j)) (sg t (n * 2 ^ k))) := by
  unfold Datum.order
  simp only [signed_eq]
  congr 1
  have hb : ∃ c : Nat, min (p + (j : Int)) (p + (k : Int)) = p + c := ⟨min j k, by omega⟩
  obtain ⟨c, hc⟩ := hb
  have hj : (p + (j : Int) - min (p + (j : Int)) (p + (k : Int))).toNat = j - c := by rw [hc]; omega
  have hk : (p + (k : Int) - min (p + (j : Int)) (p + (k : Int))).toNat = k - c := by rw [hc]; omega
  have cj : c ≤ j := by omega
  have ck : c ≤ k := by omega
  rw [hj, hk]
  have ej : m * 2 ^ j = m * 2 ^ (j - c) * 2 ^ c := by rw [Nat.mul_assoc, ← Nat.pow_add, Nat.sub_add_cancel cj]
  have ek : n * 2 ^ k = n * 2 ^ (k - c) * 2 ^ c := by rw [Nat.mul_assoc, ← Nat.pow_add, Nat.sub_add_cancel ck]
  rw [ej, ek, sg_mul s (m * 2 ^ (j - c)), sg_mul t (n * 2 ^ (k - c))]
  have hp : (0 : Int) < ((2 ^ c : Nat) : Int) := by exact_mod_cast Nat.two_pow_pos c
  refine compare_of _ _ _ _ ?_ ?_
  · exact ⟨fun h => Int.mul_lt_mul_of_pos_right h hp, fun h => Int.lt_of_mul_lt_mul_right h (Int.le_of_lt hp)⟩
  · exact ⟨fun h => Int.mul_lt_mul_of_pos_right h hp, fun h => Int.lt_of_mul_lt_mul_right h (Int.le_of_lt hp)⟩

/-- THE ORDER OF WORDS IS THAT OF THEIR SIGNED RUNGS. -/
theorem order_word (f : Format) (hs : f.infRung < f.signWeight) (hb : f.binade ≤ f.infRung) (s t : Bool) (r u : Nat) (hr : r ≤ f.infRung) (hu : u ≤ f.infRung) :
    f.order (f.word s r) (f.word t u) = some (compare (sg s r) (sg t u)) := by
  have hB := binade_pos f
  unfold Format.order
  by_cases r1 : r = f.infRung
  · by_cases u1 : u = f.infRung
    · subst r1 u1
      rw [read_inf f s hs hb, read_inf f t hs hb]
      unfold Datum.order; simp only
      congr 1
      cases s <;> cases t <;> simp only [sg, Bool.toNat_true, Bool.toNat_false, if_true, if_false, Bool.false_eq_true]
      · rw [Int.compare_eq_eq.2 rfl]; rfl
      · rw [Int.compare_eq_gt.2 (by omega)]; rfl
      · rw [Int.compare_eq_lt.2 (by omega)]; rfl
      · rw [Int.compare_eq_eq.2 rfl]; rfl
    · obtain ⟨n, k, e, hv⟩ := read_word f t u (by omega) hs
      subst r1
      rw [read_inf f s hs hb, e]
      unfold Datum.order; simp only
      cases s <;> cases t <;> simp only [sg, if_true, if_false, Bool.false_eq_true] <;>
        first | rw [Int.compare_eq_gt.2 (by omega)] | rw [Int.compare_eq_lt.2 (by omega)]
  · obtain ⟨m, j, e, hv⟩ := read_word f s r (by omega) hs
    by_cases u1 : u = f.infRung
    · subst u1
      rw [read_inf f t hs hb, e]
      unfold Datum.order; simp only
      cases s <;> cases t <;> simp only [sg, if_true, if_false, Bool.false_eq_true] <;>
        first | rw [Int.compare_eq_gt.2 (by omega)] | rw [Int.compare_eq_lt.2 (by omega)]
    · obtain ⟨n, k, e2, hv2⟩ := read_word f t u (by omega) hs
      rw [e, e2, order_num, hv, hv2]
      congr 1
      exact compare_of _ _ _ _ (sg_val_lt f s t r u) (sg_val_lt f t s u r)

/-- to the nearest whole number, between two the even one. -/
def rte (n g : Nat) : Nat := n / g + (decide (g < 2 * (n % g)) || (g == 2 * (n % g) && n / g % 2 == 1)).toNat

theorem cut_even (neg : Bool) (n drop : Nat) : Toward.even.cut neg n drop = rte n (2 ^ drop) := by
  unfold Toward.cut rte
  simp only [Nat.shiftLeft_eq, Nat.one_mul]
  by_cases h : drop ≤ n.log2 + 2
  · rw [Nat.min_eq_left h]
  · rw [Nat.min_eq_right (by omega)]
    have hn : n < 2 ^ (n.log2 + 1) := Nat.lt_log2_self
    have h1 : n < 2 ^ (n.log2 + 2) := by rw [Nat.pow_succ]; omega
    have h2 : 2 ^ (n.log2 + 2) ≤ 2 ^ drop := Nat.pow_le_pow_right (by omega) (by omega)
    have h3 : 2 * n < 2 ^ (n.log2 + 2) := by rw [Nat.pow_succ]; omega
    rw [Nat.div_eq_of_lt h1, Nat.mod_eq_of_lt h1, Nat.div_eq_of_lt (show n < 2 ^ drop by omega), Nat.mod_eq_of_lt (show n < 2 ^ drop by omega)]
    have a1 : decide (2 ^ (n.log2 + 2) < 2 * n) = false := by simp; omega
    have a2 : decide (2 ^ drop < 2 * n) = false := by simp; omega
    simp only [a1, a2, Nat.zero_mod]
    simp

theorem rte_exact (n g : Nat) (hg : 0 < g) : rte (n * g) g = n := by
  unfold rte
  rw [Nat.mul_div_cancel _ hg, Nat.mul_mod_left]
  have : decide (g < 2 * 0) = false := by simp
  have h2 : (g == 2 * 0) = false := by simp; omega
  rw [this, h2]; simp

theorem rte_one (n : Nat) : rte n 1 = n := by
  have := rte_exact n 1 (by omega)
  rwa [Nat.mul_one] at this

theorem nearest_exact (f : Format) (neg : Bool) (mag k r : Nat) (hr : r < f.infRung) (h : mag * 2 ^ k = val f r) :
    f.nearest neg mag (f.leastPlace + k) = f.word neg r := by
  unfold Format.nearest
  by_cases hm : mag = 0
  · rw [if_pos hm]
    have : val f r = val f 0 := by rw [val_zero, ← h, hm, Nat.zero_mul]
    rw [val_inj f this]
  · rw [if_neg hm]
    simp only [cut_even, Nat.shiftLeft_eq]
    have hl := (Nat.log2_eq_iff hm (k := mag.log2)).1 rfl
    generalize mag.log2 = L at *
    have hB : f.binade = 2 ^ f.fractionBits := rfl
    have hb := binade_pos f
    unfold val at h
    by_cases hlt : r < f.binade
    · rw [if_pos hlt] at h
      have h1 : 2 ^ (L + k) < 2 ^ f.fractionBits := by
        rw [Nat.pow_add, ← hB]
        exact Nat.lt_of_le_of_lt (Nat.mul_le_mul_right _ hl.1) (by omega)
      have h2 := (Nat.pow_lt_pow_iff_right (a := 2) (by omega)).1 h1
      have e : max (f.leastPlace + (k : Int) + (L : Int) - (f.fractionBits : Int)) f.leastPlace = f.leastPlace := by omega
      rw [e]
      have e1 : (f.leastPlace + (k : Int) - f.leastPlace).toNat = k := by omega
      have e2 : (f.leastPlace - (f.leastPlace + (k : Int))).toNat = 0 := by omega
      have e3 : (f.leastPlace - f.leastPlace).toNat = 0 := by omega
      rw [e1, e2, e3, h, Nat.pow_zero, rte_one, Nat.zero_mul, Nat.zero_add, Nat.min_eq_left (by omega)]
    · rw [if_neg hlt] at h
      have hq : 1 ≤ r / f.binade := by
        have := Nat.div_le_div_right (c := f.binade) (Nat.le_of_not_lt hlt)
        rw [Nat.div_self hb] at this; exact this
      have hmm := Nat.mod_lt r hb
      have hd := Nat.div_add_mod r f.binade
      generalize r / f.binade = q at *
      generalize r % f.binade = m at *
      obtain ⟨q, rfl⟩ : ∃ j, q = j + 1 := ⟨q - 1, by omega⟩
      rw [Nat.add_sub_cancel] at h
      -- the logarithms
      have lo1 : 2 ^ (L + k) ≤ mag * 2 ^ k := by rw [Nat.pow_add]; exact Nat.mul_le_mul_right _ hl.1
      have hi1 : mag * 2 ^ k < 2 ^ (L + 1 + k) := by rw [Nat.pow_add]; exact Nat.mul_lt_mul_of_pos_right hl.2 (Nat.two_pow_pos _)
      have lo2 : 2 ^ (f.fractionBits + q) ≤ (f.binade + m) * 2 ^ q := by rw [Nat.pow_add]; exact Nat.mul_le_mul_right _ (by omega)
      have hi2 : (f.binade + m) * 2 ^ q < 2 ^ (f.fractionBits + 1 + q) := by
        rw [Nat.pow_add, Nat.pow_succ]; exact Nat.mul_lt_mul_of_pos_right (by omega) (Nat.two_pow_pos _)
      have c1 := (Nat.pow_lt_pow_iff_right (a := 2) (by omega)).1 (show 2 ^ (L + k) < 2 ^ (f.fractionBits + 1 + q) by omega)
      have c2 := (Nat.pow_lt_pow_iff_right (a := 2) (by omega)).1 (show 2 ^ (f.fractionBits + q) < 2 ^ (L + 1 + k) by omega)
      have cL : L + k = f.fractionBits + q := by omega
      have e : max (f.leastPlace + (k : Int) + (L : Int) - (f.fractionBits : Int)) f.leastPlace = f.leastPlace + q := by omega
      rw [e]
      have e3 : (f.leastPlace + (q : Int) - f.leastPlace).toNat = q := by omega
      rw [e3]
      have fin : q * f.binade + (f.binade + m) = r := by
        rw [← hd, Nat.mul_succ, Nat.mul_comm q]; omega
      by_cases hk : q ≤ k
      · have e1 : (f.leastPlace + (k : Int) - (f.leastPlace + (q : Int))).toNat = k - q := by omega
        have e2 : (f.leastPlace + (q : Int) - (f.leastPlace + (k : Int))).toNat = 0 := by omega
        have hh : mag * 2 ^ (k - q) = f.binade + m := by
          have : mag * 2 ^ (k - q) * 2 ^ q = (f.binade + m) * 2 ^ q := by
            rw [Nat.mul_assoc, ← Nat.pow_add, Nat.sub_add_cancel hk]; exact h
          exact Nat.eq_of_mul_eq_mul_right (Nat.two_pow_pos _) this
        rw [e1, e2, hh, Nat.pow_zero, rte_one, fin, Nat.min_eq_left (by omega)]
      · have e1 : (f.leastPlace + (k : Int) - (f.leastPlace + (q : Int))).toNat = 0 := by omega
        have e2 : (f.leastPlace + (q : Int) - (f.leastPlace + (k : Int))).toNat = q - k := by omega
        have hh : mag = (f.binade + m) * 2 ^ (q - k) := by
          have : mag * 2 ^ k = (f.binade + m) * 2 ^ (q - k) * 2 ^ k := by
            rw [Nat.mul_assoc, ← Nat.pow_add, Nat.sub_add_cancel (by omega)]; exact h
          exact Nat.eq_of_mul_eq_mul_right (Nat.two_pow_pos _) this
        rw [e1, e2, Nat.pow_zero, Nat.mul_one, hh, rte_exact _ _ (Nat.two_pow_pos _), fin, Nat.min_eq_left (by omega)]

/-- the sum of two numbers, exact. -/
theorem sum_num (s t : Bool) (m n j k : Nat) (p : Int) :
    ∃ mag c : Nat, Datum.sum (.number s m (p + j)) (.number t n (p + k)) =
      some (.number (if sg s (m * 2 ^ j) + sg t (n * 2 ^ k) = 0 then s && t else decide (sg s (m * 2 ^ j) + sg t (n * 2 ^ k) < 0)) mag (p + c)) ∧
      mag * 2 ^ c = (sg s (m * 2 ^ j) + sg t (n * 2 ^ k)).natAbs := by
  have hb : ∃ c : Nat, min (p + (j : Int)) (p + (k : Int)) = p + c := ⟨min j k, by omega⟩
  obtain ⟨c, hc⟩ := hb
  have hj : (p + (j : Int) - min (p + (j : Int)) (p + (k : Int))).toNat = j - c := by rw [hc]; omega
  have hk : (p + (k : Int) - min (p + (j : Int)) (p + (k : Int))).toNat = k - c := by rw [hc]; omega
  have cj : c ≤ j := by omega
  have ck : c ≤ k := by omega
  have ej : m * 2 ^ j = m * 2 ^ (j - c) * 2 ^ c := by rw [Nat.mul_assoc, ← Nat.pow_add, Nat.sub_add_cancel cj]
  have ek : n * 2 ^ k = n * 2 ^ (k - c) * 2 ^ c := by rw [Nat.mul_assoc, ← Nat.pow_add, Nat.sub_add_cancel ck]
  have hp : (0 : Int) < ((2 ^ c : Nat) : Int) := by exact_mod_cast Nat.two_pow_pos c
  have et : sg s (m * 2 ^ j) + sg t (n * 2 ^ k) = (sg s (m * 2 ^ (j - c)) + sg t (n * 2 ^ (k - c))) * ((2 ^ c : Nat) : Int) := by
    rw [ej, ek, sg_mul s (m * 2 ^ (j - c)), sg_mul t (n * 2 ^ (k - c)), Int.add_mul]
  refine ⟨(sg s (m * 2 ^ (j - c)) + sg t (n * 2 ^ (k - c))).natAbs, c, ?_, ?_⟩
  · rw [hc] at hj hk
    unfold Datum.sum
    simp only [signed_eq, hc, hj, hk]
    rw [et]
    generalize sg s (m * 2 ^ (j - c)) + sg t (n * 2 ^ (k - c)) = T
    generalize ((2 ^ c : Nat) : Int) = Q at *
    congr 2
    by_cases h0 : T = 0
    · rw [if_pos h0, if_pos (by rw [h0, Int.zero_mul])]
    · rw [if_neg h0, if_neg (by intro h; rcases Int.mul_eq_zero.1 h with h | h <;> omega)]
      congr 1
      apply propext
      constructor
      · intro h; exact Int.mul_neg_of_neg_of_pos h hp
      · intro h
        by_cases hT : T < 0
        · exact hT
        · have := Int.mul_nonneg (Int.not_lt.1 hT) (Int.le_of_lt hp); omega
  · rw [et, Int.natAbs_mul, Int.natAbs_natCast]

end Go.Proofs.YtmpakpdikkfofaaGreatDoor.B

/- Plain facts on rounding to a format: the word that is nearest stands beside the number; what is a number of the format is written as that number, whatever its place; halves are exact. -/
namespace Go.Proofs.YtmpakpdikkfofaaGreatDoor.B
set_option linter.unusedVariables false
set_option maxRecDepth 20000
open Ieee

/-- the value of a rung, by its step. -/
theorem val_at (f : Format) (j c : Nat) (h : j = 0 ∨ f.binade ≤ c) (hc : c ≤ 2 * f.binade) : val f (j * f.binade + c) = c * 2 ^ j := by
  have hb := binade_pos f
  unfold val
  generalize f.binade = B at *
  by_cases h1 : c < B
  · have hj : j = 0 := by omega
    subst hj
    rw [Nat.zero_mul, Nat.zero_add, if_pos h1, Nat.pow_zero, Nat.mul_one]
  · have h2 : ¬ j * B + c < B := by
      have := Nat.zero_le (j * B); omega
    rw [if_neg h2]
    by_cases h3 : c = 2 * B
    · subst h3
      have e : j * B + 2 * B = (j + 2) * B := by rw [Nat.add_mul]
      rw [e, Nat.mul_mod_left, Nat.mul_div_cancel _ hb, Nat.add_zero, show j + 2 - 1 = j + 1 from rfl, Nat.pow_succ, Nat.mul_comm 2 B, Nat.mul_assoc, Nat.mul_comm 2]
    · have e : j * B + c = B * (j + 1) + (c - B) := by
        rw [Nat.mul_succ, Nat.mul_comm j]; omega
      have e1 : (j * B + c) % B = c - B := by rw [e, Nat.mul_add_mod, Nat.mod_eq_of_lt (by omega)]
      have e2 : (j * B + c) / B = j + 1 := by rw [e, Nat.mul_add_div hb, Nat.div_eq_of_lt (by omega)]
      rw [e1, e2, Nat.add_sub_cancel, show B + (c - B) = c from by omega]

/-- THE NEAREST WORD STANDS BESIDE THE NUMBER. -/
theorem nearest_near (f : Format) (neg : Bool) (mag k a : Nat) (hm : mag ≠ 0) :
    ∃ R, f.nearest neg mag (f.leastPlace + (k : Int) - (a : Int)) = f.word neg (min R f.infRung) ∧
      (val f R * 2 ^ a ≤ mag * 2 ^ k → mag * 2 ^ k < val f (R + 1) * 2 ^ a) ∧
      (mag * 2 ^ k < val f R * 2 ^ a → 0 < R ∧ val f (R - 1) * 2 ^ a < mag * 2 ^ k) := by
  unfold Format.nearest
  rw [if_neg hm]
  simp only [cut_even, Nat.shiftLeft_eq]
  have hl := (Nat.log2_eq_iff hm (k := mag.log2)).1 rfl
  generalize mag.log2 = L at *
  have hB : f.binade = 2 ^ f.fractionBits := rfl
  have hb := binade_pos f
  obtain ⟨j, hj⟩ : ∃ j : Nat, max (f.leastPlace + (k : Int) - (a : Int) + (L : Int) - (f.fractionBits : Int)) f.leastPlace = f.leastPlace + j :=
    ⟨(max (f.leastPlace + (k : Int) - (a : Int) + (L : Int) - (f.fractionBits : Int)) f.leastPlace - f.leastPlace).toNat, by omega⟩
  have hj1 : k + L ≤ a + f.fractionBits + j := by omega
  have hj2 : j = 0 ∨ k + L = a + f.fractionBits + j := by omega
  rw [hj]
  have e3 : (f.leastPlace + (j : Int) - f.leastPlace).toNat = j := by omega
  have e1 : (f.leastPlace + (k : Int) - (a : Int) - (f.leastPlace + (j : Int))).toNat = k - (a + j) := by omega
  have e2 : (f.leastPlace + (j : Int) - (f.leastPlace + (k : Int) - (a : Int))).toNat = a + j - k := by omega
  rw [e1, e2, e3]
  have hg : 0 < 2 ^ (a + j - k) := Nat.two_pow_pos _
  -- V * g = m' * 2^(a+j)
  have hV : mag * 2 ^ k * 2 ^ (a + j - k) = mag * 2 ^ (k - (a + j)) * 2 ^ (a + j) := by
    rw [Nat.mul_assoc, Nat.mul_assoc, ← Nat.pow_add, ← Nat.pow_add]
    congr 2; omega
  have up : mag * 2 ^ (k - (a + j)) < 2 * f.binade * 2 ^ (a + j - k) := by
    have : 2 * f.binade = 2 ^ (f.fractionBits + 1) := by rw [hB, Nat.pow_succ, Nat.mul_comm]
    rw [this, ← Nat.pow_add]
    refine Nat.lt_of_lt_of_le (Nat.mul_lt_mul_of_pos_right hl.2 (Nat.two_pow_pos _)) ?_
    rw [← Nat.pow_add]
    exact Nat.pow_le_pow_right (by omega) (by omega)
  have dn : j = 0 ∨ f.binade * 2 ^ (a + j - k) ≤ mag * 2 ^ (k - (a + j)) := by
    rcases hj2 with h | h
    · exact Or.inl h
    · right
      refine Nat.le_trans ?_ (Nat.mul_le_mul_right _ hl.1)
      rw [hB, ← Nat.pow_add, ← Nat.pow_add]
      exact Nat.pow_le_pow_right (by omega) (by omega)
  generalize hm' : mag * 2 ^ (k - (a + j)) = m' at *
  generalize 2 ^ (a + j - k) = g at *
  generalize mag * 2 ^ k = V at *
  have hdm := Nat.div_add_mod m' g
  have hmod := Nat.mod_lt m' hg
  have hlow : m' / g < 2 * f.binade := (Nat.div_lt_iff_lt_mul hg).2 up
  have hlow2 : j = 0 ∨ f.binade ≤ m' / g := by
    rcases dn with h | h
    · exact Or.inl h
    · exact Or.inr ((Nat.le_div_iff_mul_le hg).2 h)
  have hp2 : 0 < 2 ^ (a + j) := Nat.two_pow_pos _
  -- the bounds
  have b1 : m' / g * 2 ^ (a + j) ≤ V := by
    refine Nat.le_of_mul_le_mul_right ?_ hg
    rw [hV, Nat.mul_right_comm]
    exact Nat.mul_le_mul_right _ (by rw [Nat.mul_comm]; omega)
  have b2 : V < (m' / g + 1) * 2 ^ (a + j) := by
    refine Nat.lt_of_mul_lt_mul_right (a := g) ?_
    rw [hV, Nat.mul_right_comm]
    refine Nat.mul_lt_mul_of_pos_right ?_ hp2
    rw [Nat.add_mul, Nat.one_mul, Nat.mul_comm]; omega
  have b3 : m' % g ≠ 0 → m' / g * 2 ^ (a + j) < V := by
    intro hr
    refine Nat.lt_of_mul_lt_mul_right (a := g) ?_
    rw [hV, Nat.mul_right_comm]
    refine Nat.mul_lt_mul_of_pos_right ?_ hp2
    rw [Nat.mul_comm]; omega
  have v0 : val f (j * f.binade + m' / g) * 2 ^ a = m' / g * 2 ^ (a + j) := by
    rw [val_at f j _ hlow2 (by omega), Nat.mul_assoc, ← Nat.pow_add, Nat.add_comm j a]
  have v1 : val f (j * f.binade + (m' / g + 1)) * 2 ^ a = (m' / g + 1) * 2 ^ (a + j) := by
    rw [val_at f j _ (by omega) (by omega), Nat.mul_assoc, ← Nat.pow_add, Nat.add_comm j a]
  refine ⟨j * f.binade + rte m' g, rfl, ?_, ?_⟩
  · unfold rte
    cases hc : (decide (g < 2 * (m' % g)) || (g == 2 * (m' % g) && m' / g % 2 == 1))
    · intro _
      simp only [Bool.toNat_false, Nat.add_zero]
      rw [Nat.add_assoc, v1]; exact b2
    · intro h
      simp only [Bool.toNat_true] at h
      rw [v1] at h
      omega
  · unfold rte
    cases hc : (decide (g < 2 * (m' % g)) || (g == 2 * (m' % g) && m' / g % 2 == 1))
    · intro h
      simp only [Bool.toNat_false, Nat.add_zero] at h
      rw [v0] at h
      omega
    · intro _
      simp only [Bool.toNat_true]
      refine ⟨Nat.succ_pos _, ?_⟩
      rw [show j * f.binade + (m' / g + 1) - 1 = j * f.binade + m' / g from rfl, v0]
      refine b3 (fun hr => ?_)
      rw [hr] at hc
      simp at hc
      omega

/-- what is a number of the format is written as that number, whatever its place. -/
theorem nearest_exact2 (f : Format) (neg : Bool) (mag k a r : Nat) (hr : r < f.infRung) (h : mag * 2 ^ k = val f r * 2 ^ a) (hm : mag ≠ 0) :
    f.nearest neg mag (f.leastPlace + (k : Int) - (a : Int)) = f.word neg r := by
  obtain ⟨R, e, h1, h2⟩ := nearest_near f neg mag k a hm
  have hp : 0 < 2 ^ a := Nat.two_pow_pos _
  have : R = r := by
    by_cases c : val f R * 2 ^ a ≤ mag * 2 ^ k
    · have c2 := h1 c
      rw [h] at c c2
      have d1 := Nat.le_of_mul_le_mul_right c hp
      have d2 := (val_lt_iff f).1 (Nat.lt_of_mul_lt_mul_right c2)
      have d3 : ¬ r < R := fun hh => by have := val_lt f hh; omega
      omega
    · have c2 := h2 (by omega)
      rw [h] at c c2
      have d1 := (val_lt_iff f).1 (Nat.lt_of_mul_lt_mul_right (a := 2 ^ a) (Nat.lt_of_not_le c))
      have d2 := (val_lt_iff f).1 (Nat.lt_of_mul_lt_mul_right c2.2)
      omega
  rw [e, this, Nat.min_eq_left (by omega)]
end Go.Proofs.YtmpakpdikkfofaaGreatDoor.B

/- Plain mathematics of numbers of 53 bits: what a sum loses is a number, and the six steps find it (P5.6: Sum, Quick); halves (P5.6: Halves); the halves' products (P5.6: Product). -/
namespace Go.Proofs.YtmpakpdikkfofaaGreatDoor.J
set_option linter.unusedVariables false
set_option maxRecDepth 20000

/-- A number that has at most 53 bits (in units of the least one; no greatest). -/
def IsF (x : Int) : Prop := ∃ (m : Int) (k : Nat), x = m * 2 ^ k ∧ -9007199254740992 ≤ m ∧ m ≤ 9007199254740992

/-- What a value is rounded to: none is nearer. -/
structure IsRn (V s : Int) : Prop where
  f : IsF s
  near : ∀ f, IsF f → (s - V).natAbs ≤ (f - V).natAbs

theorem p2pos (k : Nat) : (0 : Int) < 2 ^ k := Int.pow_pos (by decide)

theorem pdvd {i j : Nat} (h : i ≤ j) : (2 : Int) ^ i ∣ 2 ^ j := ⟨2 ^ (j - i), by rw [← Int.pow_add]; congr 1; omega⟩

theorem IsF.neg {x : Int} (h : IsF x) : IsF (-x) := by
  obtain ⟨m, k, h1, h2, h3⟩ := h
  exact ⟨-m, k, by rw [h1, Int.neg_mul], by omega, by omega⟩
theorem IsF.zero : IsF 0 := ⟨0, 0, by simp, by omega, by omega⟩
theorem IsF.pow (k : Nat) : IsF (2 ^ k) := ⟨1, k, by rw [Int.one_mul], by omega, by omega⟩

/-- The grid: a multiple that is not too great is a number. -/
theorem grid {x : Int} {k : Nat} (h : (2 : Int) ^ k ∣ x) (hx : x.natAbs ≤ 2 ^ (53 + k)) : IsF x := by
  obtain ⟨m, hm⟩ := h
  have hp := p2pos k
  have h2 : m.natAbs ≤ 2 ^ 53 := by
    rw [hm, Int.natAbs_mul, Nat.pow_add, Nat.mul_comm] at hx
    have : ((2 : Int) ^ k).natAbs = 2 ^ k := by rw [Int.natAbs_pow]; rfl
    rw [this] at hx
    exact Nat.le_of_mul_le_mul_right hx (Nat.two_pow_pos _)
  refine ⟨m, k, by rw [hm, Int.mul_comm], ?_, ?_⟩ <;> have : (2:Nat)^53 = 9007199254740992 := by decide
  all_goals omega

/-- A number that is great lies on a grid. -/
theorem IsF.dvd {x : Int} (h : IsF x) {k : Nat} (hx : 2 ^ (53 + k) ≤ x.natAbs) : (2 : Int) ^ k ∣ x := by
  obtain ⟨m, j, h1, h2, h3⟩ := h
  by_cases hj : k ≤ j
  · exact ⟨m * 2 ^ (j - k), by rw [h1, show (2 : Int) ^ j = 2 ^ k * 2 ^ (j - k) from by rw [← Int.pow_add]; congr 1; omega, Int.mul_left_comm]⟩
  · exfalso
    have e1 : x.natAbs = m.natAbs * 2 ^ j := by
      rw [h1, Int.natAbs_mul, Int.natAbs_pow]; rfl
    have e2 : m.natAbs ≤ 2 ^ 53 := by have : (2:Nat)^53 = 9007199254740992 := by decide
                                      omega
    rw [e1] at hx
    have := Nat.le_trans hx (Nat.mul_le_mul_right (2 ^ j) e2)
    rw [← Nat.pow_add] at this
    have := (Nat.pow_le_pow_iff_right (by decide : 1 < 2)).1 this
    omega
/-- ... and one that is great, or just below, too. -/
theorem IsF.dvd' {x : Int} (h : IsF x) {k : Nat} (hx : 2 ^ (52 + k) ≤ x.natAbs) : (2 : Int) ^ k ∣ x := by
  obtain ⟨m, j, h1, h2, h3⟩ := h
  by_cases hj : k ≤ j
  · exact ⟨m * 2 ^ (j - k), by rw [h1, show (2 : Int) ^ j = 2 ^ k * 2 ^ (j - k) from by rw [← Int.pow_add]; congr 1; omega, Int.mul_left_comm]⟩
  · have e1 : x.natAbs = m.natAbs * 2 ^ j := by
      rw [h1, Int.natAbs_mul, Int.natAbs_pow]; rfl
    have e2 : m.natAbs ≤ 2 ^ 53 := by have : (2:Nat)^53 = 9007199254740992 := by decide
                                      omega
    rw [e1] at hx
    have h5 := Nat.le_trans hx (Nat.mul_le_mul_right (2 ^ j) e2)
    rw [← Nat.pow_add] at h5
    have h6 := (Nat.pow_le_pow_iff_right (by decide : 1 < 2)).1 h5
    have h7 : k = j + 1 := by omega
    subst h7
    -- m is then just 2^53
    have h8 : 2 ^ 53 * 2 ^ j ≤ m.natAbs * 2 ^ j := by rw [← Nat.pow_add]; rw [show 53 + j = 52 + (j + 1) from by omega]; exact hx
    have h9 := Nat.le_of_mul_le_mul_right h8 (Nat.two_pow_pos _)
    have h10 : (2:Nat)^53 = 9007199254740992 := by decide
    have h11 : m = 9007199254740992 ∨ m = -9007199254740992 := by omega
    rcases h11 with h11 | h11
    · exact ⟨4503599627370496, by rw [h1, h11, Int.pow_succ]; omega⟩
    · exact ⟨-4503599627370496, by rw [h1, h11, Int.pow_succ]; omega⟩

theorem IsRn.own {V s : Int} (h : IsRn V s) (hV : IsF V) : s = V := by
  have := h.near V hV
  omega
theorem IsRn.ge {V s f : Int} (h : IsRn V s) (hf : IsF f) (hV : f ≤ V) : f ≤ s := by
  have := h.near f hf
  omega
theorem IsRn.le {V s f : Int} (h : IsRn V s) (hf : IsF f) (hV : V ≤ f) : s ≤ f := by
  have := h.near f hf
  omega
theorem IsRn.neg {V s : Int} (h : IsRn V s) : IsRn (-V) (-s) := ⟨h.f.neg, fun f hf => by have := h.near (-f) hf.neg; omega⟩
theorem natAbs_p2 (k : Nat) : ((2 : Int) ^ k).natAbs = 2 ^ k := by rw [Int.natAbs_pow]; rfl
theorem p2c (k : Nat) : ((2 ^ k : Nat) : Int) = 2 ^ k := by rw [Int.natCast_pow]; rfl
theorem IsRn.abs_ge {V s : Int} (h : IsRn V s) {k : Nat} (hV : 2 ^ k ≤ V.natAbs) : 2 ^ k ≤ s.natAbs := by
  have e := p2c k
  have hf := IsF.pow k
  rcases Int.le_total 0 V with h0 | h0
  · have := h.ge hf (by omega); omega
  · have := h.le hf.neg (by omega); omega
theorem IsRn.abs_le {V s : Int} (h : IsRn V s) {k : Nat} (hV : V.natAbs ≤ 2 ^ k) : s.natAbs ≤ 2 ^ k := by
  have e := p2c k
  have hf := IsF.pow k
  have := h.le hf (by omega)
  have := h.ge hf.neg (by omega)
  omega
/-- What is on a grid is rounded to what is on it. -/
theorem IsRn.dvd {V s : Int} (h : IsRn V s) {k : Nat} (hV : (2 : Int) ^ k ∣ V) : (2 : Int) ^ k ∣ s := by
  by_cases hc : V.natAbs ≤ 2 ^ (53 + k)
  · rw [h.own (grid hV hc)]; exact hV
  · exact h.f.dvd (h.abs_ge (by omega))
/-- The great ones' grid. -/
theorem IsRn.dvd' {V s : Int} (h : IsRn V s) {k : Nat} (hV : 2 ^ (52 + k) ≤ V.natAbs) : (2 : Int) ^ k ∣ s := h.f.dvd' (h.abs_ge hV)

/-- Half a step at most. -/
theorem IsRn.err {V s : Int} (h : IsRn V s) {k : Nat} (hV : V.natAbs ≤ 2 ^ (53 + (k + 1))) : (s - V).natAbs ≤ 2 ^ k := by
  have hp := p2pos (k + 1)
  have e : (2 : Int) ^ (k + 1) = 2 * 2 ^ k := by rw [Int.pow_succ, Int.mul_comm]
  have ek := p2c k
  have hb := p2c (53 + (k + 1))
  -- the multiples on either side
  have hd : (2 : Int) ^ (k + 1) ∣ (2 : Int) ^ (53 + (k + 1)) := pdvd (by omega)
  have hlo : (2 : Int) ^ (k + 1) ∣ V - V % 2 ^ (k + 1) := Int.dvd_self_sub_emod
  have hhi : (2 : Int) ^ (k + 1) ∣ V - V % 2 ^ (k + 1) + 2 ^ (k + 1) := Int.dvd_add hlo (Int.dvd_refl _)
  have r0 := Int.emod_nonneg V (Int.ne_of_gt hp)
  have r1 := Int.emod_lt_of_pos V hp
  generalize hr : V % 2 ^ (k + 1) = r at *
  by_cases hc : (V - r).natAbs ≤ 2 ^ (53 + (k + 1)) ∧ (V - r + 2 ^ (k + 1)).natAbs ≤ 2 ^ (53 + (k + 1))
  · have n1 := h.near _ (grid hlo hc.1)
    have n2 := h.near _ (grid hhi hc.2)
    omega
  · -- V is then one of the ends
    have hV' : -(2 : Int) ^ (53 + (k + 1)) ≤ V ∧ V ≤ 2 ^ (53 + (k + 1)) := by omega
    have hgr : r = 0 := by
      obtain ⟨q, hq⟩ := hlo
      have hT : (2 : Int) ^ (53 + (k + 1)) = 2 ^ (k + 1) * 9007199254740992 := by rw [Nat.add_comm, Int.pow_add]; rfl
      have q1 : -9007199254740992 ≤ q := by
        apply Int.le_of_not_gt; intro hq1
        have := Int.mul_le_mul_of_nonneg_left (show q ≤ -9007199254740993 from by omega) (Int.le_of_lt hp)
        omega
      have q2 : q ≤ 9007199254740992 := by
        apply Int.le_of_not_gt; intro hq1
        have := Int.mul_le_mul_of_nonneg_left (show 9007199254740993 ≤ q from by omega) (Int.le_of_lt hp)
        omega
      have q3 : q = 9007199254740992 := by
        rcases Int.lt_or_le q 9007199254740992 with hq1 | hq1
        · exfalso
          apply hc
          have a1 := Int.mul_le_mul_of_nonneg_left q1 (Int.le_of_lt hp)
          have a2 := Int.mul_le_mul_of_nonneg_left (show q + 1 ≤ 9007199254740992 from by omega) (Int.le_of_lt hp)
          rw [Int.mul_add, Int.mul_one] at a2
          constructor <;> omega
        · omega
      rw [q3] at hq
      omega
    have : (V - r).natAbs ≤ 2 ^ (53 + (k + 1)) := by omega
    have n1 := h.near _ (grid hlo this)
    omega
/-- Few bits: nothing is lost. -/
theorem IsRn.err0 {V s : Int} (h : IsRn V s) (hV : V.natAbs ≤ 2 ^ 53) : s = V := h.own (grid (k := 0) ⟨V, by simp⟩ (by simpa using hV))

/-- Every number but 0 with its place. -/
theorem place (x : Int) : ∃ k : Nat, x.natAbs < 2 ^ (53 + k) ∧ (k = 0 ∨ 2 ^ (52 + k) ≤ x.natAbs) := by
  by_cases h : x.natAbs < 2 ^ 53
  · exact ⟨0, h, .inl rfl⟩
  · have hx : x.natAbs ≠ 0 := by have : 0 < 2 ^ 53 := Nat.two_pow_pos _
                                 omega
    have hl := (Nat.log2_eq_iff hx (k := x.natAbs.log2)).1 rfl
    have : 53 ≤ x.natAbs.log2 := (Nat.le_log2 hx).2 (by omega)
    refine ⟨x.natAbs.log2 - 52, ?_, .inr ?_⟩
    · rw [show 53 + (x.natAbs.log2 - 52) = x.natAbs.log2 + 1 from by omega]; exact hl.2
    · rw [show 52 + (x.natAbs.log2 - 52) = x.natAbs.log2 from by omega]; exact hl.1
theorem IsF.placed {x : Int} (h : IsF x) : ∃ k : Nat, x.natAbs < 2 ^ (53 + k) ∧ (k = 0 ∨ 2 ^ (52 + k) ≤ x.natAbs) ∧ (2 : Int) ^ k ∣ x := by
  obtain ⟨k, h1, h2⟩ := place x
  refine ⟨k, h1, h2, ?_⟩
  rcases h2 with rfl | h2
  · exact ⟨x, by simp⟩
  · exact h.dvd' h2

/-- What a sum loses is a number. -/
theorem lostF {a b s : Int} (ha : IsF a) (hb : IsF b) (h : IsRn (a + b) s) : IsF (a + b - s) := by
  obtain ⟨ka, a1, a2, a3⟩ := ha.placed
  obtain ⟨kb, b1, b2, b3⟩ := hb.placed
  have na := h.near a ha
  have nb := h.near b hb
  rcases Nat.le_total ka kb with hk | hk
  · have b4 : (2 : Int) ^ ka ∣ b := Int.dvd_trans (pdvd hk) b3
    have hs := h.dvd (Int.dvd_add a3 b4)
    exact grid (Int.dvd_sub (Int.dvd_add a3 b4) hs) (by omega)
  · have a4 : (2 : Int) ^ kb ∣ a := Int.dvd_trans (pdvd hk) a3
    have hs := h.dvd (Int.dvd_add a4 b3)
    exact grid (Int.dvd_sub (Int.dvd_add a4 b3) hs) (by omega)

/-- Of two, the greater first: what is left of the lesser is a number. -/
theorem backF {a b s : Int} (ha : IsF a) (hb : IsF b) (h : IsRn (a + b) s) (hab : b.natAbs ≤ a.natAbs) : IsF (s - a) := by
  obtain ⟨j, a1, a2, a3⟩ := ha.placed
  obtain ⟨k, b1, b2, b3⟩ := hb.placed
  have na := h.near a ha
  have hkj : k ≤ j := by
    rcases b2 with rfl | b2
    · omega
    · have : 2 ^ (52 + k) < 2 ^ (53 + j) := by omega
      have := (Nat.pow_lt_pow_iff_right (by decide : 1 < 2)).1 this
      omega
  have a4 : (2 : Int) ^ k ∣ a := Int.dvd_trans (pdvd hkj) a3
  have hV := Int.dvd_add a4 b3
  obtain ⟨m, v1, v2⟩ := place (a + b)
  by_cases hmk : m ≤ k
  · have : IsF (a + b) := grid hV (Nat.le_trans (Nat.le_of_lt v1) (Nat.pow_le_pow_right (by decide) (by omega)))
    rw [h.own this, show a + b - a = b from by omega]; exact hb
  · obtain ⟨m', rfl⟩ : ∃ m', m = m' + 1 := ⟨m - 1, by omega⟩
    have v2 : 2 ^ (52 + (m' + 1)) ≤ (a + b).natAbs := by rcases v2 with v2 | v2 <;> omega
    have he := h.err (k := m') (Nat.le_of_lt v1)
    have hs := h.dvd' v2
    have hm : m' ≤ j := by
      have : 2 ^ (52 + (m' + 1)) < 2 ^ (54 + j) := by
        rw [show 54 + j = 53 + j + 1 from by omega, Nat.pow_succ]; omega
      have := (Nat.pow_lt_pow_iff_right (by decide : 1 < 2)).1 this
      omega
    by_cases hmj : m' + 1 ≤ j
    · have a5 : (2 : Int) ^ (m' + 1) ∣ a := Int.dvd_trans (pdvd hmj) a3
      refine grid (Int.dvd_sub hs a5) ?_
      have e1 : 2 ^ (53 + k) ≤ 2 ^ (53 + m') := Nat.pow_le_pow_right (by decide) (by omega)
      have e2 : 2 ^ m' ≤ 2 ^ (53 + m') := Nat.pow_le_pow_right (by decide) (by omega)
      have e3 : 2 ^ (53 + (m' + 1)) = 2 * 2 ^ (53 + m') := by rw [show 53 + (m' + 1) = 53 + m' + 1 from rfl, Nat.pow_succ, Nat.mul_comm]
      omega
    · have hmj' : m' = j := by omega
      subst hmj'
      have s5 : (2 : Int) ^ m' ∣ s := Int.dvd_trans (pdvd (by omega)) hs
      refine grid (Int.dvd_sub s5 a3) ?_
      rcases Nat.lt_or_ge k m' with hk | hk
      · have e1 : 2 ^ (53 + k) * 2 ≤ 2 ^ (53 + m') := by rw [← Nat.pow_succ]; exact Nat.pow_le_pow_right (by decide) (by omega)
        have e2 : 2 ^ m' * 2 ≤ 2 ^ (53 + m') := by rw [← Nat.pow_succ]; exact Nat.pow_le_pow_right (by decide) (by omega)
        omega
      · have : k = m' := by omega
        subst this
        -- |b| is a step less than its bound
        have hb' : b.natAbs + 2 ^ k ≤ 2 ^ (53 + k) := by
          obtain ⟨q, hq⟩ := b3
          rw [hq, Int.natAbs_mul, natAbs_p2, Nat.pow_add, Nat.mul_comm (2 ^ 53)] at b1 ⊢
          have := Nat.lt_of_mul_lt_mul_left b1
          calc 2 ^ k * q.natAbs + 2 ^ k = 2 ^ k * (q.natAbs + 1) := by rw [Nat.mul_succ]
            _ ≤ 2 ^ k * 2 ^ 53 := Nat.mul_le_mul_left _ (by omega)
        omega

/-- Near ones: what lies between is a number. -/
theorem nearF {x y : Int} (hx : IsF x) (hy : IsF y) (h1 : (x - y).natAbs ≤ x.natAbs) (h2 : (x - y).natAbs ≤ y.natAbs) : IsF (x - y) := by
  obtain ⟨j, a1, a2, a3⟩ := hx.placed
  obtain ⟨k, b1, b2, b3⟩ := hy.placed
  rcases Nat.le_total j k with hk | hk
  · exact grid (Int.dvd_sub a3 (Int.dvd_trans (pdvd hk) b3)) (by omega)
  · exact grid (Int.dvd_sub (Int.dvd_trans (pdvd hk) a3) b3) (by omega)

/-- The error is small. -/
theorem IsRn.rel {V s : Int} (h : IsRn V s) : 4503599627370496 * 2 * (s - V).natAbs ≤ V.natAbs := by
  obtain ⟨m, v1, v2⟩ := place V
  cases m with
  | zero => rw [h.err0 (Nat.le_of_lt v1)]; simp
  | succ m =>
    have v2 : 2 ^ (52 + (m + 1)) ≤ V.natAbs := by rcases v2 with v2 | v2 <;> omega
    have he := h.err (k := m) (Nat.le_of_lt v1)
    have : 2 ^ (52 + (m + 1)) = 9007199254740992 * 2 ^ m := by rw [show 52 + (m + 1) = 53 + m from by omega, Nat.pow_add]
    omega

/-- P5.6: Sum. -/
theorem sum_just {a b s t u v w l : Int} (ha : IsF a) (hb : IsF b) (h1 : IsRn (a + b) s) (h2 : IsRn (s - a) t) (h3 : IsRn (s - t) u) (h4 : IsRn (a - u) v) (h5 : IsRn (b - t) w) (h6 : IsRn (v + w) l) : s + l = a + b := by
  have hl := lostF ha hb h1
  have exact1 : IsF (s - a) → s + l = a + b := by
    intro hF
    have e1 := h2.own hF; subst e1
    have e2 := h3.own (by rw [show s - (s - a) = a from by omega]; exact ha); subst e2
    have e3 := h4.own (by rw [show a - (s - (s - a)) = 0 from by omega]; exact IsF.zero)
    have e4 := h5.own (by rwa [show b - (s - a) = a + b - s from by omega])
    have e5 := h6.own (by rw [e3, e4, show a - (s - (s - a)) + (b - (s - a)) = a + b - s from by omega]; exact hl)
    omega
  rcases Nat.le_total b.natAbs a.natAbs with hab | hab
  · exact exact1 (backF ha hb h1 hab)
  · by_cases hsa : a.natAbs ≤ s.natAbs
    · have h2' : IsRn (s + -a) t := by rw [show s + -a = s - a from by omega]; exact h2
      have f1 := backF h1.f ha.neg h2' (by omega)
      have e1 := h3.own (by have := f1.neg; rwa [show -(t - s) = s - t from by omega] at this)
      subst e1
      have f2 := lostF h1.f ha.neg h2'
      have e2 := h4.own (by have := f2.neg; rwa [show -(s + -a - t) = a - (s - t) from by omega] at this)
      have r1 := h1.rel
      have r2 := h2.rel
      have f3 : IsF (b - t) := nearF hb h2.f (by omega) (by omega)
      have e3 := h5.own f3
      have e4 := h6.own (by rw [e2, e3, show a - (s - t) + (b - t) = a + b - s from by omega]; exact hl)
      omega
    · refine exact1 ?_
      have h0 : (a + b).natAbs < a.natAbs := by
        apply Nat.lt_of_not_le; intro hh
        apply hsa
        rcases Int.le_total 0 (a + b) with h0 | h0
        · rcases Int.le_total 0 a with h0' | h0'
          · have := h1.ge ha (by omega); omega
          · have := h1.ge ha.neg (by omega); omega
        · rcases Int.le_total 0 a with h0' | h0'
          · have := h1.le ha.neg (by omega); omega
          · have := h1.le ha (by omega); omega
      have := nearF hb ha.neg (by omega) (by omega)
      rw [h1.own (by rwa [show b - -a = a + b from by omega] at this), show a + b - a = b from by omega]
      exact hb
/-- What halves are: g, k: their places. -/
structure Hv (a hi lo : Int) (g k : Nat) : Prop where
  sum : hi + lo = a
  hd : (2 : Int) ^ (g + k) ∣ hi
  hb : hi.natAbs ≤ 2 ^ (26 + (g + k))
  ld : (2 : Int) ^ k ∣ lo
  lb : 2 * lo.natAbs ≤ 2 ^ (g + k)
  g27 : g ≤ 27
  low : 2 ^ (25 + (g + k)) ≤ a.natAbs ∨ g = 0 ∧ k = 0
  high : a.natAbs < 2 ^ (26 + (g + k))

theorem Hv.neg {a hi lo : Int} {g k : Nat} (h : Hv (-a) (-hi) (-lo) g k) : Hv a hi lo g k :=
  ⟨by have := h.sum; omega, (Int.dvd_neg).1 h.hd, by have := h.hb; omega, (Int.dvd_neg).1 h.ld, by have := h.lb; omega, h.g27, by have := h.low; rwa [Int.natAbs_neg] at this, by have := h.high; rwa [Int.natAbs_neg] at this⟩

theorem pw {a b c : Nat} (h : a = b + c) : 2 ^ a = 2 ^ b * 2 ^ c := by rw [h, Nat.pow_add]

end Go.Proofs.YtmpakpdikkfofaaGreatDoor.J

/- The word that is nearest, by the middles on either side; just one word is. -/
namespace Go.Proofs.YtmpakpdikkfofaaGreatDoor.J
set_option linter.unusedVariables false
set_option maxRecDepth 20000
open Ieee B

/-- A rung that is nearest to V (in units of S), between two the even one; no greatest. -/
structure NEf (f : Format) (R V S : Nat) : Prop where
  up : 2 * V ≤ (val f R + val f (R + 1)) * S
  upe : 2 * V = (val f R + val f (R + 1)) * S → R % 2 = 0
  dn : 0 < R → (val f (R - 1) + val f R) * S ≤ 2 * V
  dne : 0 < R → (val f (R - 1) + val f R) * S = 2 * V → R % 2 = 0
abbrev NE (R V S : Nat) : Prop := NEf double R V S

theorem dB : double.binade = 4503599627370496 := by decide
theorem vmono {R Q : Nat} (h : R ≤ Q) : val double R ≤ val double Q := by
  rcases Nat.lt_or_eq_of_le h with h | h
  · exact Nat.le_of_lt (val_lt _ h)
  · rw [h]; exact Nat.le_refl _

theorem NEf.lt_no {R Q V S : Nat} (h : NE R V S) (k : NE Q V S) (hS : 0 < S) (hl : R < Q) : False := by
  have h1 := h.up
  have h2 := k.dn (by omega)
  have m1 : val double R ≤ val double (Q - 1) := vmono (by omega)
  have m2 : val double (R + 1) ≤ val double Q := vmono (by omega)
  have m3 := Nat.mul_le_mul_right S (Nat.add_le_add m1 m2)
  have e1 := h.upe (by omega)
  have e2 := k.dne (by omega) (by omega)
  have e3 : (val double R + val double (R + 1)) * S = (val double (Q - 1) + val double Q) * S := by omega
  have e4 := Nat.eq_of_mul_eq_mul_right hS e3
  have : R + 1 = Q := by
    apply Nat.le_antisymm (by omega)
    apply Nat.le_of_not_lt; intro hh
    have := val_lt double (show R < Q - 1 by omega)
    omega
  omega
theorem NEf.one {R Q V S : Nat} (h : NE R V S) (k : NE Q V S) (hS : 0 < S) : R = Q := by
  rcases Nat.lt_trichotomy R Q with c | c | c
  · exact (h.lt_no k hS c).elim
  · exact c
  · exact (k.lt_no h hS c).elim
theorem NEf.own {K V S : Nat} (hS : 0 < S) (h : V = val double K * S) : NE K V S := by
  have h1 := Nat.mul_lt_mul_of_pos_right (val_lt_succ double K) hS
  refine ⟨?_, ?_, ?_, ?_⟩
  · rw [Nat.add_mul]; omega
  · rw [Nat.add_mul]; omega
  · intro h0
    have h2 := Nat.mul_lt_mul_of_pos_right (val_lt double (show K - 1 < K by omega)) hS
    rw [Nat.add_mul]; omega
  · intro h0
    have h2 := Nat.mul_lt_mul_of_pos_right (val_lt double (show K - 1 < K by omega)) hS
    rw [Nat.add_mul]; omega
theorem NEf.scale {R V S : Nat} (h : NE R V S) (k : Nat) (hk : 0 < k) : NE R (V * k) (S * k) := by
  have e : ∀ a, 2 * (V * k) = a * (S * k) ↔ 2 * V = a * S := by
    intro a
    rw [← Nat.mul_assoc, ← Nat.mul_assoc a]
    exact ⟨fun h => Nat.eq_of_mul_eq_mul_right hk h, fun h => by rw [h]⟩
  have l : ∀ a b : Nat, a ≤ b → a * k ≤ b * k := fun a b h => Nat.mul_le_mul_right _ h
  refine ⟨?_, ?_, ?_, ?_⟩
  · have := l _ _ h.up; rwa [Nat.mul_assoc, Nat.mul_assoc] at this
  · intro h1; exact h.upe ((e _).1 h1)
  · intro h0; have := l _ _ (h.dn h0); rwa [Nat.mul_assoc, Nat.mul_assoc] at this
  · intro h0 h1; exact h.dne h0 ((e _).1 h1.symm).symm
/-- THE MODEL'S ROUNDING IS THE NEAREST, BETWEEN TWO THE EVEN ONE. -/
theorem nearest_nef (f : Format) (hB2 : f.binade % 2 = 0) (neg : Bool) (mag k a : Nat) (hm : mag ≠ 0) :
    ∃ R, f.nearest neg mag (f.leastPlace + (k : Int) - (a : Int)) = f.word neg (min R f.infRung) ∧ NEf f R (mag * 2 ^ k) (2 ^ a) := by
  unfold Format.nearest
  rw [if_neg hm]
  simp only [cut_even, Nat.shiftLeft_eq]
  have hl := (Nat.log2_eq_iff hm (k := mag.log2)).1 rfl
  generalize mag.log2 = L at *
  have hB : f.binade = 2 ^ f.fractionBits := rfl
  have hb := binade_pos f
  obtain ⟨j, hj⟩ : ∃ j : Nat, max (f.leastPlace + (k : Int) - (a : Int) + (L : Int) - (f.fractionBits : Int)) f.leastPlace = f.leastPlace + j :=
    ⟨(max (f.leastPlace + (k : Int) - (a : Int) + (L : Int) - (f.fractionBits : Int)) f.leastPlace - f.leastPlace).toNat, by omega⟩
  have hj1 : k + L ≤ a + f.fractionBits + j := by omega
  have hj2 : j = 0 ∨ k + L = a + f.fractionBits + j := by omega
  rw [hj]
  have e3 : (f.leastPlace + (j : Int) - f.leastPlace).toNat = j := by omega
  have e1 : (f.leastPlace + (k : Int) - (a : Int) - (f.leastPlace + (j : Int))).toNat = k - (a + j) := by omega
  have e2 : (f.leastPlace + (j : Int) - (f.leastPlace + (k : Int) - (a : Int))).toNat = a + j - k := by omega
  rw [e1, e2, e3]
  have hg : 0 < 2 ^ (a + j - k) := Nat.two_pow_pos _
  have hV : mag * 2 ^ k * 2 ^ (a + j - k) = mag * 2 ^ (k - (a + j)) * 2 ^ (a + j) := by
    rw [Nat.mul_assoc, Nat.mul_assoc, ← Nat.pow_add, ← Nat.pow_add]
    congr 2; omega
  have up : mag * 2 ^ (k - (a + j)) < 2 * f.binade * 2 ^ (a + j - k) := by
    have : 2 * f.binade = 2 ^ (f.fractionBits + 1) := by rw [hB, Nat.pow_succ, Nat.mul_comm]
    rw [this, ← Nat.pow_add]
    refine Nat.lt_of_lt_of_le (Nat.mul_lt_mul_of_pos_right hl.2 (Nat.two_pow_pos _)) ?_
    rw [← Nat.pow_add]
    exact Nat.pow_le_pow_right (by omega) (by omega)
  have dn : j = 0 ∨ f.binade * 2 ^ (a + j - k) ≤ mag * 2 ^ (k - (a + j)) := by
    rcases hj2 with h | h
    · exact Or.inl h
    · right
      refine Nat.le_trans ?_ (Nat.mul_le_mul_right _ hl.1)
      rw [hB, ← Nat.pow_add, ← Nat.pow_add]
      exact Nat.pow_le_pow_right (by omega) (by omega)
  generalize hm' : mag * 2 ^ (k - (a + j)) = m' at *
  generalize 2 ^ (a + j - k) = g at *
  generalize mag * 2 ^ k = V at *
  have hdm := Nat.div_add_mod m' g
  have hmod := Nat.mod_lt m' hg
  have hlow : m' / g < 2 * f.binade := (Nat.div_lt_iff_lt_mul hg).2 up
  have hlow2 : j = 0 ∨ f.binade ≤ m' / g := by
    rcases dn with h | h
    · exact Or.inl h
    · exact Or.inr ((Nat.le_div_iff_mul_le hg).2 h)
  have hp2 : 0 < 2 ^ (a + j) := Nat.two_pow_pos _
  have hS : 0 < 2 ^ a := Nat.two_pow_pos _
  have v0 : val f (j * f.binade + m' / g) * 2 ^ a = m' / g * 2 ^ (a + j) := by
    rw [val_at f j _ hlow2 (by omega), Nat.mul_assoc, ← Nat.pow_add, Nat.add_comm j a]
  have v1 : val f (j * f.binade + (m' / g + 1)) * 2 ^ a = (m' / g + 1) * 2 ^ (a + j) := by
    rw [val_at f j _ (by omega) (by omega), Nat.mul_assoc, ← Nat.pow_add, Nat.add_comm j a]
  have par : ∀ n, (j * f.binade + n) % 2 = n % 2 := by intro n; rw [Nat.add_mod, Nat.mul_mod, hB2, Nat.mul_zero, Nat.zero_mod, Nat.zero_add, Nat.mod_mod]
  generalize 2 ^ (a + j) = p at *
  generalize 2 ^ a = S at *
  clear hj hj1 hj2 e1 e2 e3 up dn hm' hl hm hlow hlow2
  show ∃ R, f.word neg (min (j * f.binade + rte m' g) f.infRung) = f.word neg (min R f.infRung) ∧ NEf f R V S
  refine ⟨j * f.binade + rte m' g, rfl, ?_⟩
  unfold rte
  generalize m' / g = q at *
  generalize m' % g = r at *
  have hVg : V * g = q * p * g + r * p := by rw [hV, ← hdm, Nat.add_mul, Nat.mul_comm g q, Nat.mul_right_comm]
  have hV0 : q * p ≤ V := by
    apply Nat.le_of_mul_le_mul_right _ hg
    omega
  have hV1 : V < (q + 1) * p := by
    apply Nat.lt_of_mul_lt_mul_right (a := g)
    have := Nat.mul_lt_mul_of_pos_right hmod hp2
    rw [hVg, Nat.succ_mul, Nat.add_mul, Nat.mul_comm p g]; omega
  have eM : (q * p + (q + 1) * p) * g = 2 * (q * p * g) + g * p := by rw [Nat.succ_mul, Nat.add_mul, Nat.add_mul, Nat.mul_comm p g]; omega
  have e2V : 2 * V * g = 2 * (q * p * g) + 2 * r * p := by rw [Nat.mul_assoc, hVg, Nat.mul_add, Nat.mul_assoc 2 r p]
  have cle : ∀ x y : Nat, x ≤ y → x * p ≤ y * p := fun x y h => Nat.mul_le_mul_right _ h
  cases hc : (decide (g < 2 * r) || (g == 2 * r && q % 2 == 1))
  · simp only [Bool.toNat_false, Nat.add_zero]
    simp only [Bool.or_eq_false_iff, decide_eq_false_iff_not, Bool.and_eq_false_iff, beq_eq_false_iff_ne] at hc
    refine ⟨?_, ?_, ?_, ?_⟩
    · rw [Nat.add_mul, v0, Nat.add_assoc, v1]
      apply Nat.le_of_mul_le_mul_right _ hg
      have := cle (2 * r) g (by omega)
      omega
    · rw [Nat.add_mul, v0, Nat.add_assoc, v1, par]
      intro h
      have h2 : 2 * V * g = (q * p + (q + 1) * p) * g := by rw [h]
      have h3 : 2 * r * p = g * p := by omega
      have h4 := Nat.eq_of_mul_eq_mul_right hp2 h3
      omega
    · intro h0
      have := Nat.mul_lt_mul_of_pos_right (val_lt f (show j * f.binade + q - 1 < j * f.binade + q by omega)) hS
      rw [Nat.add_mul]; omega
    · intro h0
      have := Nat.mul_lt_mul_of_pos_right (val_lt f (show j * f.binade + q - 1 < j * f.binade + q by omega)) hS
      rw [Nat.add_mul]; omega
  · simp only [Bool.toNat_true]
    simp only [Bool.or_eq_true, decide_eq_true_eq, Bool.and_eq_true, beq_iff_eq] at hc
    have lt2 := Nat.mul_lt_mul_of_pos_right (val_lt_succ f (j * f.binade + (q + 1))) hS
    refine ⟨?_, ?_, ?_, ?_⟩
    · rw [Nat.add_mul]; omega
    · rw [Nat.add_mul]; omega
    · intro _
      rw [show j * f.binade + (q + 1) - 1 = j * f.binade + q from rfl, Nat.add_mul, v0, v1]
      apply Nat.le_of_mul_le_mul_right _ hg
      have := cle g (2 * r) (by omega)
      omega
    · intro _
      rw [show j * f.binade + (q + 1) - 1 = j * f.binade + q from rfl, Nat.add_mul, v0, v1, par]
      intro h
      have h2 : 2 * V * g = (q * p + (q + 1) * p) * g := by rw [h]
      have h3 : 2 * r * p = g * p := by omega
      have h4 := Nat.eq_of_mul_eq_mul_right hp2 h3
      omega
theorem nearest_ne (neg : Bool) (mag k a : Nat) (hm : mag ≠ 0) :
    ∃ R, double.nearest neg mag (double.leastPlace + (k : Int) - (a : Int)) = double.word neg (min R double.infRung) ∧ NE R (mag * 2 ^ k) (2 ^ a) := nearest_nef double (by rw [dB]) neg mag k a hm
end Go.Proofs.YtmpakpdikkfofaaGreatDoor.J

