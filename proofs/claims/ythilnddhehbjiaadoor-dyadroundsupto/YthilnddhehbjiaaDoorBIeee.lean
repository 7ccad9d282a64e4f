/- Plain facts on the numbers of a format of IEEE 754, by rungs: their values rise, words are in the order of their signed rungs, what is a number of the format is written as that number, sums that are numbers are exact. No condition but what each theorem names. -/
import Ieee.Arith
namespace Go.Proofs.YthilnddhehbjiaaDoor.B
set_option linter.unusedVariables false
set_option maxRecDepth 20000
open Ieee

def val (f : Format) (r : Nat) : Nat := if r < f.binade then r else (f.binade + r % f.binade) * 2 ^ (r / f.binade - 1)

theorem binade_pos (f : Format) : 0 < f.binade := Nat.two_pow_pos _

theorem val_succ (f : Format) (r : Nat) : val f (r + 1) = val f r + 2 ^ (r / f.binade - 1) := by
  have hb := binade_pos f
  unfold val
  generalize hB : f.binade = B at *
  by_cases h : r < B
  · rw [if_pos h, Nat.div_eq_of_lt h]
    by_cases h1 : r + 1 < B
    · rw [if_pos h1]
    · have e : r + 1 = B := by omega
      rw [if_neg h1, e, Nat.mod_self, Nat.div_self hb]; simp
  · have h1 : ¬ r + 1 < B := by omega
    rw [if_neg h, if_neg h1]
    have hq : 1 ≤ r / B := by
      have := Nat.div_le_div_right (c := B) (Nat.le_of_not_lt h)
      rw [Nat.div_self hb] at this; exact this
    have hm := Nat.mod_lt r hb
    have hd := Nat.div_add_mod r B
    generalize r / B = q at *
    generalize hmm : r % B = m at *
    obtain ⟨q, rfl⟩ : ∃ k, q = k + 1 := ⟨q - 1, by omega⟩
    by_cases h2 : m + 1 < B
    · have e : r + 1 = B * (q + 1) + (m + 1) := by omega
      have e1 : (r + 1) % B = m + 1 := by rw [e, Nat.mul_add_mod, Nat.mod_eq_of_lt h2]
      have e2 : (r + 1) / B = q + 1 := by rw [e, Nat.mul_add_div hb, Nat.div_eq_of_lt h2]
      rw [e1, e2, Nat.add_sub_cancel, ← Nat.add_assoc, Nat.add_mul, Nat.one_mul]
    · have hm1 : m + 1 = B := by omega
      have e : r + 1 = B * (q + 2) := by rw [show q + 2 = (q + 1) + 1 from rfl, Nat.mul_succ]; omega
      have e1 : (r + 1) % B = 0 := by rw [e, Nat.mul_mod_right]
      have e2 : (r + 1) / B = q + 2 := by rw [e, Nat.mul_div_cancel_left _ hb]
      rw [e1, e2]
      have : B + m = 2 * B - 1 := by omega
      have h3 : (B + m) * 2 ^ q + 2 ^ q = (2 * B) * 2 ^ q := by
        rw [← Nat.succ_mul]; congr 1; omega
      show (B + 0) * 2 ^ (q + 1) = (B + m) * 2 ^ q + 2 ^ q
      rw [h3, Nat.pow_succ, Nat.add_zero, Nat.mul_comm 2 B, Nat.mul_assoc, Nat.mul_comm 2]

theorem val_lt_succ (f : Format) (r : Nat) : val f r < val f (r + 1) := by
  rw [val_succ]; exact Nat.lt_add_of_pos_right (Nat.two_pow_pos _)

theorem val_lt (f : Format) {r s : Nat} (h : r < s) : val f r < val f s := by
  induction s with
  | zero => omega
  | succ s ih =>
    by_cases e : r = s
    · subst e; exact val_lt_succ f r
    · exact Nat.lt_trans (ih (by omega)) (val_lt_succ f s)

theorem val_lt_iff (f : Format) {r s : Nat} : val f r < val f s ↔ r < s := by
  constructor
  · intro h
    by_cases e : r < s
    · exact e
    · by_cases e2 : r = s
      · subst e2; omega
      · have := val_lt f (show s < r by omega); omega
  · exact val_lt f

theorem val_inj (f : Format) {r s : Nat} (h : val f r = val f s) : r = s := by
  by_cases e : r < s
  · have := val_lt f e; omega
  · by_cases e2 : s < r
    · have := val_lt f e2; omega
    · omega

theorem val_zero (f : Format) : val f 0 = 0 := by
  unfold val; rw [if_pos (binade_pos f)]

/-- the signed rung. -/
def sg (s : Bool) (r : Nat) : Int := if s then -(r : Int) else r

theorem sg_val_lt (f : Format) (s t : Bool) (r u : Nat) : sg s (val f r) < sg t (val f u) ↔ sg s r < sg t u := by
  have h1 := @val_lt_iff f r u
  have h2 := @val_lt_iff f u r
  have z := val_zero f
  have h3 := @val_lt_iff f 0 r
  have h4 := @val_lt_iff f 0 u
  cases s <;> cases t <;> simp only [sg, if_true, if_false, Bool.false_eq_true] <;> omega

theorem signed_eq (s : Bool) (m k : Nat) : signed s m k = sg s (m * 2 ^ k) := by
  unfold signed sg; rw [Nat.shiftLeft_eq]

/-- what a word below infinity reads as. -/
theorem read_word (f : Format) (s : Bool) (r : Nat) (hr : r < f.infRung) (hs : f.infRung < f.signWeight) :
    ∃ m : Nat, ∃ k : Nat, f.read (f.word s r) = .number s m (f.leastPlace + k) ∧ m * 2 ^ k = val f r := by
  have e1 : (f.word s r / f.signWeight % 2 == 1) = s := by
    unfold Format.word
    cases s
    · simp only [Bool.false_eq_true, if_false]
      rw [Nat.div_eq_of_lt (by omega)]; rfl
    · simp only [if_true]
      rw [Nat.add_div_left _ (by omega), Nat.div_eq_of_lt (by omega)]; rfl
  have e2 : f.word s r % f.signWeight = r := by
    unfold Format.word
    cases s
    · simp only [Bool.false_eq_true, if_false]; exact Nat.mod_eq_of_lt (by omega)
    · simp only [if_true]; rw [Nat.add_mod_left]; exact Nat.mod_eq_of_lt (by omega)
  unfold Format.read
  simp only [e1, e2]
  unfold val
  by_cases h : r < f.binade
  · rw [if_pos h, if_pos h]
    exact ⟨r, 0, by simp, by simp⟩
  · rw [if_neg h, if_neg h, if_pos hr]
    exact ⟨_, _, rfl, rfl⟩

theorem read_inf (f : Format) (s : Bool) (hs : f.infRung < f.signWeight) (hb : f.binade ≤ f.infRung) :
    f.read (f.word s f.infRung) = .infinity s := by
  have e1 : (f.word s f.infRung / f.signWeight % 2 == 1) = s := by
    unfold Format.word
    cases s
    · simp only [Bool.false_eq_true, if_false]
      rw [Nat.div_eq_of_lt (by omega)]; rfl
    · simp only [if_true]
      rw [Nat.add_div_left _ (by omega), Nat.div_eq_of_lt (by omega)]; rfl
  have e2 : f.word s f.infRung % f.signWeight = f.infRung := by
    unfold Format.word
    cases s
    · simp only [Bool.false_eq_true, if_false]; exact Nat.mod_eq_of_lt (by omega)
    · simp only [if_true]; rw [Nat.add_mod_left]; exact Nat.mod_eq_of_lt (by omega)
  unfold Format.read
  simp only [e1, e2]
  rw [if_neg (by omega), if_neg (by omega), if_pos trivial]

theorem read_nan (f : Format) (w : Nat) (h : f.infRung < w % f.signWeight) (hb : f.binade ≤ f.infRung) :
    f.read w = .nan (w / f.signWeight % 2 == 1) (w % f.signWeight - f.infRung) := by
  unfold Format.read
  simp only
  rw [if_neg (by omega), if_neg (by omega), if_neg (by omega)]

theorem compare_of (a b c d : Int) (h1 : a < b ↔ c < d) (h2 : b < a ↔ d < c) : compare a b = compare c d := by
  by_cases x : a < b
  · rw [Int.compare_eq_lt.2 x, Int.compare_eq_lt.2 (h1.1 x)]
  · by_cases y : b < a
    · rw [Int.compare_eq_gt.2 y, Int.compare_eq_gt.2 (h2.1 y)]
    · have e1 : a = b := by omega
      have e2 : c = d := by
        have n1 := mt h1.2 x
        have n2 := mt h2.2 y
        omega
      rw [Int.compare_eq_eq.2 e1, Int.compare_eq_eq.2 e2]

theorem sg_mul (s : Bool) (a k : Nat) : sg s (a * k) = sg s a * (k : Int) := by
  unfold sg; cases s <;> simp [Int.neg_mul]

/-- how two numbers compare. -/
theorem order_num (s t : Bool) (m n j k : Nat) (p : Int) :
    Datum.order (.number s m (p + j)) (.number t n (p + k)) = some (compare (sg s (m * 2 ^ j)) (sg t (n * 2 ^ k))) := by
  unfold Datum.order
  simp only [signed_eq]
  congr 1
  have hb : ∃ c : Nat, min (p + (j : Int)) (p + (k : Int)) = p + c := ⟨min j k, by omega⟩
  obtain ⟨c, hc⟩ := hb
  have hj : (p + (j : Int) - min (p + (j : Int)) (p + (k : Int))).toNat = j - c := by rw [hc]; omega
  have hk : (p + (k : Int) - min (p + (j : Int)) (p + (k : Int))).toNat = k - c := by rw [hc]; omega
  have cj : c ≤ j := by omega
  have ck : c ≤ k := by omega
  rw [hj, hk]
  have ej : m * 2 ^ j = m * 2 ^ (j - c) * 2 ^ c := by rw [Nat.mul_assoc, ← Nat.pow_add, Nat.sub_add_cancel cj]
  have ek : n * 2 ^ k = n * 2 ^ (k - c) * 2 ^ c := by rw [Nat.mul_assoc, ← Nat.pow_add, Nat.sub_add_cancel ck]
  rw [ej, ek, sg_mul s (m * 2 ^ (j - c)), sg_mul t (n * 2 ^ (k - c))]
  have hp : (0 : Int) < ((2 ^ c : Nat) : Int) := by exact_mod_cast Nat.two_pow_pos c
  refine compare_of _ _ _ _ ?_ ?_
  · exact ⟨fun h => Int.mul_lt_mul_of_pos_right h hp, fun h => Int.lt_of_mul_lt_mul_right h (Int.le_of_lt hp)⟩
  · exact ⟨fun h => Int.mul_lt_mul_of_pos_right h hp, fun h => Int.lt_of_mul_lt_mul_right h (Int.le_of_lt hp)⟩

/-- THE ORDER OF WORDS IS THAT OF THEIR SIGNED RUNGS. -/
theorem order_word (f : Format) (hs : f.infRung < f.signWeight) (hb : f.binade ≤ f.infRung) (s t : Bool) (r u : Nat) (hr : r ≤ f.infRung) (hu : u ≤ f.infRung) :
    f.order (f.word s r) (f.word t u) = some (compare (sg s r) (sg t u)) := by
  have hB := binade_pos f
  unfold Format.order
  by_cases r1 : r = f.infRung
  · by_cases u1 : u = f.infRung
    · subst r1 u1
      rw [read_inf f s hs hb, read_inf f t hs hb]
      unfold Datum.order; simp only
      congr 1
      cases s <;> cases t <;> simp only [sg, Bool.toNat_true, Bool.toNat_false, if_true, if_false, Bool.false_eq_true]
      · rw [Int.compare_eq_eq.2 rfl]; rfl
      · rw [Int.compare_eq_gt.2 (by omega)]; rfl
      · rw [Int.compare_eq_lt.2 (by omega)]; rfl
      · rw [Int.compare_eq_eq.2 rfl]; rfl
    · obtain ⟨n, k, e, hv⟩ := read_word f t u (by omega) hs
      subst r1
      rw [read_inf f s hs hb, e]
      unfold Datum.order; simp only
      cases s <;> cases t <;> simp only [sg, if_true, if_false, Bool.false_eq_true] <;>
        first | rw [Int.compare_eq_gt.2 (by omega)] | rw [Int.compare_eq_lt.2 (by omega)]
  · obtain ⟨m, j, e, hv⟩ := read_word f s r (by omega) hs
    by_cases u1 : u = f.infRung
    · subst u1
      rw [read_inf f t hs hb, e]
      unfold Datum.order; simp only
      cases s <;> cases t <;> simp only [sg, if_true, if_false, Bool.false_eq_true] <;>
        first | rw [Int.compare_eq_gt.2 (by omega)] | rw [Int.compare_eq_lt.2 (by omega)]
    · obtain ⟨n, k, e2, hv2⟩ := read_word f t u (by omega) hs
      rw [e, e2, order_num, hv, hv2]
      congr 1
      exact compare_of _ _ _ _ (sg_val_lt f s t r u) (sg_val_lt f t s u r)

/-- to the nearest whole number, between two the even one. -/
def rte (n g : Nat) : Nat := n / g + (decide (g < 2 * (n % g)) || (g == 2 * (n % g) && n / g % 2 == 1)).toNat

theorem cut_even (neg : Bool) (n drop : Nat) : Toward.even.cut neg n drop = rte n (2 ^ drop) := by
  unfold Toward.cut rte
  simp only [Nat.shiftLeft_eq, Nat.one_mul]
  by_cases h : drop ≤ n.log2 + 2
  · rw [Nat.min_eq_left h]
  · rw [Nat.min_eq_right (by omega)]
    have hn : n < 2 ^ (n.log2 + 1) := Nat.lt_log2_self
    have h1 : n < 2 ^ (n.log2 + 2) := by rw [Nat.pow_succ]; omega
    have h2 : 2 ^ (n.log2 + 2) ≤ 2 ^ drop := Nat.pow_le_pow_right (by omega) (by omega)
    have h3 : 2 * n < 2 ^ (n.log2 + 2) := by rw [Nat.pow_succ]; omega
    rw [Nat.div_eq_of_lt h1, Nat.mod_eq_of_lt h1, Nat.div_eq_of_lt (show n < 2 ^ drop by omega), Nat.mod_eq_of_lt (show n < 2 ^ drop by omega)]
    have a1 : decide (2 ^ (n.log2 + 2) < 2 * n) = false := by simp; omega
    have a2 : decide (2 ^ drop < 2 * n) = false := by simp; omega
    simp only [a1, a2, Nat.zero_mod]
    simp

theorem rte_exact (n g : Nat) (hg : 0 < g) : rte (n * g) g = n := by
  unfold rte
  rw [Nat.mul_div_cancel _ hg, Nat.mul_mod_left]
  have : decide (g < 2 * 0) = false := by simp
  have h2 : (g == 2 * 0) = false := by simp; omega
  rw [this, h2]; simp

theorem rte_one (n : Nat) : rte n 1 = n := by
  have := rte_exact n 1 (by omega)
  rwa [Nat.mul_one] at this

theorem nearest_exact (f : Format) (neg : Bool) (mag k r : Nat) (hr : r < f.infRung) (h : mag * 2 ^ k = val f r) :
    f.nearest neg mag (f.leastPlace + k) = f.word neg r := by
  unfold Format.nearest
  by_cases hm : mag = 0
  · rw [if_pos hm]
    have : val f r = val f 0 := by rw [val_zero, ← h, hm, Nat.zero_mul]
    rw [val_inj f this]
  · rw [if_neg hm]
    simp only [cut_even, Nat.shiftLeft_eq]
    have hl := (Nat.log2_eq_iff hm (k := mag.log2)).1 rfl
    generalize mag.log2 = L at *
    have hB : f.binade = 2 ^ f.fractionBits := rfl
    have hb := binade_pos f
    unfold val at h
    by_cases hlt : r < f.binade
    · rw [if_pos hlt] at h
      have h1 : 2 ^ (L + k) < 2 ^ f.fractionBits := by
        rw [Nat.pow_add, ← hB]
        exact Nat.lt_of_le_of_lt (Nat.mul_le_mul_right _ hl.1) (by omega)
      have h2 := (Nat.pow_lt_pow_iff_right (a := 2) (by omega)).1 h1
      have e : max (f.leastPlace + (k : Int) + (L : Int) - (f.fractionBits : Int)) f.leastPlace = f.leastPlace := by omega
      rw [e]
      have e1 : (f.leastPlace + (k : Int) - f.leastPlace).toNat = k := by omega
      have e2 : (f.leastPlace - (f.leastPlace + (k : Int))).toNat = 0 := by omega
      have e3 : (f.leastPlace - f.leastPlace).toNat = 0 := by omega
      rw [e1, e2, e3, h, Nat.pow_zero, rte_one, Nat.zero_mul, Nat.zero_add, Nat.min_eq_left (by omega)]
    · rw [if_neg hlt] at h
      have hq : 1 ≤ r / f.binade := by
        have := Nat.div_le_div_right (c := f.binade) (Nat.le_of_not_lt hlt)
        rw [Nat.div_self hb] at this; exact this
      have hmm := Nat.mod_lt r hb
      have hd := Nat.div_add_mod r f.binade
      generalize r / f.binade = q at *
      generalize r % f.binade = m at *
      obtain ⟨q, rfl⟩ : ∃ j, q = j + 1 := ⟨q - 1, by omega⟩
      rw [Nat.add_sub_cancel] at h
      -- the logarithms
      have lo1 : 2 ^ (L + k) ≤ mag * 2 ^ k := by rw [Nat.pow_add]; exact Nat.mul_le_mul_right _ hl.1
      have hi1 : mag * 2 ^ k < 2 ^ (L + 1 + k) := by rw [Nat.pow_add]; exact Nat.mul_lt_mul_of_pos_right hl.2 (Nat.two_pow_pos _)
      have lo2 : 2 ^ (f.fractionBits + q) ≤ (f.binade + m) * 2 ^ q := by rw [Nat.pow_add]; exact Nat.mul_le_mul_right _ (by omega)
      have hi2 : (f.binade + m) * 2 ^ q < 2 ^ (f.fractionBits + 1 + q) := by
        rw [Nat.pow_add, Nat.pow_succ]; exact Nat.mul_lt_mul_of_pos_right (by omega) (Nat.two_pow_pos _)
      have c1 := (Nat.pow_lt_pow_iff_right (a := 2) (by omega)).1 (show 2 ^ (L + k) < 2 ^ (f.fractionBits + 1 + q) by omega)
      have c2 := (Nat.pow_lt_pow_iff_right (a := 2) (by omega)).1 (show 2 ^ (f.fractionBits + q) < 2 ^ (L + 1 + k) by omega)
      have cL : L + k = f.fractionBits + q := by omega
      have e : max (f.leastPlace + (k : Int) + (L : Int) - (f.fractionBits : Int)) f.leastPlace = f.leastPlace + q := by omega
      rw [e]
      have e3 : (f.leastPlace + (q : Int) - f.leastPlace).toNat = q := by omega
      rw [e3]
      have fin : q * f.binade + (f.binade + m) = r := by
        rw [← hd, Nat.mul_succ, Nat.mul_comm q]; omega
      by_cases hk : q ≤ k
      · have e1 : (f.leastPlace + (k : Int) - (f.leastPlace + (q : Int))).toNat = k - q := by omega
        have e2 : (f.leastPlace + (q : Int) - (f.leastPlace + (k : Int))).toNat = 0 := by omega
        have hh : mag * 2 ^ (k - q) = f.binade + m := by
          have : mag * 2 ^ (k - q) * 2 ^ q = (f.binade + m) * 2 ^ q := by
            rw [Nat.mul_assoc, ← Nat.pow_add, Nat.sub_add_cancel hk]; exact h
          exact Nat.eq_of_mul_eq_mul_right (Nat.two_pow_pos _) this
        rw [e1, e2, hh, Nat.pow_zero, rte_one, fin, Nat.min_eq_left (by omega)]
      · have e1 : (f.leastPlace + (k : Int) - (f.leastPlace + (q : Int))).toNat = 0 := by omega
        have e2 : (f.leastPlace + (q : Int) - (f.leastPlace + (k : Int))).toNat = q - k := by omega
        have hh : mag = (f.binade + m) * 2 ^ (q - k) := by
          have : mag * 2 ^ k = (f.binade + m) * 2 ^ (q - k) * 2 ^ k := by
            rw [Nat.mul_assoc, ← Nat.pow_add, Nat.sub_add_cancel (by omega)]; exact h
          exact Nat.eq_of_mul_eq_mul_right (Nat.two_pow_pos _) this
        rw [e1, e2, Nat.pow_zero, Nat.mul_one, hh, rte_exact _ _ (Nat.two_pow_pos _), fin, Nat.min_eq_left (by omega)]

theorem natAbs_sg (s : Bool) (m : Nat) : (sg s m).natAbs = m := by unfold sg; cases s <;> simp

/-- the sum of two numbers, exact. -/
theorem sum_num (s t : Bool) (m n j k : Nat) (p : Int) :
    ∃ mag c : Nat, Datum.sum (.number s m (p + j)) (.number t n (p + k)) =
      some (.number (if sg s (m * 2 ^ j) + sg t (n * 2 ^ k) = 0 then s && t else decide (sg s (m * 2 ^ j) + sg t (n * 2 ^ k) < 0)) mag (p + c)) ∧
      mag * 2 ^ c = (sg s (m * 2 ^ j) + sg t (n * 2 ^ k)).natAbs := by
  have hb : ∃ c : Nat, min (p + (j : Int)) (p + (k : Int)) = p + c := ⟨min j k, by omega⟩
  obtain ⟨c, hc⟩ := hb
  have hj : (p + (j : Int) - min (p + (j : Int)) (p + (k : Int))).toNat = j - c := by rw [hc]; omega
  have hk : (p + (k : Int) - min (p + (j : Int)) (p + (k : Int))).toNat = k - c := by rw [hc]; omega
  have cj : c ≤ j := by omega
  have ck : c ≤ k := by omega
  have ej : m * 2 ^ j = m * 2 ^ (j - c) * 2 ^ c := by rw [Nat.mul_assoc, ← Nat.pow_add, Nat.sub_add_cancel cj]
  have ek : n * 2 ^ k = n * 2 ^ (k - c) * 2 ^ c := by rw [Nat.mul_assoc, ← Nat.pow_add, Nat.sub_add_cancel ck]
  have hp : (0 : Int) < ((2 ^ c : Nat) : Int) := by exact_mod_cast Nat.two_pow_pos c
  have et : sg s (m * 2 ^ j) + sg t (n * 2 ^ k) = (sg s (m * 2 ^ (j - c)) + sg t (n * 2 ^ (k - c))) * ((2 ^ c : Nat) : Int) := by
    rw [ej, ek, sg_mul s (m * 2 ^ (j - c)), sg_mul t (n * 2 ^ (k - c)), Int.add_mul]
  refine ⟨(sg s (m * 2 ^ (j - c)) + sg t (n * 2 ^ (k - c))).natAbs, c, ?_, ?_⟩
  · rw [hc] at hj hk
    unfold Datum.sum
    simp only [signed_eq, hc, hj, hk]
    rw [et]
    generalize sg s (m * 2 ^ (j - c)) + sg t (n * 2 ^ (k - c)) = T
    generalize ((2 ^ c : Nat) : Int) = Q at *
    congr 2
    by_cases h0 : T = 0
    · rw [if_pos h0, if_pos (by rw [h0, Int.zero_mul])]
    · rw [if_neg h0, if_neg (by intro h; rcases Int.mul_eq_zero.1 h with h | h <;> omega)]
      congr 1
      apply propext
      constructor
      · intro h; exact Int.mul_neg_of_neg_of_pos h hp
      · intro h
        by_cases hT : T < 0
        · exact hT
        · have := Int.mul_nonneg (Int.not_lt.1 hT) (Int.le_of_lt hp); omega
  · rw [et, Int.natAbs_mul, Int.natAbs_natCast]

/-- a sum that is a number of the format is just that. -/
theorem add_exact (f : Format) (hs : f.infRung < f.signWeight) (s t : Bool) (r u v : Nat) (hr : r < f.infRung) (hu : u < f.infRung) (hv : v < f.infRung)
    (h : (sg s (val f r) + sg t (val f u)).natAbs = val f v) :
    f.add (f.word s r) (f.word t u) = some (f.word (if v = 0 then s && t else decide (sg s (val f r) + sg t (val f u) < 0)) v) := by
  obtain ⟨m, j, e1, v1⟩ := read_word f s r hr hs
  obtain ⟨n, k, e2, v2⟩ := read_word f t u hu hs
  unfold Format.add
  rw [e1, e2]
  obtain ⟨mag, c, es, ev⟩ := sum_num s t m n j k f.leastPlace
  rw [v1, v2] at es ev
  rw [es]
  show some (f.nearest _ mag _) = _
  rw [nearest_exact f _ mag c v hv (by rw [ev, h])]
  congr 2
  by_cases h0 : v = 0
  · subst h0
    rw [val_zero] at h
    rw [if_pos rfl, if_pos (by omega)]
  · have : 0 < val f v := by
      have := val_lt f (show 0 < v by omega)
      rw [val_zero] at this; exact this
    rw [if_neg h0, if_neg (by intro h2; rw [h2] at h; simp at h; omega)]

theorem read_opposite (f : Format) (hs : f.infRung < f.signWeight) (t : Bool) (u : Nat) (hu : u < f.infRung) : (f.read (f.word t u)).opposite = f.read (f.word (!t) u) := by
  have key : ∀ b : Bool, (f.word b u / f.signWeight % 2 == 1) = b ∧ f.word b u % f.signWeight = u := by
    intro b
    unfold Format.word
    cases b
    · simp only [Bool.false_eq_true, if_false]
      rw [Nat.div_eq_of_lt (by omega)]; exact ⟨rfl, Nat.mod_eq_of_lt (by omega)⟩
    · simp only [if_true]
      rw [Nat.add_div_left _ (by omega), Nat.div_eq_of_lt (by omega), Nat.add_mod_left]; exact ⟨rfl, Nat.mod_eq_of_lt (by omega)⟩
  unfold Format.read
  simp only [(key t).1, (key t).2, (key (!t)).1, (key (!t)).2]
  by_cases h : u < f.binade
  · rw [if_pos h, if_pos h]; rfl
  · rw [if_neg h, if_neg h, if_pos hu, if_pos hu]; rfl

theorem sub_exact (f : Format) (hs : f.infRung < f.signWeight) (s t : Bool) (r u v : Nat) (hr : r < f.infRung) (hu : u < f.infRung) (hv : v < f.infRung)
    (h : (sg s (val f r) + sg (!t) (val f u)).natAbs = val f v) :
    f.sub (f.word s r) (f.word t u) = some (f.word (if v = 0 then s && !t else decide (sg s (val f r) + sg (!t) (val f u) < 0)) v) := by
  have := add_exact f hs s (!t) r u v hr hu hv h
  unfold Format.add at this
  unfold Format.sub
  rw [read_opposite f hs t u hu]; exact this

/-- infinity less a number. -/
theorem sub_inf_num (f : Format) (hs : f.infRung < f.signWeight) (hb : f.binade ≤ f.infRung) (s t : Bool) (u : Nat) (hu : u < f.infRung) :
    f.sub (f.word s f.infRung) (f.word t u) = some (f.word s f.infRung) := by
  obtain ⟨n, k, e2, v2⟩ := read_word f (!t) u hu hs
  unfold Format.sub
  rw [read_opposite f hs t u hu, e2, read_inf f s hs hb]
  rfl
end Go.Proofs.YthilnddhehbjiaaDoor.B
