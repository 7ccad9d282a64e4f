/- Plain facts on the numbers of a format of IEEE 754, by rungs: their values rise, words are in the order of their signed rungs, what is a number of the format is written as that number, sums that are numbers are exact. No condition but what each theorem names. -/
import Ieee.Arith
import Derived.WalkKit
import Derived.Test.YtdimlelcgapobaaGreatDoorProg
import Derived.WalkLawsBesides
import Derived.WalkSpells
import Derived.Laws.Externs
import Derived.Laws.BitsAllLaws
import Derived.Laws.StructEq
import Derived.Test.YtdimlelcgapobaaGreatDoorW49x
import Derived.Deep.RegionWith
import Derived.BigQuiet
import Derived.Deep.RegionHeld3
import Derived.Test.YtdimlelcgapobaaGreatDoorW33x
import Derived.Test.YtdimlelcgapobaaGreatDoorM1x
namespace Go.Proofs.YtdimlelcgapobaaGreatDoor.B
set_option linter.unusedVariables false
set_option maxRecDepth 20000
open Ieee

def val (f : Format) (r : Nat) : Nat := if r < f.binade then r else (f.binade + r % f.binade) * 2 ^ (r / f.binade - 1)

theorem binade_pos (f : Format) : 0 < f.binade := Nat.two_pow_pos _

theorem val_succ (f : Format) (r : Nat) : val f (r + 1) = val f r + 2 ^ (r / f.binade - 1) := by
  have hb := binade_pos f
  unfold val
  generalize hB : f.binade = B at *
  by_cases h : r < B
  · rw [if_pos h, Nat.div_eq_of_lt h]
    by_cases h1 : r + 1 < B
    · rw [if_pos h1]
    · have e : r + 1 = B := by omega
      rw [if_neg h1, e, Nat.mod_self, Nat.div_self hb]; simp
  · have h1 : ¬ r + 1 < B := by omega
    rw [if_neg h, if_neg h1]
    have hq : 1 ≤ r / B := by
      have := Nat.div_le_div_right (c := B) (Nat.le_of_not_lt h)
      rw [Nat.div_self hb] at this; exact this
    have hm := Nat.mod_lt r hb
    have hd := Nat.div_add_mod r B
    generalize r / B = q at *
    generalize hmm : r % B = m at *
    obtain ⟨q, rfl⟩ : ∃ k, q = k + 1 := ⟨q - 1, by omega⟩
    by_cases h2 : m + 1 < B
    · have e : r + 1 = B * (q + 1) + (m + 1) := by omega
      have e1 : (r + 1) % B = m + 1 := by rw [e, Nat.mul_add_mod, Nat.mod_eq_of_lt h2]
      have e2 : (r + 1) / B = q + 1 := by rw [e, Nat.mul_add_div hb, Nat.div_eq_of_lt h2]
      rw [e1, e2, Nat.add_sub_cancel, ← Nat.add_assoc, Nat.add_mul, Nat.one_mul]
    · have hm1 : m + 1 = B := by omega
      have e : r + 1 = B * (q + 2) := by rw [show q + 2 = (q + 1) + 1 from rfl, Nat.mul_succ]; omega
      have e1 : (r + 1) % B = 0 := by rw [e, Nat.mul_mod_right]
      have e2 : (r + 1) / B = q + 2 := by rw [e, Nat.mul_div_cancel_left _ hb]
      rw [e1, e2]
      have : B + m = 2 * B - 1 := by omega
      have h3 : (B + m) * 2 ^ q + 2 ^ q = (2 * B) * 2 ^ q := by
        rw [← Nat.succ_mul]; congr 1; omega
      show (B + 0) * 2 ^ (q + 1) = (B + m) * 2 ^ q + 2 ^ q
      rw [h3, Nat.pow_succ, Nat.add_zero, Nat.mul_comm 2 B, Nat.mul_assoc, Nat.mul_comm 2]

theorem val_lt_succ (f : Format) (r : Nat) : val f r < val f (r + 1) := by
  rw [val_succ]; exact Nat.lt_add_of_pos_right (Nat.two_pow_pos _)

theorem val_lt (f : Format) {r s : Nat} (h : r < s) : val f r < val f s := by
  induction s with
  | zero => omega
  | succ s ih =>
    by_cases e : r = s
    · subst e; exact val_lt_succ f r
    · exact Nat.lt_trans (ih (by omega)) (val_lt_succ f s)

theorem val_lt_iff (f : Format) {r s : Nat} : val f r < val f s ↔ r < s := by
  constructor
  · intro h
    by_cases e : r < s
    · exact e
    · by_cases e2 : r = s
      · subst e2; omega
      · have := val_lt f (show s < r by omega); omega
  · exact val_lt f

theorem val_inj (f : Format) {r s : Nat} (h : val f r = val f s) : r = s := by
  by_cases e : r < s
  · have := val_lt f e; omega
  · by_cases e2 : s < r
    · have := val_lt f e2; omega
    · omega

theorem val_zero (f : Format) : val f 0 = 0 := by
  unfold val; rw [if_pos (binade_pos f)]

def sg (s : Bool) (r : Nat) : Int := if s then -(r : Int) else r

theorem sg_val_lt (f : Format) (s t : Bool) (r u : Nat) : sg s (val f r) < sg t (val f u) ↔ sg s r < sg t u := by
  have h1 := @val_lt_iff f r u
  have h2 := @val_lt_iff f u r
  have z := val_zero f
  have h3 := @val_lt_iff f 0 r
  have h4 := @val_lt_iff f 0 u
  cases s <;> cases t <;> simp only [sg, if_true, if_false, Bool.false_eq_true] <;> omega

theorem signed_eq (s : Bool) (m k : Nat) : signed s m k = sg s (m * 2 ^ k) := by
  unfold signed sg; rw [Nat.shiftLeft_eq]

theorem read_word (f : Format) (s : Bool) (r : Nat) (hr : r < f.infRung) (hs : f.infRung < f.signWeight) :
    ∃ m : Nat, ∃ k : Nat, f.read (f.word s r) = .number s m (f.leastPlace + k) ∧ m * 2 ^ k = val f r := by
  have e1 : (f.word s r / f.signWeight % 2 == 1) = s := by
    unfold Format.word
    cases s
    · simp only [Bool.false_eq_true, if_false]
      rw [Nat.div_eq_of_lt (by omega)]; rfl
    · simp only [if_true]
      rw [Nat.add_div_left _ (by omega), Nat.div_eq_of_lt (by omega)]; rfl
  have e2 : f.word s r % f.signWeight = r := by
    unfold Format.word
    cases s
    · simp only [Bool.false_eq_true, if_false]; exact Nat.mod_eq_of_lt (by omega)
    · simp only [if_true]; rw [Nat.add_mod_left]; exact Nat.mod_eq_of_lt (by omega)
  unfold Format.read
  simp only [e1, e2]
  unfold val
  by_cases h : r < f.binade
  · rw [if_pos h, if_pos h]
    exact ⟨r, 0, by simp, by simp⟩
  · rw [if_neg h, if_neg h, if_pos hr]
    exact ⟨_, _, rfl, rfl⟩

theorem read_inf (f : Format) (s : Bool) (hs : f.infRung < f.signWeight) (hb : f.binade ≤ f.infRung) :
    f.read (f.word s f.infRung) = .infinity s := by
  have e1 : (f.word s f.infRung / f.signWeight % 2 == 1) = s := by
    unfold Format.word
    cases s
    · simp only [Bool.false_eq_true, if_false]
      rw [Nat.div_eq_of_lt (by omega)]; rfl
    · simp only [if_true]
      rw [Nat.add_div_left _ (by omega), Nat.div_eq_of_lt (by omega)]; rfl
  have e2 : f.word s f.infRung % f.signWeight = f.infRung := by
    unfold Format.word
    cases s
    · simp only [Bool.false_eq_true, if_false]; exact Nat.mod_eq_of_lt (by omega)
    · simp only [if_true]; rw [Nat.add_mod_left]; exact Nat.mod_eq_of_lt (by omega)
  unfold Format.read
  simp only [e1, e2]
  rw [if_neg (by omega), if_neg (by omega), if_pos trivial]

theorem read_nan (f : Format) (w : Nat) (h : f.infRung < w % f.signWeight) (hb : f.binade ≤ f.infRung) :
    f.read w = .nan (w / f.signWeight % 2 == 1) (w % f.signWeight - f.infRung) := by
  unfold Format.read
  simp only
  rw [if_neg (by omega), if_neg (by omega), if_neg (by omega)]

theorem compare_of (a b c d : Int) (h1 : a < b ↔ c < d) (h2 : b < a ↔ d < c) : compare a b = compare c d := by
  by_cases x : a < b
  · rw [Int.compare_eq_lt.2 x, Int.compare_eq_lt.2 (h1.1 x)]
  · by_cases y : b < a
    · rw [Int.compare_eq_gt.2 y, Int.compare_eq_gt.2 (h2.1 y)]
    · have e1 : a = b := by omega
      have e2 : c = d := by
        have n1 := mt h1.2 x
        have n2 := mt h2.2 y
        omega
      rw [Int.compare_eq_eq.2 e1, Int.compare_eq_eq.2 e2]

theorem sg_mul (s : Bool) (a k : Nat) : sg s (a * k) = sg s a * (k : Int) := by
  unfold sg; cases s <;> simp [Int.neg_mul]

theorem order_num (s t : Bool) (m n j k : Nat) (p : Int) :
    Datum.order (.number s m (p + j)) (.number t n (p + k)) = some (compare (sg s (m * 2 ^ j)) (sg t (n * 2 ^ k))) := by
  unfold Datum.order
  simp only [signed_eq]
  congr 1
  have hb : ∃ c : Nat, min (p + (j : Int)) (p + (k : Int)) = p + c := ⟨min j k, by omega⟩
  obtain ⟨c, hc⟩ := hb
  have hj : (p + (j : Int) - min (p + (j : Int)) (p + (k : Int))).toNat = j - c := by rw [hc]; omega
  have hk : (p + (k : Int) - min (p + (j : Int)) (p + (k : Int))).toNat = k - c := by rw [hc]; omega
  have cj : c ≤ j := by omega
  have ck : c ≤ k := by omega
  rw [hj, hk]
  have ej : m * 2 ^ j = m * 2 ^ (j - c) * 2 ^ c := by rw [Nat.mul_assoc, ← Nat.pow_add, Nat.sub_add_cancel cj]
  have ek : n * 2 ^ k = n * 2 ^ (k - c) * 2 ^ c := by rw [Nat.mul_assoc, ← Nat.pow_add, Nat.sub_add_cancel ck]
  rw [ej, ek, sg_mul s (m * 2 ^ (j - c)), sg_mul t (n * 2 ^ (k - c))]
  have hp : (0 : Int) < ((2 ^ c : Nat) : Int) := by exact_mod_cast Nat.two_pow_pos c
  refine compare_of _ _ _ _ ?_ ?_
  · exact ⟨fun h => Int.mul_lt_mul_of_pos_right h hp, fun h => Int.lt_of_mul_lt_mul_right h (Int.le_of_lt hp)⟩
  · exact ⟨fun h => Int.mul_lt_mul_of_pos_right h hp, fun h => Int.lt_of_mul_lt_mul_right h (Int.le_of_lt hp)⟩

theorem order_word (f : Format) (hs : f.infRung < f.signWeight) (hb : f.binade ≤ f.infRung) (s t : Bool) (r u : Nat) (hr : r ≤ f.infRung) (hu : u ≤ f.infRung) :
    f.order (f.word s r) (f.word t u) = some (compare (sg s r) (sg t u)) := by
  have hB := binade_pos f
  unfold Format.order
  by_cases r1 : r = f.infRung
  · by_cases u1 : u = f.infRung
    · subst r1 u1
      rw [read_inf f s hs hb, read_inf f t hs hb]
      unfold Datum.order; simp only
      congr 1
      cases s <;> cases t <;> simp only [sg, Bool.toNat_true, Bool.toNat_false, if_true, if_false, Bool.false_eq_true]
      · rw [Int.compare_eq_eq.2 rfl]; rfl
      · rw [Int.compare_eq_gt.2 (by omega)]; rfl
      · rw [Int.compare_eq_lt.2 (by omega)]; rfl
      · rw [Int.compare_eq_eq.2 rfl]; rfl
    · obtain ⟨n, k, e, hv⟩ := read_word f t u (by omega) hs
      subst r1
      rw [read_inf f s hs hb, e]
      unfold Datum.order; simp only
      cases s <;> cases t <;> simp only [sg, if_true, if_false, Bool.false_eq_true] <;>
        first | rw [Int.compare_eq_gt.2 (by omega)] | rw [Int.compare_eq_lt.2 (by omega)]
  · obtain ⟨m, j, e, hv⟩ := read_word f s r (by omega) hs
    by_cases u1 : u = f.infRung
    · subst u1
      rw [read_inf f t hs hb, e]
      unfold Datum.order; simp only
      cases s <;> cases t <;> simp only [sg, if_true, if_false, Bool.false_eq_true] <;>
        first | rw [Int.compare_eq_gt.2 (by omega)] | rw [Int.compare_eq_lt.2 (by omega)]
    · obtain ⟨n, k, e2, hv2⟩ := read_word f t u (by omega) hs
      rw [e, e2, order_num, hv, hv2]
      congr 1
      exact compare_of _ _ _ _ (sg_val_lt f s t r u) (sg_val_lt f t s u r)

def rte (n g : Nat) : Nat := n / g + (decide (g < 2 * (n % g)) || (g == 2 * (n % g) && n / g % 2 == 1)).toNat

theorem cut_even (neg : Bool) (n drop : Nat) : Toward.even.cut neg n drop = rte n (2 ^ drop) := by
  unfold Toward.cut rte
  simp only [Nat.shiftLeft_eq, Nat.one_mul]
  by_cases h : drop ≤ n.log2 + 2
  · rw [Nat.min_eq_left h]
  · rw [Nat.min_eq_right (by omega)]
    have hn : n < 2 ^ (n.log2 + 1) := Nat.lt_log2_self
    have h1 : n < 2 ^ (n.log2 + 2) := by rw [Nat.pow_succ]; omega
    have h2 : 2 ^ (n.log2 + 2) ≤ 2 ^ drop := Nat.pow_le_pow_right (by omega) (by omega)
    have h3 : 2 * n < 2 ^ (n.log2 + 2) := by rw [Nat.pow_succ]; omega
    rw [Nat.div_eq_of_lt h1, Nat.mod_eq_of_lt h1, Nat.div_eq_of_lt (show n < 2 ^ drop by omega), Nat.mod_eq_of_lt (show n < 2 ^ drop by omega)]
    have a1 : decide (2 ^ (n.log2 + 2) < 2 * n) = false := by simp; omega
    have a2 : decide (2 ^ drop < 2 * n) = false := by simp; omega
    simp only [a1, a2, Nat.zero_mod]
    simp

theorem rte_exact (n g : Nat) (hg : 0 < g) : rte (n * g) g = n := by
  unfold rte
  rw [Nat.mul_div_cancel _ hg, Nat.mul_mod_left]
  have : decide (g < 2 * 0) = false := by simp
  have h2 : (g == 2 * 0) = false := by simp; omega
  rw [this, h2]; simp

theorem rte_one (n : Nat) : rte n 1 = n := by
  have := rte_exact n 1 (by omega)
  rwa [Nat.mul_one] at this

theorem nearest_exact (f : Format) (neg : Bool) (mag k r : Nat) (hr : r < f.infRung) (h : mag * 2 ^ k = val f r) :
    f.nearest neg mag (f.leastPlace + k) = f.word neg r := by
  unfold Format.nearest
  by_cases hm : mag = 0
  · rw [if_pos hm]
    have : val f r = val f 0 := by rw [val_zero, ← h, hm, Nat.zero_mul]
    rw [val_inj f this]
  · rw [if_neg hm]
    simp only [cut_even, Nat.shiftLeft_eq]
    have hl := (Nat.log2_eq_iff hm (k := mag.log2)).1 rfl
    generalize mag.log2 = L at *
    have hB : f.binade = 2 ^ f.fractionBits := rfl
    have hb := binade_pos f
    unfold val at h
    by_cases hlt : r < f.binade
    · rw [if_pos hlt] at h
      have h1 : 2 ^ (L + k) < 2 ^ f.fractionBits := by
        rw [Nat.pow_add, ← hB]
        exact Nat.lt_of_le_of_lt (Nat.mul_le_mul_right _ hl.1) (by omega)
      have h2 := (Nat.pow_lt_pow_iff_right (a := 2) (by omega)).1 h1
      have e : max (f.leastPlace + (k : Int) + (L : Int) - (f.fractionBits : Int)) f.leastPlace = f.leastPlace := by omega
      rw [e]
      have e1 : (f.leastPlace + (k : Int) - f.leastPlace).toNat = k := by omega
      have e2 : (f.leastPlace - (f.leastPlace + (k : Int))).toNat = 0 := by omega
      have e3 : (f.leastPlace - f.leastPlace).toNat = 0 := by omega
      rw [e1, e2, e3, h, Nat.pow_zero, rte_one, Nat.zero_mul, Nat.zero_add, Nat.min_eq_left (by omega)]
    · rw [if_neg hlt] at h
      have hq : 1 ≤ r / f.binade := by
        have := Nat.div_le_div_right (c := f.binade) (Nat.le_of_not_lt hlt)
        rw [Nat.div_self hb] at this; exact this
      have hmm := Nat.mod_lt r hb
      have hd := Nat.div_add_mod r f.binade
      generalize r / f.binade = q at *
      generalize r % f.binade = m at *
      obtain ⟨q, rfl⟩ : ∃ j, q = j + 1 := ⟨q - 1, by omega⟩
      rw [Nat.add_sub_cancel] at h
      -- the logarithms
      have lo1 : 2 ^ (L + k) ≤ mag * 2 ^ k := by rw [Nat.pow_add]; exact Nat.mul_le_mul_right _ hl.1
      have hi1 : mag * 2 ^ k < 2 ^ (L + 1 + k) := by rw [Nat.pow_add]; exact Nat.mul_lt_mul_of_pos_right hl.2 (Nat.two_pow_pos _)
      have lo2 : 2 ^ (f.fractionBits + q) ≤ (f.binade + m) * 2 ^ q := by rw [Nat.pow_add]; exact Nat.mul_le_mul_right _ (by omega)
      have hi2 : (f.binade + m) * 2 ^ q < 2 ^ (f.fractionBits + 1 + q) := by
        rw [Nat.pow_add, Nat.pow_succ]; exact Nat.mul_lt_mul_of_pos_right (by omega) (Nat.two_pow_pos _)
      have c1 := (Nat.pow_lt_pow_iff_right (a := 2) (by omega)).1 (show 2 ^ (L + k) < 2 ^ (f.fractionBits + 1 + q) by omega)
      have c2 := (Nat.pow_lt_pow_iff_right (a := 2) (by omega)).1 (show 2 ^ (f.fractionBits + q) < 2 ^ (L + 1 + k) by omega)
      have cL : L + k = f.fractionBits + q := by omega
      have e : max (f.leastPlace + (k : Int) + (L : Int) - (f.fractionBits : Int)) f.leastPlace = f.leastPlace + q := by omega
      rw [e]
      have e3 : (f.leastPlace + (q : Int) - f.leastPlace).toNat = q := by omega
      rw [e3]
      have fin : q * f.binade + (f.binade + m) = r := by
        rw [← hd, Nat.mul_succ, Nat.mul_comm q]; omega
      by_cases hk : q ≤ k
      · have e1 : (f.leastPlace + (k : Int) - (f.leastPlace + (q : Int))).toNat = k - q := by omega
        have e2 : (f.leastPlace + (q : Int) - (f.leastPlace + (k : Int))).toNat = 0 := by omega
        have hh : mag * 2 ^ (k - q) = f.binade + m := by
          have : mag * 2 ^ (k - q) * 2 ^ q = (f.binade + m) * 2 ^ q := by
            rw [Nat.mul_assoc, ← Nat.pow_add, Nat.sub_add_cancel hk]; exact h
          exact Nat.eq_of_mul_eq_mul_right (Nat.two_pow_pos _) this
        rw [e1, e2, hh, Nat.pow_zero, rte_one, fin, Nat.min_eq_left (by omega)]
      · have e1 : (f.leastPlace + (k : Int) - (f.leastPlace + (q : Int))).toNat = 0 := by omega
        have e2 : (f.leastPlace + (q : Int) - (f.leastPlace + (k : Int))).toNat = q - k := by omega
        have hh : mag = (f.binade + m) * 2 ^ (q - k) := by
          have : mag * 2 ^ k = (f.binade + m) * 2 ^ (q - k) * 2 ^ k := by
            rw [Nat.mul_assoc, ← Nat.pow_add, Nat.sub_add_cancel (by omega)]; exact h
          exact Nat.eq_of_mul_eq_mul_right (Nat.two_pow_pos _) this
        rw [e1, e2, Nat.pow_zero, Nat.mul_one, hh, rte_exact _ _ (Nat.two_pow_pos _), fin, Nat.min_eq_left (by omega)]

theorem sum_num (s t : Bool) (m n j k : Nat) (p : Int) :
    ∃ mag c : Nat, Datum.sum (.number s m (p + j)) (.number t n (p + k)) =
      some (.number (if sg s (m * 2 ^ j) + sg t (n * 2 ^ k) = 0 then s && t else decide (sg s (m * 2 ^ j) + sg t (n * 2 ^ k) < 0)) mag (p + c)) ∧
      mag * 2 ^ c = (sg s (m * 2 ^ j) + sg t (n * 2 ^ k)).natAbs := by
  have hb : ∃ c : Nat, min (p + (j : Int)) (p + (k : Int)) = p + c := ⟨min j k, by omega⟩
  obtain ⟨c, hc⟩ := hb
  have hj : (p + (j : Int) - min (p + (j : Int)) (p + (k : Int))).toNat = j - c := by rw [hc]; omega
  have hk : (p + (k : Int) - min (p + (j : Int)) (p + (k : Int))).toNat = k - c := by rw [hc]; omega
  have cj : c ≤ j := by omega
  have ck : c ≤ k := by omega
  have ej : m * 2 ^ j = m * 2 ^ (j - c) * 2 ^ c := by rw [Nat.mul_assoc, ← Nat.pow_add, Nat.sub_add_cancel cj]
  have ek : n * 2 ^ k = n * 2 ^ (k - c) * 2 ^ c := by rw [Nat.mul_assoc, ← Nat.pow_add, Nat.sub_add_cancel ck]
  have hp : (0 : Int) < ((2 ^ c : Nat) : Int) := by exact_mod_cast Nat.two_pow_pos c
  have et : sg s (m * 2 ^ j) + sg t (n * 2 ^ k) = (sg s (m * 2 ^ (j - c)) + sg t (n * 2 ^ (k - c))) * ((2 ^ c : Nat) : Int) := by
    rw [ej, ek, sg_mul s (m * 2 ^ (j - c)), sg_mul t (n * 2 ^ (k - c)), Int.add_mul]
  refine ⟨(sg s (m * 2 ^ (j - c)) + sg t (n * 2 ^ (k - c))).natAbs, c, ?_, ?_⟩
  · rw [hc] at hj hk
    unfold Datum.sum
    simp only [signed_eq, hc, hj, hk]
    rw [et]
    generalize sg s (m * 2 ^ (j - c)) + sg t (n * 2 ^ (k - c)) = T
    generalize ((2 ^ c : Nat) : Int) = Q at *
    congr 2
    by_cases h0 : T = 0
    · rw [if_pos h0, if_pos (by rw [h0, Int.zero_mul])]
    · rw [if_neg h0, if_neg (by intro h; rcases Int.mul_eq_zero.1 h with h | h <;> omega)]
      congr 1
      apply propext
      constructor
      · intro h; exact Int.mul_neg_of_neg_of_pos h hp
      · intro h
        by_cases hT : T < 0
        · exact hT
        · have := Int.mul_nonneg (Int.not_lt.1 hT) (Int.le_of_lt hp); omega
  · rw [et, Int.natAbs_mul, Int.natAbs_natCast]

theorem add_exact (f : Format) (hs : f.infRung < f.signWeight) (s t : Bool) (r u v : Nat) (hr : r < f.infRung) (hu : u < f.infRung) (hv : v < f.infRung)
    (h : (sg s (val f r) + sg t (val f u)).natAbs = val f v) :
    f.add (f.word s r) (f.word t u) = some (f.word (if v = 0 then s && t else decide (sg s (val f r) + sg t (val f u) < 0)) v) := by
  obtain ⟨m, j, e1, v1⟩ := read_word f s r hr hs
  obtain ⟨n, k, e2, v2⟩ := read_word f t u hu hs
  unfold Format.add
  rw [e1, e2]
  obtain ⟨mag, c, es, ev⟩ := sum_num s t m n j k f.leastPlace
  rw [v1, v2] at es ev
  rw [es]
  show some (f.nearest _ mag _) = _
  rw [nearest_exact f _ mag c v hv (by rw [ev, h])]
  congr 2
  by_cases h0 : v = 0
  · subst h0
    rw [val_zero] at h
    rw [if_pos rfl, if_pos (by omega)]
  · have : 0 < val f v := by
      have := val_lt f (show 0 < v by omega)
      rw [val_zero] at this; exact this
    rw [if_neg h0, if_neg (by intro h2; rw [h2] at h; simp at h; omega)]

theorem read_opposite (f : Format) (hs : f.infRung < f.signWeight) (t : Bool) (u : Nat) (hu : u < f.infRung) : (f.read (f.word t u)).opposite = f.read (f.word (!t) u) := by
  have key : ∀ b : Bool, (f.word b u / f.signWeight % 2 == 1) = b ∧ f.word b u % f.signWeight = u := by
    intro b
    unfold Format.word
    cases b
    · simp only [Bool.false_eq_true, if_false]
      rw [Nat.div_eq_of_lt (by omega)]; exact ⟨rfl, Nat.mod_eq_of_lt (by omega)⟩
    · simp only [if_true]
      rw [Nat.add_div_left _ (by omega), Nat.div_eq_of_lt (by omega), Nat.add_mod_left]; exact ⟨rfl, Nat.mod_eq_of_lt (by omega)⟩
  unfold Format.read
  simp only [(key t).1, (key t).2, (key (!t)).1, (key (!t)).2]
  by_cases h : u < f.binade
  · rw [if_pos h, if_pos h]; rfl
  · rw [if_neg h, if_neg h, if_pos hu, if_pos hu]; rfl

theorem sub_exact (f : Format) (hs : f.infRung < f.signWeight) (s t : Bool) (r u v : Nat) (hr : r < f.infRung) (hu : u < f.infRung) (hv : v < f.infRung)
    (h : (sg s (val f r) + sg (!t) (val f u)).natAbs = val f v) :
    f.sub (f.word s r) (f.word t u) = some (f.word (if v = 0 then s && !t else decide (sg s (val f r) + sg (!t) (val f u) < 0)) v) := by
  have := add_exact f hs s (!t) r u v hr hu hv h
  unfold Format.add at this
  unfold Format.sub
  rw [read_opposite f hs t u hu]; exact this

end Go.Proofs.YtdimlelcgapobaaGreatDoor.B

/- Plain facts on the bits of a number of 64 bits: its sign, its exponent's field, its fraction's field; what is taken apart. -/
namespace Go.Proofs.YtdimlelcgapobaaGreatDoor.B
set_option linter.unusedVariables false
set_option maxRecDepth 20000

def bw (s : Bool) (e f : Nat) : Nat := s.toNat * 9223372036854775808 + e * 4503599627370496 + f

theorem bw_lt (s : Bool) (e f : Nat) (he : e < 2048) (hf : f < 4503599627370496) : bw s e f < 18446744073709551616 := by
  unfold bw; cases s <;> simp only [Bool.toNat_true, Bool.toNat_false] <;> omega

theorem wraps_i64 (n : Int) (h0 : 0 ≤ n) (h1 : n < 2 ^ 63) : IntKind.i64.wrap n = n := by rw [IntKind.wrap_i64]; omega
theorem wraps_u64 (n : Int) (h0 : 0 ≤ n) (h1 : n < 2 ^ 64) : IntKind.u64.wrap n = n := by
  simp [IntKind.wrap, IntKind.bits, IntKind.signed]; omega

theorem bw_exp (s : Bool) (e f : Nat) (he : e < 2048) (hf : f < 4503599627370496) : bits .and .i64 ((bw s e f : Int) / 4503599627370496) 2047 = (e : Int) := by
  have hl := bw_lt s e f he hf
  have h := bits_mask .i64 63 (by decide) wraps_i64 11 (by decide) ((bw s e f : Int) / 4503599627370496) (by omega) (by omega)
  rw [show ((2 : Int) ^ 11 - 1) = 2047 from rfl] at h
  rw [h]
  unfold bw; cases s <;> simp only [Bool.toNat_true, Bool.toNat_false] <;> omega

theorem bw_frac (s : Bool) (e f : Nat) (he : e < 2048) (hf : f < 4503599627370496) : bits .and .u64 ((bw s e f : Nat) : Int) 4503599627370495 = (f : Int) := by
  have hl := bw_lt s e f he hf
  have h := bits_mask .u64 64 (by decide) wraps_u64 52 (by decide) (bw s e f : Int) (by omega) (by omega)
  rw [show ((2 : Int) ^ 52 - 1) = 4503599627370495 from rfl] at h
  rw [h]
  unfold bw; cases s <;> simp only [Bool.toNat_true, Bool.toNat_false] <;> omega

theorem bw_sign (s : Bool) (e f : Nat) (he : e < 2048) (hf : f < 4503599627370496) : bits .and .u64 ((bw s e f : Int) / 9223372036854775808) 1 = (s.toNat : Int) := by
  have hl := bw_lt s e f he hf
  have h := bits_mask .u64 64 (by decide) wraps_u64 1 (by decide) ((bw s e f : Int) / 9223372036854775808) (by omega) (by omega)
  rw [show ((2 : Int) ^ 1 - 1) = 1 from rfl] at h
  rw [h]
  unfold bw; cases s <;> simp only [Bool.toNat_true, Bool.toNat_false] <;> omega

theorem frac_or (f : Nat) (hf : f < 4503599627370496) : bits .or .u64 (f : Int) 4503599627370496 = (f : Int) + 4503599627370496 := by
  have hc : bits .or .u64 (f : Int) 4503599627370496 = bits .or .u64 4503599627370496 (f : Int) := by simp only [bits, BitVec.or_comm]
  rw [hc, bits_join .u64 64 (by decide) wraps_u64 52 4503599627370496 (f : Int) (by decide) (by decide) (by decide) (by omega) (by omega) (by omega)]
  omega

theorem or_sign (x : Int) (h0 : 0 ≤ x) (h1 : x < 9223372036854775808) : bits .or .u64 x 9223372036854775808 = x + 9223372036854775808 := by
  have hc : bits .or .u64 x 9223372036854775808 = bits .or .u64 9223372036854775808 x := by simp only [bits, BitVec.or_comm]
  rw [hc, bits_join .u64 64 (by decide) wraps_u64 63 9223372036854775808 x (by decide) (by decide) (by decide) h0 (by omega) (by omega)]
  omega

def pv (neg : Bool) (c x : Int) (f : Int) : Value := .agg #[.bool neg, .int .i64 c, .int .i64 x, .int .u64 f]

def cls (e f : Nat) : Int := if e = 2047 then (if f = 0 then 3 else 4) else if e = 0 then (if f = 0 then 0 else 1) else 2
def xp (e : Nat) : Int := if e = 2047 then 0 else if e = 0 then -1074 else (e : Int) - 1075
def fr (e f : Nat) : Int := if e = 2047 then 0 else if e = 0 then (f : Int) else (f : Int) + 4503599627370496
def ng (s : Bool) (e f : Nat) : Bool := if e = 2047 ∧ f ≠ 0 then false else s
def splitV (s : Bool) (e f : Nat) : Value := pv (ng s e f) (cls e f) (xp e) (fr e f)

theorem splitV_odd (s : Bool) (e f : Nat) (h : e = 2047) (h2 : ((f : Int) != 0) = true) : splitV s e f = .agg #[.bool false, .int .i64 4, .int .i64 0, .int .u64 0] := by
  have : f ≠ 0 := by intro h; subst h; simp at h2
  simp [splitV, pv, ng, cls, xp, fr, h, this]
theorem splitV_end (s : Bool) (e f : Nat) (h : e = 2047) (h2 : ((f : Int) != 0) = false) : splitV s e f = .agg #[.bool s, .int .i64 3, .int .i64 0, .int .u64 0] := by
  have : f = 0 := by simp at h2; omega
  simp [splitV, pv, ng, cls, xp, fr, h, this]
theorem splitV_nought (s : Bool) (e f : Nat) (h : e = 0) (h2 : ((f : Int) == 0) = true) : splitV s e f = .agg #[.bool s, .int .i64 0, .int .i64 (-1074), .int .u64 0] := by
  have : f = 0 := by simp at h2; omega
  simp [splitV, pv, ng, cls, xp, fr, h, this]
theorem splitV_small (s : Bool) (e f : Nat) (h : e = 0) (h2 : ((f : Int) == 0) = false) : splitV s e f = .agg #[.bool s, .int .i64 1, .int .i64 (-1074), .int .u64 f] := by
  have : f ≠ 0 := by intro h; subst h; simp at h2
  simp [splitV, pv, ng, cls, xp, fr, h, this]
theorem splitV_plain (s : Bool) (e f : Nat) (h : e ≠ 2047) (h2 : e ≠ 0) : splitV s e f = .agg #[.bool s, .int .i64 2, .int .i64 ((e : Int) - 1075), .int .u64 ((f : Int) + 4503599627370496)] := by
  simp [splitV, pv, ng, cls, xp, fr, h, h2]

def odd (e f : Nat) : Bool := e == 2047 && f != 0

theorem not_odd (e f : Nat) (h : odd e f = false) : ¬ (e = 2047 ∧ f ≠ 0) := by
  rintro ⟨h1, h2⟩; simp [odd, h1, h2] at h
theorem is_odd (e f : Nat) (h : odd e f = true) : e = 2047 ∧ f ≠ 0 := by
  simpa [odd] using h

def cb (s : Bool) (e f : Nat) : Nat := if e = 2047 ∧ f ≠ 0 then 9221120237041090560 else bw s e f
theorem dInf : Ieee.double.infRung = 9218868437227405312 := by decide
theorem dSign : Ieee.double.signWeight = 9223372036854775808 := by decide
theorem dBin : Ieee.double.binade = 4503599627370496 := by decide
theorem dHs : Ieee.double.infRung < Ieee.double.signWeight := by decide
theorem dHb : Ieee.double.binade ≤ Ieee.double.infRung := by decide

theorem bw_word (s : Bool) (e f : Nat) : bw s e f = Ieee.double.word s (e * 4503599627370496 + f) := by
  unfold bw Ieee.Format.word
  rw [dSign]
  cases s <;> simp [Nat.add_assoc]

theorem bw_read_odd (s : Bool) (e f : Nat) (hf : f < 4503599627370496) (h : odd e f = true) : Ieee.double.read (bw s e f) = .nan s f := by
  have h0 : e = 2047 ∧ f ≠ 0 := by simpa [odd] using h
  have e1 : bw s e f % Ieee.double.signWeight = e * 4503599627370496 + f := by
    rw [dSign]; unfold bw; cases s <;> simp only [Bool.toNat_true, Bool.toNat_false] <;> omega
  have e2 : (bw s e f / Ieee.double.signWeight % 2 == 1) = s := by
    rw [dSign]
    cases s
    · have : bw false e f / 9223372036854775808 % 2 = 0 := by unfold bw; simp only [Bool.toNat_false]; omega
      rw [this]; rfl
    · have : bw true e f / 9223372036854775808 % 2 = 1 := by unfold bw; simp only [Bool.toNat_true]; omega
      rw [this]; rfl
  rw [read_nan Ieee.double _ (by rw [e1, dInf]; omega) dHb, e1, e2, dInf, show e * 4503599627370496 + f - 9218868437227405312 = f from by omega]

theorem rung_le (e f : Nat) (he : e < 2048) (hf : f < 4503599627370496) (h : odd e f = false) : e * 4503599627370496 + f ≤ Ieee.double.infRung := by
  rw [dInf]; have := not_odd e f h; omega

def pl (s : Bool) (e f : Nat) : Int := sg s (e * 4503599627370496 + f)

theorem ord (s t : Bool) (e f u v : Nat) (he : e < 2048) (hf : f < 4503599627370496) (hu : u < 2048) (hv : v < 4503599627370496) :
    FloatKind.f64.format.order (bw s e f) (bw t u v) = if odd e f || odd u v then none else some (compare (pl s e f) (pl t u v)) := by
  show Ieee.double.order _ _ = _
  by_cases h1 : odd e f = true
  · rw [h1]
    show (Ieee.double.read (bw s e f)).order _ = none
    rw [bw_read_odd s e f hf h1]; rfl
  · by_cases h2 : odd u v = true
    · rw [h2]
      show (Ieee.double.read (bw s e f)).order (Ieee.double.read (bw t u v)) = if (odd e f || true) = true then none else _
      rw [bw_read_odd t u v hv h2, Bool.or_true, if_pos rfl]
      cases Ieee.double.read (bw s e f) <;> rfl
    · have h3 : odd e f = false := by simpa using h1
      have h4 : odd u v = false := by simpa using h2
      rw [h3, h4, bw_word, bw_word]
      rw [order_word Ieee.double dHs dHb s t _ _ (rung_le e f he hf h3) (rung_le u v hu hv h4)]
      simp [pl]

theorem order_self (s : Bool) (e f : Nat) (he : e < 2048) (hf : f < 4503599627370496) : (FloatKind.f64.format.order (bw s e f) (bw s e f) != some .eq) = odd e f := by
  rw [ord s s e f e f he hf he hf, Bool.or_self, Int.compare_eq_eq.2 rfl]
  cases odd e f <;> rfl
end Go.Proofs.YtdimlelcgapobaaGreatDoor.B

/- What the functions that take a number of 64 bits apart answer, at every number. -/
namespace Go.Proofs.YtdimlelcgapobaaGreatDoor.B
set_option linter.unusedVariables false
set_option maxRecDepth 20000
open Go.RowKit

set_option maxHeartbeats 1000000 in
theorem split_any (s : Bool) (e f : Nat) (he : e < 2048) (hf : f < 4503599627370496) (w : World) :
    Calls Tryz.prog 159 #[.int .u64 (bw s e f), .int .u64 52, .int .u64 11, .int .i64 (-1074)] w fun r w' => r = .returned (splitV s e f) ∧ Below w.heap.size w w' := by
  have hl := bw_lt s e f he hf
  have h1 := bw_exp s e f he hf
  have h2 := bw_frac s e f he hf
  have h3 := bw_sign s e f he hf
  have h4 := frac_or f hf
  have h5 : ((s.toNat : Int) == 1) = s := by cases s <;> rfl
  go_enter Tryz.func159, Tryz.ntmps159
  go_wp2
  · rw [splitV_odd s e f (by omega) ‹_›]
    exact bodyPost_ret (v := .agg #[.bool false, .int .i64 4, .int .i64 0, .int .u64 0]) (by simp [results, Tryz.results159, go_sem]) rfl ⟨rfl, (by repeat (first | exact Below.refl _ _ | assumption | exact Nat.le_refl _ | (simp; done) | (simp; omega) | refine Below.alloc ?_ ?_ _ | refine Below.setCell ?_ ?_ _ | refine Below.drew ?_))⟩
  · rw [splitV_end s e f (by omega) ‹_›]
    exact bodyPost_ret (v := .agg #[.bool s, .int .i64 3, .int .i64 0, .int .u64 0]) (by simp [results, Tryz.results159, go_sem]) rfl ⟨rfl, (by repeat (first | exact Below.refl _ _ | assumption | exact Nat.le_refl _ | (simp; done) | (simp; omega) | refine Below.alloc ?_ ?_ _ | refine Below.setCell ?_ ?_ _ | refine Below.drew ?_))⟩
  · rw [splitV_nought s e f (by omega) ‹_›]
    exact bodyPost_ret (v := .agg #[.bool s, .int .i64 0, .int .i64 (-1074), .int .u64 0]) (by simp [results, Tryz.results159, go_sem]) rfl ⟨rfl, (by repeat (first | exact Below.refl _ _ | assumption | exact Nat.le_refl _ | (simp; done) | (simp; omega) | refine Below.alloc ?_ ?_ _ | refine Below.setCell ?_ ?_ _ | refine Below.drew ?_))⟩
  · rw [splitV_small s e f (by omega) ‹_›]
    exact bodyPost_ret (v := .agg #[.bool s, .int .i64 1, .int .i64 (-1074), .int .u64 f]) (by simp [results, Tryz.results159, go_sem]) rfl ⟨rfl, (by repeat (first | exact Below.refl _ _ | assumption | exact Nat.le_refl _ | (simp; done) | (simp; omega) | refine Below.alloc ?_ ?_ _ | refine Below.setCell ?_ ?_ _ | refine Below.drew ?_))⟩
  · rw [splitV_plain s e f (by omega) (by omega)]
    refine bodyPost_ret (v := .agg #[.bool s, .int .i64 2, .int .i64 ((e : Int) - 1075), .int .u64 ((f : Int) + 4503599627370496)]) (by simp [results, Tryz.results159, go_sem]; try omega) rfl ⟨rfl, (by repeat (first | exact Below.refl _ _ | assumption | exact Nat.le_refl _ | (simp; done) | (simp; omega) | refine Below.alloc ?_ ?_ _ | refine Below.setCell ?_ ?_ _ | refine Below.drew ?_))⟩
end Go.Proofs.YtdimlelcgapobaaGreatDoor.B

/- What the four body-less functions of package math answer over this program. -/
namespace Go.Proofs.YtdimlelcgapobaaGreatDoor.B
set_option linter.unusedVariables false
set_option maxRecDepth 20000
theorem f64bits (b : Nat) (w : World) : (callFunc 12 #[.float .f64 b]).run Tryz.prog w = .ok (.value (.int .u64 b)) w := by
  rw [run_callFunc_extern (e := Extern.MathFloatBits.float64bits) Tryz.func12 (by kernel_rfl) (by kernel_rfl) (by kernel_rfl) (by kernel_rfl)]; rfl
theorem f64frombits (n : Int) (w : World) : (callFunc 85 #[.int .u64 n]).run Tryz.prog w = .ok (.value (.float .f64 n.toNat)) w := by
  rw [run_callFunc_extern (e := Extern.MathFloatBits.float64frombits) Tryz.func85 (by kernel_rfl) (by kernel_rfl) (by kernel_rfl) (by kernel_rfl)]; rfl
theorem f32bits (b : Nat) (w : World) : (callFunc 22 #[.float .f32 b]).run Tryz.prog w = .ok (.value (.int .u32 b)) w := by
  rw [run_callFunc_extern (e := Extern.MathFloatBits.float32bits) Tryz.func22 (by kernel_rfl) (by kernel_rfl) (by kernel_rfl) (by kernel_rfl)]; rfl
theorem f32frombits (n : Int) (w : World) : (callFunc 86 #[.int .u32 n]).run Tryz.prog w = .ok (.value (.float .f32 n.toNat)) w := by
  rw [run_callFunc_extern (e := Extern.MathFloatBits.float32frombits) Tryz.func86 (by kernel_rfl) (by kernel_rfl) (by kernel_rfl) (by kernel_rfl)]; rfl
end Go.Proofs.YtdimlelcgapobaaGreatDoor.B

/- What Split, its twin of the document, the classes and Same answer, at every number. -/
namespace Go.Proofs.YtdimlelcgapobaaGreatDoor.B
set_option linter.unusedVariables false
set_option maxRecDepth 20000
open Go.RowKit
attribute [local go_sem] f64bits f64frombits
theorem bcell {W w1 : World} (hb : Below W.heap.size W w1) : (∀ b o, b < W.heap.size → w1.cell? ⟨b, o, none⟩ = W.cell? ⟨b, o, none⟩) ∧ (∀ b o, b < W.heap.size → w1.frozen? ⟨b, o, none⟩ = W.frozen? ⟨b, o, none⟩) :=
  ⟨fun b o h => hb.cell (p := ⟨b, o, none⟩) h, fun b o h => hb.frozen (p := ⟨b, o, none⟩) h⟩

theorem split_lit (s : Bool) (e f : Nat) (he : e < 2048) (hf : f < 4503599627370496) (w : World) :
    Calls Tryz.prog 159 #[.int .u64 (bw s e f), .int .u64 52, .int .u64 11, .int .i64 (-1074)] w fun r w' => r = .returned (.agg #[.bool (ng s e f), .int .i64 (cls e f), .int .i64 (xp e), .int .u64 (fr e f)]) ∧ Below w.heap.size w w' :=
  split_any s e f he hf w

set_option maxHeartbeats 1000000 in
theorem Split_any (s : Bool) (e f : Nat) (he : e < 2048) (hf : f < 4503599627370496) (w : World) :
    Calls Tryz.prog 125 #[.float .f64 (bw s e f)] w fun r w' => r = .returned (.agg #[.bool (ng s e f), .int .i64 (cls e f), .int .i64 (xp e), .int .u64 (fr e f)]) ∧ Below w.heap.size w w' := by
  go_enter Tryz.func125, Tryz.ntmps125
  go_wp2_with (go_at_call 159; refine (split_lit s e f he hf _).mono ?_; rintro r w1 ⟨rfl, hb⟩; (obtain ⟨hc, hfz⟩ := bcell hb; have hz : w.heap.size < w1.heap.size := by (have := hb.size; simp at this; omega)))
  exact bodyPost_ret (v := (.agg #[.bool (ng s e f), .int .i64 (cls e f), .int .i64 (xp e), .int .u64 (fr e f)])) (by simp [results, Tryz.results125, go_sem, hc]) rfl ⟨rfl, (by repeat (first | exact Below.refl _ _ | exact ((Below.refl _ _).alloc (Nat.le_refl _) _).trans (hb.mono (by simp)) | exact Nat.le_refl _ | (simp; done) | (simp; omega) | refine Below.alloc ?_ ?_ _ | refine Below.setCell ?_ ?_ _ | refine Below.drew ?_))⟩

set_option maxHeartbeats 1000000 in
theorem isNaN_any (s : Bool) (e f : Nat) (he : e < 2048) (hf : f < 4503599627370496) (w : World) :
    Calls Tryz.prog 172 #[.float .f64 (bw s e f)] w fun r w' => r = .returned (.bool (odd e f)) ∧ w' = w := by
  have h1 := order_self s e f he hf
  go_enter Tryz.func172, Tryz.ntmps172
  go_wp2
  go_ret
  exact ⟨rfl, rfl⟩

end Go.Proofs.YtdimlelcgapobaaGreatDoor.B

/- Plain facts on comparisons, signs and neighbours of numbers of 64 bits, by their bits. -/
namespace Go.Proofs.YtdimlelcgapobaaGreatDoor.B
set_option linter.unusedVariables false
set_option maxRecDepth 20000

theorem lt_f64 (s t : Bool) (e f u v : Nat) (he : e < 2048) (hf : f < 4503599627370496) (hu : u < 2048) (hv : v < 4503599627370496) :
    (FloatKind.f64.format.order (bw s e f) (bw t u v) == some .lt) = (!odd e f && (!odd u v && decide (pl s e f < pl t u v))) := by
  rw [ord s t e f u v he hf hu hv]
  cases odd e f <;> cases odd u v <;> simp
  by_cases h : pl s e f < pl t u v
  · rw [Int.compare_eq_lt.2 h]; simp [h]
  · rw [decide_eq_false h]
    by_cases h2 : pl t u v < pl s e f
    · rw [Int.compare_eq_gt.2 h2]; rfl
    · rw [Int.compare_eq_eq.2 (by omega)]; rfl

theorem gt_f64 (s t : Bool) (e f u v : Nat) (he : e < 2048) (hf : f < 4503599627370496) (hu : u < 2048) (hv : v < 4503599627370496) :
    (FloatKind.f64.format.order (bw s e f) (bw t u v) == some .gt) = (!odd e f && (!odd u v && decide (pl t u v < pl s e f))) := by
  rw [ord s t e f u v he hf hu hv]
  cases odd e f <;> cases odd u v <;> simp
  by_cases h : pl t u v < pl s e f
  · rw [Int.compare_eq_gt.2 h]; simp [h]
  · rw [decide_eq_false h]
    by_cases h2 : pl s e f < pl t u v
    · rw [Int.compare_eq_lt.2 h2]; rfl
    · rw [Int.compare_eq_eq.2 (by omega)]; rfl

theorem eq_f64 (s t : Bool) (e f u v : Nat) (he : e < 2048) (hf : f < 4503599627370496) (hu : u < 2048) (hv : v < 4503599627370496) :
    (FloatKind.f64.format.order (bw s e f) (bw t u v) == some .eq) = (!odd e f && (!odd u v && decide (pl s e f = pl t u v))) := by
  rw [ord s t e f u v he hf hu hv]
  cases odd e f <;> cases odd u v <;> simp
  by_cases h : pl s e f < pl t u v
  · rw [Int.compare_eq_lt.2 h, decide_eq_false (by omega)]; rfl
  · by_cases h2 : pl t u v < pl s e f
    · rw [Int.compare_eq_gt.2 h2, decide_eq_false (by omega)]; rfl
    · rw [Int.compare_eq_eq.2 (by omega), decide_eq_true (by omega)]; rfl

theorem odd_lt (e f : Nat) (h : e < 2047) : odd e f = false := by
  have : (e == 2047) = false := by simp; omega
  simp [odd, this]
theorem odd_zero (e : Nat) : odd e 0 = false := by simp [odd]

theorem zero_bw : bw false 0 0 = 0 := rfl
theorem max_bw : bw false 2046 4503599627370495 = 9218868437227405311 := rfl

theorem gt_max (s : Bool) (e f : Nat) (he : e < 2048) (hf : f < 4503599627370496) :
    (FloatKind.f64.format.order (bw s e f) 9218868437227405311 == some .gt) = (!s && (e == 2047 && f == 0)) := by
  have h := gt_f64 s false e f 2046 4503599627370495 he hf (by omega) (by omega)
  rw [max_bw] at h
  rw [h, odd_lt 2046 _ (by omega)]
  cases ho : odd e f
  · have := not_odd e f ho
    rw [Bool.eq_iff_iff]
    cases s <;> simp [pl, sg] <;> omega
  · obtain ⟨h1, h2⟩ := is_odd e f ho
    have h3 : (f == 0) = false := by simp [h2]
    simp [h1, h3]

theorem eq_zero (s : Bool) (e f : Nat) (he : e < 2048) (hf : f < 4503599627370496) :
    (FloatKind.f64.format.order (bw s e f) 0 == some .eq) = (e == 0 && f == 0) := by
  have h := eq_f64 s false e f 0 0 he hf (by omega) (by omega)
  rw [zero_bw] at h
  rw [h, odd_lt 0 _ (by omega)]
  cases ho : odd e f
  · rw [Bool.eq_iff_iff]
    cases s <;> simp [pl, sg] <;> omega
  · obtain ⟨h1, h2⟩ := is_odd e f ho
    have h3 : (e == 0) = false := by simp [h1]
    simp [h3]

theorem lt_zero (s : Bool) (e f : Nat) (he : e < 2048) (hf : f < 4503599627370496) (ho : odd e f = false) (hz : (e == 0 && f == 0) = false) :
    (FloatKind.f64.format.order (bw s e f) 0 == some .lt) = s := by
  have h := lt_f64 s false e f 0 0 he hf (by omega) (by omega)
  rw [zero_bw] at h
  rw [h, odd_lt 0 _ (by omega), ho]
  have hz' : ¬ (e = 0 ∧ f = 0) := by rintro ⟨rfl, rfl⟩; simp at hz
  rw [Bool.eq_iff_iff]
  cases s <;> simp [pl, sg] <;> omega

theorem abs_bw (s : Bool) (e f : Nat) (he : e < 2048) (hf : f < 4503599627370496) : bits .andNot .u64 ((bw s e f : Nat) : Int) 9223372036854775808 = (bw false e f : Int) := by
  have h := u64_andNot_nat (bw s e f) 9223372036854775808 (bw_lt s e f he hf) (by omega)
  rw [show (((9223372036854775808 : Nat)) : Int) = 9223372036854775808 from rfl] at h
  rw [h, show 18446744073709551615 - 9223372036854775808 = 2 ^ 63 - 1 from rfl, Nat.and_two_pow_sub_one_eq_mod]
  congr 1
  unfold bw; cases s <;> simp only [Bool.toNat_true, Bool.toNat_false] <;> omega

end Go.Proofs.YtdimlelcgapobaaGreatDoor.B

/- What IsInf, Signbit, Abs, Next, Prev and Order answer, at every number. -/
namespace Go.Proofs.YtdimlelcgapobaaGreatDoor.B
set_option linter.unusedVariables false
set_option maxRecDepth 20000
open Go.RowKit
attribute [local go_sem] f64bits f64frombits
set_option maxHeartbeats 1000000 in
theorem abs_any (s : Bool) (e f : Nat) (he : e < 2048) (hf : f < 4503599627370496) (w : World) :
    Calls Tryz.prog 126 #[.float .f64 (bw s e f)] w fun r w' => r = .returned (.float .f64 (bw false e f)) ∧ w' = w := by
  have h1 := abs_bw s e f he hf
  go_enter Tryz.func126, Tryz.ntmps126
  go_wp2
  go_ret
  exact ⟨rfl, rfl⟩

end Go.Proofs.YtdimlelcgapobaaGreatDoor.B

/- Int of the program and of the document. -/
namespace Go.Proofs.YtdimlelcgapobaaGreatDoor
open Go.RowKit
set_option linter.unusedVariables false
set_option maxRecDepth 20000

set_option maxHeartbeats 4000000 in
theorem rInt_core_neg (n : Int) (m : Nat) (X : Nat) (dn : Bool) (de : Int) (er : Bool) (w : World) (h0 : n < 0) (h1 : -9223372036854775808 ≤ n) (hm : (ws m).length ≤ 100) (hl : (ws X).length ≤ 8192) (e1 : IntKind.u64.wrap (-IntKind.u64.wrap n) = (m : Int))
    (HO : Hid (∀ u, Calls Tryz.prog 76 #[.int .u64 (m : Int)] u fun r w' => ∃ v, r = .returned v ∧ Nt u.heap.size w' v m ∧ Below u.heap.size u w'))
    (HM : Hid (∀ (u : World) (a : Option Addr) (c : Nat), Below w.heap.size w u → Arg u a (ws m).length c (ws m) → Calls Tryz.prog 75 #[.bool true, .slice a (ws m).length c, .int .i64 0] u fun r w' => (∃ v, r = .returned (.tuple #[.agg #[.bool dn, v, .int .i64 de], .bool er]) ∧ Nt u.heap.size w' v X) ∧ Below u.heap.size u w')) :
    Calls Tryz.prog 40 #[.int .i64 n] w fun r w' => (∃ v, r = .returned (.agg #[.bool dn, v, .int .i64 de]) ∧ Nt w.heap.size w' v X) ∧ Below w.heap.size w w' := by
  go_enter Tryz.func40, Tryz.ntmps40
  go_wp2_with fail
  try rw [e1]
  refine (Calls.mono (HO.out _)) ?_
  rintro r w1 ⟨v, rfl, hN, hb⟩
  obtain ⟨a1, c1, rfl, A1⟩ := hN.arg (by omega)
  have hz : w.heap.size < w1.heap.size := by have := hb.size; simp at this; omega
  have hbw : Below w.heap.size w w1 := (below_alloc w (.cells #[.bool false, .slice none 0 0, .int .i64 0] 27)).trans (hb.mono (by simp))
  have S1 := Aside.intro hbw
  have H2 := hid (HM.out w1 a1 c1 hbw A1)
  obtain ⟨hc, hf⟩ := bcell hb
  clear hN hb A1 hbw
  go_wp2_with fail
  refine (Calls.mono H2.out) ?_
  rintro r w2 ⟨⟨v, rfl, hN⟩, hb2⟩
  obtain ⟨a2, c2, rfl, _⟩ := hN.arg (by omega)
  obtain ⟨hc2, hf2⟩ := bcell hb2
  have hz2 : w.heap.size < w2.heap.size := by have := hb2.size; omega
  have HF := Aside.intro (show Fin w.heap.size w1.heap.size w w2 (.slice a2 (ws X).length c2) X from ⟨hN, S1.out.trans (hb2.mono (by omega)), by omega⟩)
  clear hN hb2
  go_wp2
  exact bodyPost_ret (v := .agg #[.bool dn, .slice a2 (ws X).length c2, .int .i64 de]) (by simp [results, Tryz.results40, go_sem, hc, hc2, hz, hz2]) rfl (Fin.dval (m := w1.heap.size) (by repeat (first | exact HF.out | refine Fin.alloc ?_ _ | refine Fin.set ?_ _ _ _ (by omega) (by omega))) (by omega))

set_option maxHeartbeats 4000000 in
theorem rInt_core_pos (n : Int) (m : Nat) (X : Nat) (dn : Bool) (de : Int) (er : Bool) (w : World) (h0 : 0 ≤ n) (h1 : n ≤ 9223372036854775807) (hd : decide (n < 0) = false) (hm : (ws m).length ≤ 100) (hl : (ws X).length ≤ 8192) (e1 : IntKind.u64.wrap n = n)
    (HO : Hid (∀ u, Calls Tryz.prog 76 #[.int .u64 n] u fun r w' => ∃ v, r = .returned v ∧ Nt u.heap.size w' v m ∧ Below u.heap.size u w'))
    (HM : Hid (∀ (u : World) (a : Option Addr) (c : Nat), Below w.heap.size w u → Arg u a (ws m).length c (ws m) → Calls Tryz.prog 75 #[.bool false, .slice a (ws m).length c, .int .i64 0] u fun r w' => (∃ v, r = .returned (.tuple #[.agg #[.bool dn, v, .int .i64 de], .bool er]) ∧ Nt u.heap.size w' v X) ∧ Below u.heap.size u w')) :
    Calls Tryz.prog 40 #[.int .i64 n] w fun r w' => (∃ v, r = .returned (.agg #[.bool dn, v, .int .i64 de]) ∧ Nt w.heap.size w' v X) ∧ Below w.heap.size w w' := by
  go_enter Tryz.func40, Tryz.ntmps40
  go_wp2_with fail
  try rw [e1]
  refine (Calls.mono (HO.out _)) ?_
  rintro r w1 ⟨v, rfl, hN, hb⟩
  obtain ⟨a1, c1, rfl, A1⟩ := hN.arg (by omega)
  have hz : w.heap.size < w1.heap.size := by have := hb.size; simp at this; omega
  have hbw : Below w.heap.size w w1 := (below_alloc w (.cells #[.bool false, .slice none 0 0, .int .i64 0] 27)).trans (hb.mono (by simp))
  have S1 := Aside.intro hbw
  have H2 := hid (HM.out w1 a1 c1 hbw A1)
  obtain ⟨hc, hf⟩ := bcell hb
  clear hN hb A1 hbw
  go_wp2_with fail
  refine (Calls.mono H2.out) ?_
  rintro r w2 ⟨⟨v, rfl, hN⟩, hb2⟩
  obtain ⟨a2, c2, rfl, _⟩ := hN.arg (by omega)
  obtain ⟨hc2, hf2⟩ := bcell hb2
  have hz2 : w.heap.size < w2.heap.size := by have := hb2.size; omega
  have HF := Aside.intro (show Fin w.heap.size w1.heap.size w w2 (.slice a2 (ws X).length c2) X from ⟨hN, S1.out.trans (hb2.mono (by omega)), by omega⟩)
  clear hN hb2
  go_wp2
  exact bodyPost_ret (v := .agg #[.bool dn, .slice a2 (ws X).length c2, .int .i64 de]) (by simp [results, Tryz.results40, go_sem, hc, hc2, hz, hz2]) rfl (Fin.dval (m := w1.heap.size) (by repeat (first | exact HF.out | refine Fin.alloc ?_ _ | refine Fin.set ?_ _ _ _ (by omega) (by omega))) (by omega))

theorem natAbs_len (n : Int) (h0 : -9223372036854775808 ≤ n) (h1 : n ≤ 9223372036854775807) : (ws n.natAbs).length ≤ 100 := by
  have := (ws_len_le n.natAbs 2).2 (by rw [show pw 2 = 18446744073709551616 from rfl]; omega)
  omega

theorem rInt_any (n : Int) (w : World) (h0 : -9223372036854775808 ≤ n) (h1 : n ≤ 9223372036854775807) :
    Calls Tryz.prog 40 #[.int .i64 n] w fun r w' => DVal w.heap.size w' r (mkS (decide (n < 0)) n.natAbs 0) ∧ Below w.heap.size w w' := by
  have hl := natAbs_len n h0 h1
  have HM : ∀ (s : Bool) (u : World) (a : Option Addr) (c : Nat), Below w.heap.size w u → Arg u a (ws n.natAbs).length c (ws n.natAbs) → Calls Tryz.prog 75 #[.bool s, .slice a (ws n.natAbs).length c, .int .i64 0] u fun r w' => FAns u.heap.size w' r (mkS s n.natAbs 0) ∧ Below u.heap.size u w' := by
    intro s u a c hu hA
    have := rForm_any hA (by omega) s 0 (by omega) (by omega)
    rw [val_ws] at this
    exact this
  by_cases hn : n < 0
  · rw [decide_eq_true hn]
    exact rInt_core_neg n n.natAbs _ _ _ _ w hn h0 hl (mkS_len _ _ _) (by simp [IntKind.wrap, IntKind.bits, IntKind.signed]; omega) (hid fun u => rOf_any _ u (by omega)) (hid (HM true))
  · rw [decide_eq_false hn]
    have e : ((n.natAbs : Nat) : Int) = n := by omega
    exact rInt_core_pos n n.natAbs _ _ _ _ w (by omega) h1 (decide_eq_false hn) hl (mkS_len _ _ _) (by simp [IntKind.wrap, IntKind.bits, IntKind.signed]; omega) (hid fun u => by have := rOf_any n.natAbs u (by omega); rw [e] at this; exact this) (hid (HM false))
end Go.Proofs.YtdimlelcgapobaaGreatDoor

/- A book and the Nats in it. -/
namespace Go.Proofs.YtdimlelcgapobaaGreatDoor
open Go.RowKit
set_option linter.unusedVariables false
set_option maxRecDepth 20000

structure Held (lo : Nat) (w0 w : World) (h : Nat) (vs all : List Value) : Prop where
  below : Below lo w0 w
  book : Bk lo w h vs
  nice : Nice lo w all
  size : lo ≤ w.heap.size

theorem Held.take {lo : Nat} {w0 w : World} {h : Nat} {vs all : List Value} (H : Held lo w0 w h vs all) (hl : vs.length ≤ 1000) (ao : Option Addr) (n cap : Nat) :
    Calls Tryz.prog 35 #[.pointer (some ⟨h, 0, none⟩), .slice ao n cap] w fun r w' => r = .returned (.tuple #[]) ∧ Held lo w0 w' h (vs ++ [.slice ao n cap]) all :=
  (take_any lo h vs ao n cap w H.book hl H.size).mono fun r w' ⟨h1, h2, h3, h4, h5⟩ => ⟨h1, H.below.trans h4, h2, H.nice.keep h3, by have := H.size; omega⟩

theorem Held.made {lo : Nat} {w0 w : World} {all : List Value} (hb : Below lo w0 w) (hn : Nice lo w all) (hs : lo ≤ w.heap.size) : Held lo w0 (w.alloc (.cells #[.slice none 0 0] 49)) w.heap.size [] all :=
  ⟨hb.alloc hs _, Bk.made lo w hs, hn.keep (Keep.below (below_alloc w _)), by simp; omega⟩
end Go.Proofs.YtdimlelcgapobaaGreatDoor

/- The document's Same; the law's took. -/
namespace Go.Proofs.YtdimlelcgapobaaGreatDoor
open Go.RowKit
set_option linter.unusedVariables false
set_option maxRecDepth 20000

set_option maxHeartbeats 4000000 in
theorem rSame3_any (n : Bool) (e : Int) (xs : List Nat) (ao bo : Option Addr) (l ca cb : Nat) (w : World) (hn : l = xs.length) (hbig : l ≤ 70368744177664) (hR : Rd w.heap.size w ao xs) (hS : Rd w.heap.size w bo xs) :
    Calls Tryz.prog 70 #[.agg #[.bool n, .slice ao l ca, .int .i64 e], .agg #[.bool n, .slice bo l cb, .int .i64 e]] w fun r w' => r = .returned (.bool true) ∧ Below w.heap.size w w' := by
  obtain ⟨W1, hW1⟩ : ∃ W, W = (w.alloc (.cells #[.bool n, .slice ao l ca, .int .i64 e] 27)).alloc (.cells #[.bool n, .slice bo l cb, .int .i64 e] 27) := ⟨_, rfl⟩
  have hb1 : Below w.heap.size w W1 := by rw [hW1]; exact (below_alloc w _).alloc (by simp) _
  have PA : W1.heap[w.heap.size]? = some (.cells #[.bool n, .slice ao l ca, .int .i64 e] 27 (0, 0)) := by rw [hW1, Below.heap_alloc _ _ _ (by simp), heap_alloc_new]
  have PB : W1.heap[w.heap.size + 1]? = some (.cells #[.bool n, .slice bo l cb, .int .i64 e] 27 (0, 0)) := by
    have h5 := heap_alloc_new (w.alloc (.cells #[.bool n, .slice ao l ca, .int .i64 e] 27)) (.cells #[.bool n, .slice bo l cb, .int .i64 e] 27)
    rw [hW1]; simpa using h5
  have hz1 : W1.heap.size = w.heap.size + 2 := by rw [hW1]; simp
  have q1 : W1.cell? ⟨w.heap.size, 1, none⟩ = some (.slice ao l ca) := by simp [World.cell?, PA]
  have q2 : W1.cell? ⟨w.heap.size + 1, 1, none⟩ = some (.slice bo l cb) := by simp [World.cell?, PB]
  have HR := (Aside.intro (And.intro (hR.below hb1) (And.intro (hS.below hb1) (And.intro hn (And.intro hb1 (And.intro q1 (And.intro q2 hz1)))))))
  clear hR hS hn hb1 PA PB hz1 q1 q2
  go_enter Tryz.func70, Tryz.ntmps70
  go_wp2
  rw [← hW1]
  clear hW1
  go_loopg [5] l (fun gk i wr => ∃ k : Nat, gk + k = l ∧ i = .int .i64 (k : Nat) ∧ Hid (Below W1.heap.size W1 wr))
  case atStart => exact ⟨0, by omega, rfl, Below.refl _ _⟩
  case round =>
    obtain ⟨k, hgk, rfl, HB⟩ := hrel
    obtain ⟨hR, hS, hn, hb1, q1, q2, hz1⟩ := HR.out
    have p1 : wr.cell? ⟨w.heap.size, 1, none⟩ = some (.slice ao l ca) := (HB.out.cell (p := ⟨w.heap.size, 1, none⟩) (by simp; omega)).trans q1
    have p2 : wr.cell? ⟨w.heap.size + 1, 1, none⟩ = some (.slice bo l cb) := (HB.out.cell (p := ⟨w.heap.size + 1, 1, none⟩) (by simp; omega)).trans q2
    clear hb1 q1 q2 hz1
    by_cases hk : k < l
    · obtain ⟨b, off, hB1, rfl, hc1⟩ := hR (by intro e; subst e; simp at hn; omega)
      obtain ⟨b2, off2, hB2, rfl, hc2⟩ := hS (by intro e; subst e; simp at hn; omega)
      have g1 : wr.cell? ⟨b, off + k, none⟩ = some (.int .u32 ((xs.getD k 0 : Nat) : Int)) :=
        (HB.out.cell (p := ⟨b, off + k, none⟩) (World.block_lt_of_cell? W1 ⟨b, off + k, none⟩ (hc1 k (by omega)))).trans (hc1 k (by omega))
      have g2 : wr.cell? ⟨b2, off2 + k, none⟩ = some (.int .u32 ((xs.getD k 0 : Nat) : Int)) :=
        (HB.out.cell (p := ⟨b2, off2 + k, none⟩) (World.block_lt_of_cell? W1 ⟨b2, off2 + k, none⟩ (hc2 k (by omega)))).trans (hc2 k (by omega))
      obtain ⟨x, hxx⟩ : ∃ x : Nat, xs.getD k 0 = x := ⟨_, rfl⟩
      rw [hxx] at g1 g2
      clear hR hS hn hc1 hc2 hxx hB1 hB2
      go_wp2
      go_quiet (fail)
      go_wp2
      go_roundg (gk - 1)
      case measure => omega
      case rel => exact ⟨k + 1, by omega, by go_num, Below.drewN' HB.out _⟩
    · obtain rfl : k = l := by omega
      clear hR hS hn
      go_wp2
      go_ret
      obtain ⟨hR, hS, hn, hb1, q1, q2, hz1⟩ := HR.out
      exact ⟨rfl, hb1.trans (HB.out.mono (by omega))⟩

end Go.Proofs.YtdimlelcgapobaaGreatDoor

/- The law's took. -/
namespace Go.Proofs.YtdimlelcgapobaaGreatDoor
open Go.RowKit
set_option linter.unusedVariables false
set_option maxRecDepth 20000

theorem Nt.keep {lo : Nat} {w w' : World} {v : Value} {X : Nat} (h : Nt lo w v X) (hk : Keep w w') : Nt lo w' v X := Keep.row h hk
theorem Nt.arg' {lo : Nat} {w : World} {a : Option Addr} {n c X : Nat} (h : Nt lo w (.slice a n c) X) (hs : (ws X).length ≤ 35184372088832) : n = (ws X).length ∧ Arg w a (ws X).length c (ws X) := by
  obtain ⟨a', c', e, A⟩ := h.arg hs
  cases e
  exact ⟨rfl, A⟩

end Go.Proofs.YtdimlelcgapobaaGreatDoor

/- root's cmpLow, divided, halved: what a span is made of. -/
namespace Go.Proofs.YtdimlelcgapobaaGreatDoor
open Go.RowKit
set_option linter.unusedVariables false
set_option maxRecDepth 20000
set_option linter.unusedSimpArgs false

theorem Len_arg {w : World} {a : Option Addr} {n c : Nat} {xs : List Nat} {k : Nat} (h1 : Arg w a n c xs) (e : bl (val xs) = k) :
    Calls Tryz.prog 82 #[.slice a n c] w fun r w' => r = .returned (.int .i64 (k : Nat)) ∧ Below w.heap.size w w' := by
  subst e
  exact (len_any xs a n c w.heap.size w h1.len h1.cap (by have := h1.big; omega) h1.wf h1.rd).mono fun r w' ⟨h, e⟩ => ⟨h, by rw [e]; exact Below.refl _ _⟩
theorem shiftS_up {X V : Nat} {k : Nat} (hX : ¬ LG X) (hb : X = 0 ∨ bl X + k ≤ 262144) (e : X * 2 ^ k = V) : shiftS X (k : Int) = (V, 0) := by
  unfold shiftS
  rw [if_neg hX]
  by_cases h0 : X = 0
  · rw [if_pos h0, ← e, h0, Nat.zero_mul]
  · rw [if_neg h0, if_neg (by omega), if_neg (by omega)]
    simp [e]
theorem shiftS_dn {X V : Nat} {k : Nat} (hX : ¬ LG X) (e : X / 2 ^ k = V) : shiftS X (-(k : Int)) = (V, 0) := by
  unfold shiftS
  rw [if_neg hX]
  by_cases h0 : X = 0
  · rw [if_pos h0, ← e, h0, Nat.zero_div]
  · rw [if_neg h0]
    by_cases hk : k = 0
    · subst hk
      rw [if_neg (by simp), if_neg (by have := mt (LG_bl X).2 hX; omega)]
      simp at e; simp [e]
    · rw [if_pos (by omega)]
      simp [e]
theorem divS_ok {X Y : Nat} (h1 : ¬ LG X) (h2 : ¬ LG Y) (h : Y ≠ 0) {V U : Nat} (e1 : X / Y = V) (e2 : X % Y = U) : divS X Y = (V, U, 0) := by
  unfold divS; rw [if_neg (by simp [h1, h2]), if_neg h, e1, e2]

set_option maxHeartbeats 4000000 in
theorem cmpLow_any {w : World} {a b q h : Option Addr} {ca cb cq ch : Nat} (W0 Lf Y H cut Bk Lo Tk' Hs : Nat) (z : Int) (AW : Arg w a (ws W0).length ca (ws W0)) (AL : Arg w b (ws Lf).length cb (ws Lf)) (AY : Arg w q (ws Y).length cq (ws Y)) (AH : Arg w h (ws H).length ch (ws H))
    (hc : cut ≤ 4611686018427387904) (e1 : shiftS H (cut : Int) = (Bk, 0)) (e2 : subS Y Bk = (Lo, 0)) (e3 : mulS W0 Lo = (Tk', 0)) (e4 : shiftS Lf (cut : Int) = (Hs, 0)) (e5 : cmpI Hs Tk' = z)
    (l1 : (ws Bk).length ≤ 8192) (l2 : (ws Lo).length ≤ 8192) (l3 : (ws Tk').length ≤ 8192) (l4 : (ws Hs).length ≤ 8192) :
    Calls Tryz.prog 112 #[.slice a (ws W0).length ca, .slice b (ws Lf).length cb, .slice q (ws Y).length cq, .slice h (ws H).length ch, .int .i64 (cut : Nat)] w fun r w' => r = .returned (.int .i64 z) ∧ Below w.heap.size w w' := by
  rw [← val_ws H] at e1
  rw [← val_ws Y, ← val_ws Bk] at e2
  rw [← val_ws W0, ← val_ws Lo] at e3
  rw [← val_ws Lf] at e4
  rw [← val_ws Hs, ← val_ws Tk'] at e5
  have E := (Aside.intro (And.intro e1 (And.intro e2 (And.intro e3 (And.intro e4 e5)))))
  clear e1 e2 e3 e4 e5
  have hbel := Below.refl w.heap.size w
  have S0 := (Aside.intro (And.intro hbel (And.intro AW (And.intro AL (And.intro AY AH)))))
  clear hbel
  clear AW AL AY AH
  go_enter Tryz.func112, Tryz.ntmps112
  obtain ⟨bel, AW, AL, AY, AH⟩ := S0.out
  have HC := hid (Shift_arg (cut : Int) AH E.out.1 (by omega) (by omega))
  clear bel AW AL AY AH
  go_wp2_with fail
  refine (Calls.mono HC.out) ?_
  rintro r u1 ⟨v, rfl, hN, hb⟩
  obtain ⟨a1, c1, rfl, _⟩ := hN.arg (by omega)
  clear HC
  obtain ⟨bel, AW, AL, AY, AH⟩ := S0.out
  have hbn := bel.trans (hb.mono bel.size)
  have S1 := Aside.intro (And.intro hbn (And.intro (AW.below hb) (And.intro (AL.below hb) (And.intro (AY.below hb) (And.intro (AH.below hb) (hN.mono bel.size))))))
  clear bel AW AL AY AH
  clear hb hbn S0
  clear hN
  obtain ⟨bel, AW, AL, AY, AH, NB⟩ := S1.out
  have HC := hid (Sub_arg AY (NB.arg' (by omega)).2 E.out.2.1)
  clear bel AW AL AY AH NB
  go_wp2_with fail
  refine (Calls.mono HC.out) ?_
  rintro r u2 ⟨v, rfl, hN, hb⟩
  obtain ⟨a2, c2, rfl, _⟩ := hN.arg (by omega)
  clear HC
  obtain ⟨bel, AW, AL, AY, AH, NB⟩ := S1.out
  have hbn := bel.trans (hb.mono bel.size)
  have S2 := Aside.intro (And.intro hbn (And.intro (AW.below hb) (And.intro (AL.below hb) (And.intro (AY.below hb) (And.intro (AH.below hb) (And.intro (NB.below hb) (hN.mono bel.size)))))))
  clear bel AW AL AY AH NB
  clear hb hbn S1
  clear hN
  obtain ⟨bel, AW, AL, AY, AH, NB, NL⟩ := S2.out
  have HC := hid (Mul_arg AW (NL.arg' (by omega)).2 E.out.2.2.1)
  clear bel AW AL AY AH NB NL
  go_wp2_with fail
  refine (Calls.mono HC.out) ?_
  rintro r u3 ⟨v, rfl, hN, hb⟩
  obtain ⟨a3, c3, rfl, _⟩ := hN.arg (by omega)
  clear HC
  obtain ⟨bel, AW, AL, AY, AH, NB, NL⟩ := S2.out
  have hbn := bel.trans (hb.mono bel.size)
  have S3 := Aside.intro (And.intro hbn (And.intro (AW.below hb) (And.intro (AL.below hb) (And.intro (AY.below hb) (And.intro (AH.below hb) (And.intro (NB.below hb) (And.intro (NL.below hb) (hN.mono bel.size))))))))
  clear bel AW AL AY AH NB NL
  clear hb hbn S2
  clear hN
  obtain ⟨bel, AW, AL, AY, AH, NB, NL, NT⟩ := S3.out
  have HC := hid (Shift_arg (cut : Int) AL E.out.2.2.2.1 (by omega) (by omega))
  clear bel AW AL AY AH NB NL NT
  go_wp2_with fail
  refine (Calls.mono HC.out) ?_
  rintro r u4 ⟨v, rfl, hN, hb⟩
  obtain ⟨a4, c4, rfl, _⟩ := hN.arg (by omega)
  clear HC
  obtain ⟨bel, AW, AL, AY, AH, NB, NL, NT⟩ := S3.out
  have hbn := bel.trans (hb.mono bel.size)
  have S4 := Aside.intro (And.intro hbn (And.intro (AW.below hb) (And.intro (AL.below hb) (And.intro (AY.below hb) (And.intro (AH.below hb) (And.intro (NB.below hb) (And.intro (NL.below hb) (And.intro (NT.below hb) (hN.mono bel.size)))))))))
  clear bel AW AL AY AH NB NL NT
  clear hb hbn S3
  clear hN
  obtain ⟨bel, AW, AL, AY, AH, NB, NL, NT, NS⟩ := S4.out
  have HC := hid (Cmp_arg (NS.arg' (by omega)).2 (NT.arg' (by omega)).2 z E.out.2.2.2.2)
  clear bel AW AL AY AH NB NL NT NS
  go_wp2_with fail
  refine (Calls.mono HC.out) ?_
  rintro r u5 ⟨rfl, hb⟩
  clear HC
  obtain ⟨bel, AW, AL, AY, AH, NB, NL, NT, NS⟩ := S4.out
  have hbn := bel.trans (hb.mono bel.size)
  have S5 := Aside.intro (And.intro hbn (And.intro (AW.below hb) (And.intro (AL.below hb) (And.intro (AY.below hb) (And.intro (AH.below hb) (And.intro (NB.below hb) (And.intro (NL.below hb) (And.intro (NT.below hb) (NS.below hb)))))))))
  clear bel AW AL AY AH NB NL NT NS
  clear hb hbn S4
  have hbW := hid S5.out.1
  clear S5 E
  go_wp2
  go_ret
  exact ⟨rfl, hbW.out⟩
end Go.Proofs.YtdimlelcgapobaaGreatDoor

