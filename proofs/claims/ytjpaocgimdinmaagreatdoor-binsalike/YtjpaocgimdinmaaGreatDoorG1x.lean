/- Slices of a number, plainly. -/
import Derived.Test.YtjpaocgimdinmaaGreatDoorM1x
import Derived.Test.YtjpaocgimdinmaaGreatDoorW8x
import Derived.Deep.RegionHeld
import Derived.Laws.BitsLemmas
import Derived.Deep.RegionHeld3
import Derived.LoopN
namespace Go.Proofs.YtjpaocgimdinmaaGreatDoor
set_option linter.unusedVariables false
set_option maxRecDepth 20000
set_option linter.unusedSimpArgs false

/-- The slice of a size in the bin t. -/
def sl (a t : Nat) : Nat := a / 2 ^ (32 * t) % 4294967296
/-- Where its highest slice lies; -1 without one. -/
def tp (a : Nat) : Int := if a = 0 then -1 else ((a.log2 / 32 : Nat) : Int)
theorem pw32 (t : Nat) : 2 ^ (32 * (t + 1)) = 4294967296 * 2 ^ (32 * t) := by
  rw [show 32 * (t + 1) = 32 + 32 * t by omega, Nat.pow_add]
theorem sl_lt (a t : Nat) : sl a t < 4294967296 := Nat.mod_lt _ (by decide)
theorem sl_add (a t : Nat) : a % 2 ^ (32 * (t + 1)) = a % 2 ^ (32 * t) + sl a t * 2 ^ (32 * t) := by
  unfold sl
  rw [pw32, Nat.mul_comm 4294967296, Nat.mod_mul, Nat.mul_comm (2 ^ (32 * t))]
theorem sl_shift (N m k : Nat) : sl (N * 2 ^ (32 * m)) (m + k) = sl N k := by
  unfold sl
  rw [show 32 * (m + k) = 32 * m + 32 * k by omega, Nat.pow_add, ← Nat.div_div_eq_div_mul, Nat.mul_div_cancel _ (Nat.two_pow_pos _)]
theorem sl_low (N m t : Nat) (h : t < m) : sl (N * 2 ^ (32 * m)) t = 0 := by
  unfold sl
  obtain ⟨d, rfl⟩ : ∃ d, m = t + (d + 1) := ⟨m - t - 1, by omega⟩
  rw [show 32 * (t + (d + 1)) = 32 * t + 32 * (d + 1) by omega, Nat.pow_add, Nat.mul_comm (2 ^ (32 * t)), ← Nat.mul_assoc, Nat.mul_div_cancel _ (Nat.two_pow_pos _), pw32, Nat.mul_left_comm]
  exact Nat.mul_mod_right _ _
theorem sl_high (a t : Nat) (h : a < 2 ^ (32 * t)) : sl a t = 0 := by
  unfold sl; rw [Nat.div_eq_of_lt h]
theorem tp_lt (a : Nat) (t : Nat) : tp a < t ↔ a < 2 ^ (32 * t) := by
  unfold tp
  by_cases h : a = 0
  · rw [if_pos h, h]
    have := Nat.two_pow_pos (32 * t)
    constructor <;> intro _ <;> omega
  · rw [if_neg h, ← Nat.log2_lt h]
    omega
theorem tp_ge (a : Nat) : -1 ≤ tp a := by
  unfold tp; split <;> omega
theorem sl_above (a t : Nat) (h : tp a < t) : sl a t = 0 := sl_high a t ((tp_lt a t).1 h)
theorem sl_top (a t : Nat) (h : tp a = t) : sl a t ≠ 0 := by
  have h1 : a < 2 ^ (32 * (t + 1)) := (tp_lt a (t + 1)).1 (by omega)
  have h2 : ¬ a < 2 ^ (32 * t) := fun q => by have := (tp_lt a t).2 q; omega
  unfold sl
  rw [pw32] at h1
  have h3 : a / 2 ^ (32 * t) < 4294967296 := Nat.div_lt_of_lt_mul (by rw [Nat.mul_comm]; exact h1)
  rw [Nat.mod_eq_of_lt h3]
  have := Nat.div_pos (Nat.le_of_not_lt h2) (Nat.two_pow_pos (32 * t))
  omega
theorem tp_iff (a t : Nat) (h0 : sl a t ≠ 0) (h1 : ∀ u, t < u → sl a u = 0) : tp a = t := by
  by_cases h : tp a < t
  · exact absurd (sl_above a t h) h0
  · obtain ⟨u, hu⟩ : ∃ u : Nat, tp a = u := ⟨(tp a).toNat, by omega⟩
    have := sl_top a u hu
    by_cases q : t < u
    · exact absurd (h1 u q) this
    · omega
/-- The same with a sign. -/
def ss (z t : Int) : Int := if t < 0 then 0 else if z < 0 then -((sl z.natAbs t.toNat : Nat) : Int) else ((sl z.natAbs t.toNat : Nat) : Int)
theorem ss_abs (z t : Int) : (ss z t).natAbs < 4294967296 := by
  have := sl_lt z.natAbs t.toNat
  unfold ss
  split
  · decide
  · split <;> omega
theorem ss_above (z t : Int) (h : tp z.natAbs < t) : ss z t = 0 := by
  unfold ss
  have := tp_ge z.natAbs
  have e := sl_above z.natAbs t.toNat (by omega)
  rw [e]
  split
  · rfl
  · split <;> rfl
theorem ss_neg (z t : Int) (h : t < 0) : ss z t = 0 := by unfold ss; rw [if_pos h]
/-- What the bins count, and the top. -/
def SL : List Int → Int → Int
  | [], _ => 0
  | z :: L, t => ss z t + SL L t
def tL : List Int → Int
  | [] => -1
  | z :: L => max (tp z.natAbs) (tL L)
theorem SL_append (L M : List Int) (t : Int) : SL (L ++ M) t = SL L t + SL M t := by
  induction L with
  | nil => simp [SL]
  | cons z L ih => simp only [List.cons_append, SL]; omega
theorem tL_ge (L : List Int) : -1 ≤ tL L := by
  induction L with
  | nil => simp [tL]
  | cons z M ih => simp only [tL]; omega
theorem tL_append (L M : List Int) : tL (L ++ M) = max (tL L) (tL M) := by
  induction L with
  | nil =>
    have := tL_ge M
    simp only [List.nil_append, tL]; omega
  | cons z L ih => simp only [List.cons_append, tL]; omega
theorem SL_perm {L M : List Int} (h : L.Perm M) (t : Int) : SL L t = SL M t := by
  induction h with
  | nil => rfl
  | cons z _ ih => simp only [SL]; omega
  | swap x y l => simp only [SL]; omega
  | trans _ _ i1 i2 => omega
theorem tL_perm {L M : List Int} (h : L.Perm M) : tL L = tL M := by
  induction h with
  | nil => rfl
  | cons z _ ih => simp only [tL]; omega
  | swap x y l => simp only [tL]; omega
  | trans _ _ i1 i2 => omega
theorem SL_above (L : List Int) (t : Int) (h : tL L < t) : SL L t = 0 := by
  induction L with
  | nil => rfl
  | cons z L ih =>
    simp only [tL] at h
    simp only [SL]
    rw [ss_above z t (by omega), ih (by omega)]; rfl
theorem SL_neg (L : List Int) (t : Int) (h : t < 0) : SL L t = 0 := by
  induction L with
  | nil => rfl
  | cons z L ih => simp only [SL]; rw [ss_neg z t h, ih]; rfl
theorem SL_abs (L : List Int) (t : Int) : (SL L t).natAbs ≤ L.length * 4294967296 := by
  induction L with
  | nil => simp [SL]
  | cons z L ih =>
    have := ss_abs z t
    simp only [SL, List.length_cons]
    omega
/-- A number that is nought makes no top, and others do. -/
theorem tp_none (a : Nat) : tp a = -1 ↔ a = 0 := by
  unfold tp
  constructor
  · intro h; by_cases q : a = 0
    · exact q
    · rw [if_neg q] at h; omega
  · intro h; rw [if_pos h]
theorem tL_none (L : List Int) (h : tL L = -1) : ∀ z ∈ L, z = 0 := by
  induction L with
  | nil => intro z hz; cases hz
  | cons y L ih =>
    simp only [tL] at h
    have h1 := tp_ge y.natAbs
    have h2 := tL_ge L
    intro z hz
    rcases List.mem_cons.1 hz with rfl | hz
    · have := (tp_none z.natAbs).1 (by omega); omega
    · exact ih (by omega) z hz
/-- The sum, in units of the lowest bin. -/
def sumL : List Int → Int
  | [] => 0
  | z :: L => z + sumL L
theorem sumL_append (L M : List Int) : sumL (L ++ M) = sumL L + sumL M := by
  induction L with
  | nil => simp [sumL]
  | cons z L ih => simp only [List.cons_append, sumL]; omega
theorem sumL_perm {L M : List Int} (h : L.Perm M) : sumL L = sumL M := by
  induction h with
  | nil => rfl
  | cons z _ ih => simp only [sumL]; omega
  | swap x y l => simp only [sumL]; omega
  | trans _ _ i1 i2 => omega
/-- What stands below a bin. -/
def lowZ (z : Int) (c : Nat) : Int := if z < 0 then -((z.natAbs % 2 ^ (32 * c) : Nat) : Int) else ((z.natAbs % 2 ^ (32 * c) : Nat) : Int)
theorem lowZ_abs (z : Int) (c : Nat) : (lowZ z c).natAbs < 2 ^ (32 * c) := by
  have := Nat.mod_lt z.natAbs (Nat.two_pow_pos (32 * c))
  unfold lowZ; split <;> omega
theorem lowZ_succ (z : Int) (c : Nat) : lowZ z (c + 1) = lowZ z c + ss z c * ((2 ^ (32 * c) : Nat) : Int) := by
  have e : ss z c = if z < 0 then -((sl z.natAbs c : Nat) : Int) else ((sl z.natAbs c : Nat) : Int) := by
    unfold ss; rw [if_neg (by omega), Int.toNat_natCast]
  rw [e]
  unfold lowZ
  rw [sl_add]
  split
  · rw [Int.natCast_add, Int.natCast_mul, Int.neg_mul]; omega
  · rw [Int.natCast_add, Int.natCast_mul]
theorem lowZ_all (z : Int) (c : Nat) (h : tp z.natAbs < c) : lowZ z c = z := by
  have := (tp_lt z.natAbs c).1 h
  unfold lowZ
  rw [Nat.mod_eq_of_lt this]
  split <;> omega
def lowB : List Int → Nat → Int
  | [], _ => 0
  | z :: L, c => lowZ z c + lowB L c
theorem lowB_succ (L : List Int) (c : Nat) : lowB L (c + 1) = lowB L c + SL L c * ((2 ^ (32 * c) : Nat) : Int) := by
  induction L with
  | nil => simp [lowB, SL]
  | cons z L ih => simp only [lowB, SL]; rw [ih, lowZ_succ, Int.add_mul]; omega
theorem lowB_all (L : List Int) (c : Nat) (h : tL L < c) : lowB L c = sumL L := by
  induction L with
  | nil => rfl
  | cons z L ih =>
    simp only [tL] at h
    simp only [lowB, sumL]
    rw [ih (by omega), lowZ_all z c (by omega)]
theorem lowB_zero (L : List Int) : lowB L 0 = 0 := by
  induction L with
  | nil => rfl
  | cons z L ih => simp only [lowB]; rw [ih]; unfold lowZ; simp [Nat.mod_one]
theorem lowB_abs (L : List Int) (c : Nat) (h : L ≠ []) : (lowB L c).natAbs < L.length * 2 ^ (32 * c) := by
  induction L with
  | nil => exact absurd rfl h
  | cons z L ih =>
    have h1 := lowZ_abs z c
    simp only [lowB, List.length_cons]
    rw [Nat.succ_mul]
    by_cases q : L = []
    · subst q; simp only [lowB, List.length_nil]; omega
    · have := ih q; omega
end Go.Proofs.YtjpaocgimdinmaaGreatDoor

/- What the bins keep, plainly. -/
namespace Go.Proofs.YtjpaocgimdinmaaGreatDoor
set_option linter.unusedVariables false
set_option maxRecDepth 20000
set_option linter.unusedSimpArgs false

/-- So many of the bin t, in units of the least number. -/
def vb (t k : Int) : Int := if t < 0 then 0 else if t = 0 then k / 16384 else k * ((2 ^ (32 * t.toNat - 14) : Nat) : Int)
theorem vb_zero (t : Int) : vb t 0 = 0 := by
  unfold vb
  split
  · rfl
  · split
    · rfl
    · rw [Int.zero_mul]
theorem vb_mul (t : Nat) (k : Int) (h : t = 0 → (16384 : Int) ∣ k) : vb t k * 16384 = k * ((2 ^ (32 * t) : Nat) : Int) := by
  unfold vb
  rw [if_neg (by omega)]
  by_cases q : t = 0
  · subst q
    rw [if_pos (by decide)]
    have := Int.ediv_mul_cancel (h rfl)
    simp only [Nat.mul_zero, Nat.pow_zero]
    omega
  · rw [if_neg (by omega), Int.toNat_natCast, Int.mul_assoc]
    have : 2 ^ (32 * t) = 2 ^ (32 * t - 14) * 16384 := by
      rw [show (16384 : Nat) = 2 ^ 14 from rfl, ← Nat.pow_add, show 32 * t - 14 + 14 = 32 * t by omega]
    rw [this, Int.natCast_mul]; rfl
theorem vb_abs (t k : Int) (m a : Nat) (ht : t ≤ a) (hk : k.natAbs ≤ 2 ^ m) : (vb t k).natAbs ≤ 2 ^ (m + 32 * a) := by
  have h1 : 2 ^ m ≤ 2 ^ (m + 32 * a) := Nat.pow_le_pow_right (by decide) (by omega)
  unfold vb
  split
  · simp
  · split
    · omega
    · rw [Int.natAbs_mul, Int.natAbs_natCast, Nat.pow_add]
      exact Nat.mul_le_mul hk (Nat.pow_le_pow_right (by decide) (by omega))
/-- Two words of a bin. -/
theorem vb_two (t : Int) (k : Int) (h : t < 0 → k = 0) (h2 : t = 0 → (16384 : Int) ∣ k) : vb (t + 1) (k / 4294967296) + vb t (k % 4294967296) = vb t k := by
  by_cases q : t < 0
  · rw [h q]; simp [vb_zero]
  · obtain ⟨n, rfl⟩ : ∃ n : Nat, t = n := ⟨t.toNat, by omega⟩
    have hk : k % 4294967296 + k / 4294967296 * 4294967296 = k := by omega
    have h3 : n = 0 → (16384 : Int) ∣ k % 4294967296 := by
      intro q; obtain ⟨c, hc⟩ := h2 (by omega); omega
    have e1 := vb_mul (n + 1) (k / 4294967296) (by omega)
    have e2 := vb_mul n (k % 4294967296) h3
    have e3 := vb_mul n k (fun q => h2 (by omega))
    have e4 : (((2 ^ (32 * (n + 1)) : Nat)) : Int) = 4294967296 * ((2 ^ (32 * n) : Nat) : Int) := by rw [pw32, Int.natCast_mul]; rfl
    rw [e4, ← Int.mul_assoc] at e1
    have e5 : k * ((2 ^ (32 * n) : Nat) : Int) = k / 4294967296 * 4294967296 * ((2 ^ (32 * n) : Nat) : Int) + k % 4294967296 * ((2 ^ (32 * n) : Nat) : Int) := by
      rw [← Int.add_mul]; congr 1; omega
    rw [show ((n : Int) + 1) = ((n + 1 : Nat) : Int) by omega]
    omega
/-- What is kept of a fold. -/
def kf (f : Nat) (T : Int) (D : Int → Int) (i : Nat) : Int := if i < f then D (T - i) else 0
def kv (T : Int) (K : Nat → Int) : Nat → Int
  | 0 => 0
  | n + 1 => kv T K n + vb (T - n) (K n)
theorem SL_div (L : List Int) (h : ∀ z ∈ L, (16384 : Int) ∣ z) : (16384 : Int) ∣ SL L 0 := by
  induction L with
  | nil => exact ⟨0, rfl⟩
  | cons z L ih =>
    obtain ⟨a, ha⟩ := ih (fun y hy => h y (List.mem_cons_of_mem _ hy))
    obtain ⟨b, hb⟩ := h z (List.mem_cons_self ..)
    have : (16384 : Int) ∣ ss z 0 := by
      unfold ss sl
      rw [if_neg (by omega)]
      simp only [Int.toNat_zero, Nat.mul_zero, Nat.pow_zero, Nat.div_one]
      split <;> omega
    obtain ⟨c, hc⟩ := this
    exact ⟨a + c, by simp only [SL]; omega⟩
theorem kv_more (f : Nat) (T : Int) (D : Int → Int) (d : Nat) : kv T (kf f T D) (f + d) = kv T (kf f T D) f := by
  induction d with
  | zero => rfl
  | succ d ih =>
    show kv T (kf f T D) (f + d) + vb (T - ((f + d : Nat) : Int)) (kf f T D (f + d)) = _
    unfold kf
    rw [if_neg (by omega), vb_zero, Int.add_zero]
    exact ih
theorem kv_low (L : List Int) (h : ∀ z ∈ L, (16384 : Int) ∣ z) (f n : Nat) (hn : n ≤ f) : kv (tL L) (kf f (tL L) (SL L)) n * 16384 = sumL L - lowB L (tL L + 1 - n).toNat := by
  have hT := tL_ge L
  induction n with
  | zero =>
    rw [lowB_all L _ (by omega)]
    simp [kv]
  | succ n ih =>
    have ih := ih (by omega)
    show (kv (tL L) (kf f (tL L) (SL L)) n + vb (tL L - n) (kf f (tL L) (SL L) n)) * 16384 = _
    rw [Int.add_mul, ih]
    have ek : kf f (tL L) (SL L) n = SL L (tL L - n) := by unfold kf; rw [if_pos (by omega)]
    rw [ek]
    by_cases q : tL L - n < 0
    · rw [SL_neg L _ q, vb_zero]
      rw [show (tL L + 1 - (n : Int)).toNat = 0 by omega, show (tL L + 1 - ((n + 1 : Nat) : Int)).toNat = 0 by omega]
      omega
    · obtain ⟨t, ht⟩ : ∃ t : Nat, tL L - n = t := ⟨(tL L - n).toNat, by omega⟩
      rw [ht, vb_mul t _ (fun q => by rw [q]; exact SL_div L h)]
      rw [show (tL L + 1 - (n : Int)).toNat = t + 1 by omega, show (tL L + 1 - ((n + 1 : Nat) : Int)).toNat = t by omega, lowB_succ]
      omega
theorem kv_abs (T : Int) (K : Nat → Int) (n m a : Nat) (hT : T ≤ a) (hK : ∀ i, (K i).natAbs ≤ 2 ^ m) : (kv T K n).natAbs ≤ n * 2 ^ (m + 32 * a) := by
  induction n with
  | zero => simp [kv]
  | succ n ih =>
    have := vb_abs (T - n) (K n) m a (by omega) (hK n)
    show (kv T K n + vb (T - n) (K n)).natAbs ≤ _
    rw [Nat.succ_mul]
    omega
/-- The lowest bin that is kept, and what may be lost. -/
theorem kv_off (L : List Int) (h : ∀ z ∈ L, (16384 : Int) ∣ z) (f : Nat) (hf : f ≤ 8) : kv (tL L) (kf f (tL L) (SL L)) 8 * 16384 = sumL L - lowB L (tL L + 1 - f).toNat := by
  rw [show 8 = f + (8 - f) by omega, kv_more, kv_low L h f f (Nat.le_refl _)]
/-- One number more in a bin. -/
def upd (D : Int → Int) (j v : Int) : Int → Int := fun t => if t = j then D t + v else D t
end Go.Proofs.YtjpaocgimdinmaaGreatDoor

/- Shares of a list, plainly. -/
namespace Go.Proofs.YtjpaocgimdinmaaGreatDoor
set_option linter.unusedVariables false
set_option maxRecDepth 20000
set_option linter.unusedSimpArgs false

/-- What the places r, r + s, .. below k tell. -/
def pkc {α : Type} (g : Nat → List α) (s r : Nat) : Nat → List α
  | 0 => []
  | k + 1 => if k % s = r then pkc g s r k ++ g k else pkc g s r k
def alls {α : Type} (g : Nat → List α) (s k : Nat) : Nat → List α
  | 0 => []
  | n + 1 => alls g s k n ++ pkc g s n k
theorem pkc_at {α : Type} (g : Nat → List α) (s r k : Nat) (h : k % s = r) : pkc g s r (k + 1) = pkc g s r k ++ g k := by
  show (if k % s = r then _ else _) = _
  rw [if_pos h]
theorem pkc_gap {α : Type} (g : Nat → List α) (s r i d : Nat) (h : i % s = r) (hs : d < s) : pkc g s r (i + 1 + d) = pkc g s r (i + 1) := by
  induction d with
  | zero => rfl
  | succ d ih =>
    have ih := ih (by omega)
    show (if (i + 1 + d) % s = r then pkc g s r (i + 1 + d) ++ g (i + 1 + d) else pkc g s r (i + 1 + d)) = _
    rw [if_neg, ih]
    intro q
    have h1 : (i + (d + 1)) % s = i % s := by rw [show i + (d + 1) = i + 1 + d by omega, q, h]
    have h2 := Nat.div_add_mod i s
    have h3 := Nat.div_add_mod (i + (d + 1)) s
    rw [h1] at h3
    have h4 : s * ((i + (d + 1)) / s) = s * (i / s) + (d + 1) := by omega
    have h5 : (i + (d + 1)) / s ≤ i / s ∨ i / s + 1 ≤ (i + (d + 1)) / s := by omega
    rcases h5 with h5 | h5
    · have := Nat.mul_le_mul_left s h5; omega
    · have := Nat.mul_le_mul_left s h5; rw [Nat.mul_add, Nat.mul_one] at this; omega
theorem pkc_step {α : Type} (g : Nat → List α) (s r i : Nat) (h : i % s = r) (hs : 0 < s) : pkc g s r (i + s) = pkc g s r i ++ g i := by
  have := pkc_gap g s r i (s - 1) h (by omega)
  rw [show i + 1 + (s - 1) = i + s by omega] at this
  rw [this, pkc_at g s r i h]
theorem pkc_end {α : Type} (g : Nat → List α) (s r i n : Nat) (h : i % s = r) (hs : 0 < s) (h1 : i + 1 ≤ n) (h2 : n ≤ i + s) : pkc g s r n = pkc g s r i ++ g i := by
  have := pkc_gap g s r i (n - (i + 1)) h (by omega)
  rw [show i + 1 + (n - (i + 1)) = n by omega] at this
  rw [this, pkc_at g s r i h]
theorem alls_succ {α : Type} (g : Nat → List α) (s k n : Nat) (hs : n ≤ s) : (alls g s (k + 1) n).Perm (if k % s < n then alls g s k n ++ g k else alls g s k n) := by
  induction n with
  | zero => rw [if_neg (by omega)]; exact List.Perm.refl _
  | succ n ih =>
    have ih := ih (by omega)
    show (alls g s (k + 1) n ++ (if k % s = n then pkc g s n k ++ g k else pkc g s n k)).Perm _
    by_cases h : k % s = n
    · rw [if_pos h, if_pos (by omega)]
      rw [if_neg (by omega)] at ih
      show (alls g s (k + 1) n ++ (pkc g s n k ++ g k)).Perm (alls g s k n ++ pkc g s n k ++ g k)
      rw [← List.append_assoc]
      exact (ih.append_right _).append_right _
    · rw [if_neg h]
      by_cases h2 : k % s < n
      · rw [if_pos (by omega)]
        rw [if_pos h2] at ih
        show (alls g s (k + 1) n ++ pkc g s n k).Perm (alls g s k n ++ pkc g s n k ++ g k)
        refine (ih.append_right _).trans ?_
        rw [List.append_assoc, List.append_assoc]
        exact (List.perm_append_comm).append_left _
      · rw [if_neg (by omega)]
        rw [if_neg h2] at ih
        exact ih.append_right _
theorem alls_perm {α : Type} (g : Nat → List α) (s k : Nat) (hs : 0 < s) : (alls g s k s).Perm (pkc g 1 0 k) := by
  induction k with
  | zero =>
    have : ∀ n, alls g s 0 n = [] := by
      intro n
      induction n with
      | zero => rfl
      | succ n ih => show alls g s 0 n ++ [] = []; rw [ih]; rfl
    rw [this]; exact List.Perm.refl _
  | succ k ih =>
    refine (alls_succ g s k s (Nat.le_refl _)).trans ?_
    rw [if_pos (Nat.mod_lt _ hs), pkc_at g 1 0 k (Nat.mod_one _)]
    exact ih.append_right _
/-- A list, from one of its ends on. -/
theorem pkc_flat {α : Type} (g : Nat → List α) (X : List Nat) (f : Nat → List α) (h : ∀ i, i < X.length → g i = f (X.getD i 0)) (k : Nat) (hk : k ≤ X.length) : pkc g 1 0 k = (X.take k).flatMap f := by
  induction k with
  | zero => simp [pkc]
  | succ k ih =>
    rw [pkc_at g 1 0 k (Nat.mod_one _), ih (by omega), h k (by omega)]
    have e : X.take (k + 1) = X.take k ++ [X.getD k 0] := by
      rw [List.getD_eq_getElem?_getD, List.getElem?_eq_getElem (by omega)]
      exact List.take_succ_eq_append_getElem (by omega)
    rw [e, List.flatMap_append]
    simp
theorem flat_rev {α : Type} (X : List Nat) (f : Nat → List α) (hf : ∀ x, (f x).length ≤ 1) : (X.reverse.flatMap f).Perm (X.flatMap f) := (List.reverse_perm X).flatMap_right f
end Go.Proofs.YtjpaocgimdinmaaGreatDoor

/- A region that draws its order and ends in a call that writes what was loaded: the loads come first, for the late call waits for those who wait for them. -/
namespace Go.Proofs.YtjpaocgimdinmaaGreatDoor
open Go Go.RowKit
set_option linter.unusedVariables false
set_option maxRecDepth 20000

section
variable {P : Program} {ops : Array Oper} {Q : Exit → Act → World → Prop} {md : Region.Mode} {S : World → Prop} {stop : Nat}

/-- Whatever order is picked, and what is held is held behind each operation ahead of 'stop'. -/
def wpUntil (P : Program) (md : Region.Mode) (ops : Array Oper) (Q : Exit → Act → World → Prop) (S : World → Prop) (stop : Nat) : Nat → Array Bool → Act → World → Prop
  | 0, listed, a, w => Region.ready md ops listed = [] ∧ Q .normal a w
  | fuel + 1, listed, a, w => (Region.ready md ops listed = [] → Q .normal a w) ∧
      ∀ i ∈ Region.ready md ops listed, wpOp P ops Q i (fun b u => (i < stop → S u) ∧ wpUntil P md ops Q S stop fuel (listed.setIfInBounds i true) b u) a w
theorem wpAny_until : ∀ (fuel : Nat) (listed : Array Bool) (a : Act) (w : World), wpUntil P md ops Q S stop fuel listed a w → wpAny P md ops Q fuel listed a w
  | 0, _, _, _, h => h
  | fuel + 1, _, _, _, h => ⟨h.1, fun i hi => wpOp_mono (fun b u k => wpAny_until fuel _ b u k.2) (h.2 i hi)⟩
theorem until_region {id : Nat} {a : Act} {w : World} (S : World → Prop) (stop : Nat) (hm : P.follows .mixedOrders = true) (h : wpUntil P .any ops Q S stop ops.size (Array.replicate ops.size false) a w.drew) : (Code.region id ops true).wp P Q a w :=
  wp_region_any hm (wpAny_until _ _ _ _ h)

/-- Those of C, and all that is late, wait for number i or for one of C. -/
def waits (md : Region.Mode) (ops : Array Oper) (i stop : Nat) (C : List Nat) : Bool :=
  (List.range ops.size).all fun j => !(C.contains j || decide (stop ≤ j)) || (match ops[j]? with | some o => o.after.any (fun e => Region.binds md e && (e.on == i || C.contains e.on)) | none => true)
def unlisted (listed : Array Bool) (C : List Nat) : Bool := C.all fun k => listed.getD k true == false
theorem waits_spec {i : Nat} {C : List Nat} (h : waits md ops i stop C = true) {j : Nat} {oj : Oper} (hj : ops[j]? = some oj) (hc : j ∈ C ∨ stop ≤ j) : ∃ e ∈ oj.after, Region.binds md e = true ∧ (e.on = i ∨ e.on ∈ C) := by
  have h1 := (List.all_eq_true.1 h) j (by simp; exact (Array.getElem?_eq_some_iff.1 hj).1)
  rw [hj] at h1
  have h2 : (C.contains j || decide (stop ≤ j)) = true := by
    rcases hc with hc | hc
    · simp [hc]
    · simp [hc]
  rw [h2] at h1
  simp only [Bool.not_true, Bool.false_or] at h1
  rw [← Array.any_toList] at h1
  obtain ⟨e, he, hb⟩ := List.any_eq_true.1 h1
  have he := Array.mem_toList_iff.1 he
  simp only [Bool.and_eq_true, Bool.or_eq_true, beq_iff_eq, List.contains_iff_mem] at hb
  exact ⟨e, he, hb.1, hb.2⟩

/-- What yields in every world that meets S is taken first, if what is late waits for it, or for somebody (of C) who does. -/
theorem until_first {i : Nat} {C : List Nat} {oi : Oper} {v : Value} (hi : ops[i]? = some oi) (hsel : ∀ (j : Nat) (o : Oper) cs b, ops[j]? = some o → o.op ≠ .select cs b)
    (hQ : ∀ x a w, Q (.panic x) (a.put oi.dst v) w → Q (.panic x) a w) (hlate : waits md ops i stop C = true) :
    ∀ (fuel : Nat) (listed : Array Bool) (a : Act) (w : World),
      (∀ j oj, ops[j]? = some oj → j ≠ i → listed.getD j true = false → (∀ e ∈ oj.after, Region.binds md e = true → e.on ≠ i) → oi.apart ops oj = true) →
      i ∈ Region.ready md ops listed → (∀ k ∈ C, listed.getD k true = false) → YieldsIf P ops S oi v a → S w →
      wpUntil P md ops Q S stop fuel (listed.setIfInBounds i true) (a.put oi.dst v) w → wpUntil P md ops Q S stop (fuel + 1) listed a w := by
  intro fuel
  induction fuel with
  | zero =>
    intro listed a w _ hr _ hy hS H
    refine ⟨fun h => (by rw [h] at hr; cases hr), fun j hj => ?_⟩
    by_cases hji : j = i
    · subst hji; exact hy.wpOp hi hS ⟨fun _ => hS, H⟩
    · have := ready_mono hj hji
      rw [H.1] at this
      cases this
  | succ fuel ih =>
    intro listed a w hfree hr hcl hy hS H
    refine ⟨fun h => (by rw [h] at hr; cases hr), fun j hj => ?_⟩
    by_cases hji : j = i
    · subst hji; exact hy.wpOp hi hS ⟨fun _ => hS, H⟩
    · have h1 := H.2 j (ready_mono hj hji)
      obtain ⟨hjun, oj, hoj, hall⟩ := mem_ready.1 hj
      have h0 := (mem_ready.1 hr).1
      have un : ∀ k, listed.getD k true = false → listed.getD k false = true → False := fun k a1 a2 => by
        rcases Nat.lt_or_ge k listed.size with h' | h'
        · simp [h'] at a1 a2; rw [a1] at a2; cases a2
        · simp [Array.getElem?_eq_none h'] at a2
      have hnot : ∀ e ∈ oj.after, Region.binds md e = true → e.on ≠ i := fun e he hb heq => un i h0 (heq ▸ hall e he hb)
      have hnw : ¬(j ∈ C ∨ stop ≤ j) := fun hc => by
        obtain ⟨e, he, hb, heq⟩ := waits_spec hlate hoj hc
        rcases heq with heq | heq
        · exact hnot e he hb heq
        · exact un _ (hcl _ heq) (hall e he hb)
      have hjs : j < stop := by
        rcases Nat.lt_or_ge j stop with h | h
        · exact h
        · exact (hnw (Or.inr h)).elim
      have h2 := wpOp_putIf hoj (hfree j oj hoj hji hjun hnot) (fun cs b => hsel i oi cs b hi) (fun cs b => hsel j oj cs b hoj) hQ hy h1
      have hfree' : ∀ k ok, ops[k]? = some ok → k ≠ i → (listed.setIfInBounds j true).getD k true = false →
          (∀ e ∈ ok.after, Region.binds md e = true → e.on ≠ i) → oi.apart ops ok = true := fun k ok hk hki hun hno => by
        refine hfree k ok hk hki ?_ hno
        by_cases hjk : j = k
        · subst hjk; exact hjun
        · rw [Go.getD_set_ne true hjk] at hun; exact hun
      refine wpOp_mono (fun b u h3 => ⟨h3.2.1, ih (listed.setIfInBounds j true) b u hfree' (ready_mono hr (Ne.symm hji)) (fun k hk => by rw [Go.getD_set_ne true (show j ≠ k from fun e => hnw (Or.inl (by rw [e]; exact hk)))]; exact hcl k hk) h3.1 (h3.2.1 hjs) ?_⟩) h2
      rw [Array.setIfInBounds_comm _ _ hji]
      exact h3.2.2
theorem until_take {i : Nat} (C : List Nat) {oi : Oper} {v : Value} {fuel : Nat} {listed : Array Bool} {a : Act} {w : World} (hi : ops[i]? = some oi)
    (hs : Region.noSelect ops = true) (hf : Region.free md ops listed i = true) (hr : (Region.ready md ops listed).contains i = true) (hw : waits md ops i stop C = true) (hun : unlisted listed C = true)
    (hQ : ∀ c a w, Q (.panic c) (a.put oi.dst v) w → Q (.panic c) a w) (hy : YieldsIf P ops S oi v a) (hS : S w)
    (h : wpUntil P md ops Q S stop fuel (listed.setIfInBounds i true) (a.put oi.dst v) w) : wpUntil P md ops Q S stop (fuel + 1) listed a w :=
  until_first hi (Region.noSelect_spec hs) hQ hw fuel listed a w (Region.free_spec hi hf) (by simpa using hr) (fun k hk => by have := (List.all_eq_true.1 hun) k hk; simpa using this) hy hS h
theorem until_one {i : Nat} {o : Oper} {fuel : Nat} {listed : Array Bool} {a : Act} {w : World} (hr : Region.ready md ops listed = [i]) (ho : ops[i]? = some o)
    (h : ∀ K' : Act → World → Prop, Shut (∀ b u, (i < stop → S u) → wpUntil P md ops Q S stop fuel (listed.setIfInBounds i true) b u → K' b u) → if Region.wanted o (yielded ops a.tmps) = true then Oper.wp P o a w K' Q else K' (a.put o.dst undef) w) : wpUntil P md ops Q S stop (fuel + 1) listed a w :=
  ⟨fun h0 => (by rw [hr] at h0; cases h0), fun j hj => by
    rw [hr] at hj
    obtain rfl := List.mem_singleton.1 hj
    exact wpOp_step ho (fun K' hK => h K' (fun b u h1 h2 => hK b u ⟨h1, h2⟩))⟩
theorem until_done {listed : Array Bool} {a : Act} {w : World} (hr : Region.ready md ops listed = []) (h : Q .normal a w) : ∀ fuel, wpUntil P md ops Q S stop fuel listed a w
  | 0 => ⟨hr, h⟩
  | _ + 1 => ⟨fun _ => h, by rw [hr]; simp⟩
end
end Go.Proofs.YtjpaocgimdinmaaGreatDoor

/- Bins in memory: binOf, plus, put. -/
namespace Go.Proofs.YtjpaocgimdinmaaGreatDoor
open Go Go.RowKit
set_option linter.unusedVariables false
set_option maxRecDepth 20000
set_option linter.unusedSimpArgs false

theorem and_mask9 (n : Int) : bits .and .i64 n 4294967295 = n % 4294967296 := by
  simp only [bits]
  have e : (BitVec.ofInt IntKind.i64.bits (4294967295 : Int)).toNat = 2 ^ 32 - 1 := by decide
  rw [BitVec.toNat_and, e, Nat.and_two_pow_sub_one_eq_mod, BitVec.toNat_ofInt]
  rw [IntKind.wrap_i64]
  show (((n % ((2 ^ 64 : Nat) : Int)).toNat % 2 ^ 32 : Nat) + 9223372036854775808 : Int) % 18446744073709551616 - 9223372036854775808 = _
  have : (2:Nat)^64 = 18446744073709551616 := rfl
  omega
/-- A bin as it lies. -/
def Bv (v : Int) : Value := .agg #[.int .i64 (v / 4294967296), .int .i64 (v % 4294967296)]
def Bc (f c T : Int) (K : Nat → Int) : List Value := [.int .i64 f, .int .i64 c, .int .i64 T, .int .i64 (K 0 / 4294967296), .int .i64 (K 0 % 4294967296), .int .i64 (K 1 / 4294967296), .int .i64 (K 1 % 4294967296), .int .i64 (K 2 / 4294967296), .int .i64 (K 2 % 4294967296), .int .i64 (K 3 / 4294967296), .int .i64 (K 3 % 4294967296), .int .i64 (K 4 / 4294967296), .int .i64 (K 4 % 4294967296), .int .i64 (K 5 / 4294967296), .int .i64 (K 5 % 4294967296), .int .i64 (K 6 / 4294967296), .int .i64 (K 6 % 4294967296), .int .i64 (K 7 / 4294967296), .int .i64 (K 7 % 4294967296)]
/-- Bins in a block: fold, count, top, what stands in them. -/
def Bn (w : World) (g : Nat) (f c T : Int) (K : Nat → Int) : Prop := Bl w g 143 (Bc f c T K)
theorem Bn.lt {w : World} {g : Nat} {f c T : Int} {K : Nat → Int} (h : Bn w g f c T K) : g < w.heap.size := Bl.lt h
theorem Bn.alloc {w : World} {g : Nat} {f c T : Int} {K : Nat → Int} (h : Bn w g f c T K) (o : Obj) : Bn (w.alloc o) g f c T K := Bl.alloc h o
theorem Bn.drew {w : World} {g : Nat} {f c T : Int} {K : Nat → Int} (h : Bn w g f c T K) : Bn w.drew g f c T K := h
theorem Bn.below {w w' : World} {g B : Nat} {f c T : Int} {K : Nat → Int} (h : Bn w g f c T K) (hb : Below B w w') (hg : g < B) : Bn w' g f c T K := Bl.below h hb hg
theorem Bn.but {w w' : World} {g g' : Nat} {f c T : Int} {K : Nat → Int} (h : Bn w g f c T K) (hb : But g' w w') (hg : g ≠ g') : Bn w' g f c T K := Bl.but h hb hg
theorem Bc_hi (f c T : Int) (K : Nat → Int) (i : Nat) (h : i < 8) : (Bc f c T K)[3 + i * 2]? = some (.int .i64 (K i / 4294967296)) := by
  obtain rfl | rfl | rfl | rfl | rfl | rfl | rfl | rfl : i = 0 ∨ i = 1 ∨ i = 2 ∨ i = 3 ∨ i = 4 ∨ i = 5 ∨ i = 6 ∨ i = 7 := by omega
  all_goals rfl
theorem Bc_lo (f c T : Int) (K : Nat → Int) (i : Nat) (h : i < 8) : (Bc f c T K)[3 + i * 2 + 1]? = some (.int .i64 (K i % 4294967296)) := by
  obtain rfl | rfl | rfl | rfl | rfl | rfl | rfl | rfl : i = 0 ∨ i = 1 ∨ i = 2 ∨ i = 3 ∨ i = 4 ∨ i = 5 ∨ i = 6 ∨ i = 7 := by omega
  all_goals rfl
theorem Bc_set (f c T : Int) (K : Nat → Int) (i : Nat) (v : Int) (h : i < 8) : ((Bc f c T K).set (3 + i * 2) (.int .i64 (v / 4294967296))).set (3 + i * 2 + 1) (.int .i64 (v % 4294967296)) = Bc f c T (fun k => if k = i then v else K k) := by
  obtain rfl | rfl | rfl | rfl | rfl | rfl | rfl | rfl : i = 0 ∨ i = 1 ∨ i = 2 ∨ i = 3 ∨ i = 4 ∨ i = 5 ∨ i = 6 ∨ i = 7 := by omega
  all_goals rfl
theorem Tryz.row_bin9 : ∃ d : TypeDesc, Tryz.prog.underlying 140 = some d ∧ d.isRow = true := by
  have h : (Tryz.prog.underlying 140).any (·.isRow) = true := by kernel_rfl
  obtain ⟨d, h1, h2⟩ := (Option.any_eq_true _ _).1 h
  exact ⟨d, h1, h2⟩
theorem Tryz.size_bin9 : (Tryz.prog.info? 140).map (·.size) = some 2 := by kernel_rfl
theorem close9 {fn : Func} {p : Tmp} (h : fn.results = #[.cell p 140]) {tmps : Array Value} {W : World} {g : Nat} {x y : Value} {Q : Ending → World → Prop}
    (hp : tmps.getD p undef = .pointer (some ⟨g, 0, none⟩)) (hD : Bl W g 140 [x, y]) (hQ : Q (.returned (.agg #[x, y])) W) : bodyPost Tryz.prog fn Q .ret ⟨tmps, []⟩ W := by
  refine bodyPost_ret (v := .agg #[x, y]) ?_ rfl hQ
  obtain ⟨d, h1, h2⟩ := Tryz.row_bin9
  cases d <;> first
    | exact results_cell_row (P := Tryz.prog) h tmps W g 140 _ _ _ hp hD h1 rfl (by rw [Tryz.size_bin9]; rfl)
    | exact absurd h2 (by simp [TypeDesc.isRow])

set_option maxHeartbeats 1000000 in
theorem binOf_any (n : Int) (w : World) : Calls Tryz.prog 202 #[.int .i64 n] w fun r w' => r = .returned (Bv n) ∧ Below w.heap.size w w' := by
  have hm := and_mask9 n
  go_enter Tryz.func202, Tryz.ntmps202
  go_wp2
  exact close9 Tryz.results202 rfl (Bl.new w 140 [_, _]) ⟨rfl, bel_alloc _ _⟩
set_option maxHeartbeats 1000000 in
theorem plus9_core (x p y q : Int) (w : World) (h1 : x ≤ 8796093022208 ∧ -8796093022208 ≤ x) (h2 : y ≤ 8796093022208 ∧ -8796093022208 ≤ y) (h3 : 0 ≤ p ∧ p < 4294967296) (h4 : 0 ≤ q ∧ q < 4294967296) :
    Calls Tryz.prog 153 #[.agg #[.int .i64 x, .int .i64 p], .agg #[.int .i64 y, .int .i64 q]] w fun r w' => r = .returned (.agg #[.int .i64 (x + y + (p + q) / 4294967296), .int .i64 ((p + q) % 4294967296)]) ∧ Below w.heap.size w w' := by
  have H := hid (binOf_any (p + q))
  have h5 : (p + q) / 4294967296 ≤ 1 ∧ 0 ≤ (p + q) / 4294967296 := by omega
  obtain ⟨W, hW⟩ : ∃ W, W = ((w.alloc (.cells #[.int .i64 x, .int .i64 p] 140)).alloc (.cells #[.int .i64 y, .int .i64 q] 140)).alloc (.cells #[.int .i64 0, .int .i64 0] 140) := ⟨_, rfl⟩
  have HW : Aside (Bl W w.heap.size 140 [.int .i64 x, .int .i64 p] ∧ Bl W (w.heap.size + 1) 140 [.int .i64 y, .int .i64 q] ∧ Bl W (w.heap.size + 1 + 1) 140 [.int .i64 0, .int .i64 0] ∧ Below w.heap.size w W) := by
    subst hW
    refine ⟨((Bl.new w 140 [_, _]).alloc _).alloc _, (Bl.new' _ 140 _ [_, _] (by simp)).alloc _, Bl.new' _ 140 _ [_, _] (by simp), ?_⟩
    exact (bel_alloc _ _).trans (((bel_alloc _ _).trans ((bel_alloc _ _).mono (by simp))).mono (by simp))
  go_enter Tryz.func153, Tryz.ntmps153
  go_wp2_with fail
  rw [← hW]
  clear hW
  with_reducible refine (H.out _).mono ?_
  rintro r w1 ⟨rfl, hb⟩
  have b0 := HW.out.1.below hb HW.out.1.lt
  have b1 := HW.out.2.1.below hb HW.out.2.1.lt
  have b2 := HW.out.2.2.1.below hb HW.out.2.2.1.lt
  unfold Bv
  have hs1 := b2.lt
  have k0 := (b0.alloc (.cells #[.int .i64 ((p + q) / 4294967296), .int .i64 ((p + q) % 4294967296)] 140)).cell 0 _ rfl
  have k1 := (b1.alloc (.cells #[.int .i64 ((p + q) / 4294967296), .int .i64 ((p + q) % 4294967296)] 140)).cell 0 _ rfl
  have k2' := (b2.alloc (.cells #[.int .i64 ((p + q) / 4294967296), .int .i64 ((p + q) % 4294967296)] 140)).cell 0 _ rfl
  have f2' := (b2.alloc (.cells #[.int .i64 ((p + q) / 4294967296), .int .i64 ((p + q) % 4294967296)] 140)).frozen 0
  have k2 := b2.cell 0 _ rfl
  have k3 := b2.cell 1 _ rfl
  have f0 := b2.frozen 0
  have f1 := b2.frozen 1
  have HC := Aside.intro (And.intro b2 (HW.out.2.2.2.trans (hb.mono (HW.out.2.2.2.size))))
  clear b0 b1 b2
  go_wp2
  refine close9 Tryz.results153 rfl (((HC.out.1.set 0 _).set 1 _).alloc _) ⟨rfl, ?_⟩
  exact ((HC.out.2.setCell (by show w.heap.size ≤ w.heap.size + 1 + 1; omega) _).setCell (by show w.heap.size ≤ w.heap.size + 1 + 1; omega) _).alloc (by simp; omega) _
theorem plus9_any (a b : Int) (w : World) (ha : a.natAbs ≤ 2 ^ 75) (hb : b.natAbs ≤ 2 ^ 75) : Calls Tryz.prog 153 #[Bv a, Bv b] w fun r w' => r = .returned (Bv (a + b)) ∧ Below w.heap.size w w' := by
  have := plus9_core (a / 4294967296) (a % 4294967296) (b / 4294967296) (b % 4294967296) w (by omega) (by omega) (by omega) (by omega)
  unfold Bv
  rw [show a / 4294967296 + b / 4294967296 + (a % 4294967296 + b % 4294967296) / 4294967296 = (a + b) / 4294967296 by omega, show (a % 4294967296 + b % 4294967296) % 4294967296 = (a + b) % 4294967296 by omega] at this
  exact this

/-- One bin more in the bin that stands i below the top. -/
def putK (K : Nat → Int) (f i v : Int) : Nat → Int := fun k => if (k : Int) = i ∧ i < f then K k + v else K k

set_option maxHeartbeats 1000000 in
theorem put_no (g : Nat) (f c T j x y : Int) (K : Nat → Int) (w : World) (hB : Bl w g 143 (Bc f c T K)) (h : f ≤ T - j) (h1 : -1000 ≤ T ∧ T ≤ 1000) (h2 : -1000 ≤ j ∧ j ≤ 1000) :
    Calls Tryz.prog 84 #[.pointer (some ⟨g, 0, none⟩), .int .i64 j, .agg #[.int .i64 x, .int .i64 y]] w fun r w' => r = .returned (.tuple #[]) ∧ Below w.heap.size w w' := by
  have k0 := hB.cell 0 _ rfl
  have k2 := hB.cell 2 _ rfl
  have hl := hB.lt
  have hd : decide (T - j < f) = false := by simp; omega
  clear hB
  go_enter Tryz.func84, Tryz.ntmps84
  go_wp2
  go_end0
  exact ⟨rfl, bel_alloc _ _⟩
set_option maxHeartbeats 1000000 in
theorem put_yes (g : Nat) (f c T j a b p q : Int) (i : Nat) (K : Nat → Int) (w : World) (hB : Bl w g 143 (Bc f c T K)) (h : T - j < f) (hi : T - j = i) (hi8 : i < 8) (h1 : -1000 ≤ T ∧ T ≤ 1000) (h2 : -1000 ≤ j ∧ j ≤ 1000)
    (HP : Hid (∀ u, Calls Tryz.prog 153 #[.agg #[.int .i64 (K i / 4294967296), .int .i64 (K i % 4294967296)], .agg #[.int .i64 a, .int .i64 b]] u fun r w' => r = .returned (.agg #[.int .i64 p, .int .i64 q]) ∧ Below u.heap.size u w')) :
    Calls Tryz.prog 84 #[.pointer (some ⟨g, 0, none⟩), .int .i64 j, .agg #[.int .i64 a, .int .i64 b]] w fun r w' => r = .returned (.tuple #[]) ∧ Bl w' g 143 (((Bc f c T K).set (3 + i * 2) (.int .i64 p)).set (3 + i * 2 + 1) (.int .i64 q)) ∧ But g w w' := by
  have hl := hB.lt
  have k0 := hB.cell 0 _ rfl
  have k2 := hB.cell 2 _ rfl
  have hd : decide (T - j < f) = true := by simp; omega
  obtain ⟨W, hW⟩ : ∃ W, W = w.alloc (.cells #[.int .i64 a, .int .i64 b] 140) := ⟨_, rfl⟩
  have HZ : Aside (Bl W.drew g 143 (Bc f c T K) ∧ Bl W.drew w.heap.size 140 [.int .i64 a, .int .i64 b] ∧ Below w.heap.size w W.drew) := by
    subst hW
    exact ⟨(hB.alloc _).drew, (Bl.new w 140 [_, _]).drew, (bel_alloc _ _).drew⟩
  have mk : Hid (∀ u, Bl u g 143 (Bc f c T K) → Bl u w.heap.size 140 [.int .i64 a, .int .i64 b] → u.cell? ⟨g, 3 + i * 2, none⟩ = some (.int .i64 (K i / 4294967296)) ∧ u.cell? ⟨g, 3 + i * 2 + 1, none⟩ = some (.int .i64 (K i % 4294967296)) ∧ u.frozen? ⟨g, 3 + i * 2, none⟩ = false ∧ u.frozen? ⟨g, 3 + i * 2 + 1, none⟩ = false ∧ u.cell? ⟨w.heap.size, 0, none⟩ = some (.int .i64 a) ∧ u.cell? ⟨w.heap.size, 1, none⟩ = some (.int .i64 b)) :=
    hid (fun u p1 p2 => ⟨p1.cell _ _ (Bc_hi f c T K i hi8), p1.cell _ _ (Bc_lo f c T K i hi8), p1.frozen _, p1.frozen _, p2.cell 0 _ rfl, p2.cell 1 _ rfl⟩)
  have kS := Aside.intro (mk.out _ HZ.out.1 HZ.out.2.1)
  have hi9 : (i : Int) < 8 := by omega
  clear hB
  go_enter Tryz.func84, Tryz.ntmps84
  go_wp2_with fail
  rw [← hW]
  clear hW k0 k2 hd h hi h1 h2
  refine until_region (fun u => u.cell? ⟨g, 3 + i * 2, none⟩ = some (.int .i64 (K i / 4294967296)) ∧ u.cell? ⟨g, 3 + i * 2 + 1, none⟩ = some (.int .i64 (K i % 4294967296)) ∧ u.frozen? ⟨g, 3 + i * 2, none⟩ = false ∧ u.frozen? ⟨g, 3 + i * 2 + 1, none⟩ = false ∧ u.cell? ⟨w.heap.size, 0, none⟩ = some (.int .i64 a) ∧ u.cell? ⟨w.heap.size, 1, none⟩ = some (.int .i64 b)) 13 (by kernel_rfl) ?_
  refine until_take (i := 0) [] (v := ?_) rfl (by kernel_rfl) (by kernel_rfl) (by kernel_rfl) (by kernel_rfl) (by kernel_rfl) (fun _ _ _ h => h) (Or.inl ⟨by rfl, ?_⟩) kS.out ?_
  rotate_left
  · intro u hSu
    try dsimp only at hSu
    first | (go_simp; done) | (go_simp; with_reducible rfl)
  try simp only [Act.put, List.setIfInBounds_toArray, List.set_cons_zero, List.set_cons_succ]
  refine until_take (i := 1) [] (v := ?_) rfl (by kernel_rfl) (by kernel_rfl) (by kernel_rfl) (by kernel_rfl) (by kernel_rfl) (fun _ _ _ h => h) (Or.inl ⟨by rfl, ?_⟩) kS.out ?_
  rotate_left
  · intro u hSu
    try dsimp only at hSu
    first | (go_simp; done) | (go_simp; with_reducible rfl)
  try simp only [Act.put, List.setIfInBounds_toArray, List.set_cons_zero, List.set_cons_succ]
  refine until_take (i := 2) [] (v := ?_) rfl (by kernel_rfl) (by kernel_rfl) (by kernel_rfl) (by kernel_rfl) (by kernel_rfl) (fun _ _ _ h => h) (Or.inl ⟨by rfl, ?_⟩) kS.out ?_
  rotate_left
  · intro u hSu
    try dsimp only at hSu
    first | (go_simp; done) | (go_simp; with_reducible rfl)
  try simp only [Act.put, List.setIfInBounds_toArray, List.set_cons_zero, List.set_cons_succ]
  refine until_take (i := 3) [] (v := ?_) rfl (by kernel_rfl) (by kernel_rfl) (by kernel_rfl) (by kernel_rfl) (by kernel_rfl) (fun _ _ _ h => h) (Or.inl ⟨by rfl, ?_⟩) kS.out ?_
  rotate_left
  · intro u hSu
    try dsimp only at hSu
    first | (go_simp; done) | (go_simp; with_reducible rfl)
  try simp only [Act.put, List.setIfInBounds_toArray, List.set_cons_zero, List.set_cons_succ]
  refine until_take (i := 4) [] (v := ?_) rfl (by kernel_rfl) (by kernel_rfl) (by kernel_rfl) (by kernel_rfl) (by kernel_rfl) (fun _ _ _ h => h) (Or.inl ⟨by rfl, ?_⟩) kS.out ?_
  rotate_left
  · intro u hSu
    try dsimp only at hSu
    first | (go_simp; done) | (go_simp; with_reducible rfl)
  try simp only [Act.put, List.setIfInBounds_toArray, List.set_cons_zero, List.set_cons_succ]
  refine until_take (i := 5) [] (v := ?_) rfl (by kernel_rfl) (by kernel_rfl) (by kernel_rfl) (by kernel_rfl) (by kernel_rfl) (fun _ _ _ h => h) (Or.inl ⟨by rfl, ?_⟩) kS.out ?_
  rotate_left
  · intro u hSu
    try dsimp only at hSu
    first | (go_simp; done) | (go_simp; with_reducible rfl)
  try simp only [Act.put, List.setIfInBounds_toArray, List.set_cons_zero, List.set_cons_succ]
  refine until_take (i := 6) [] (v := ?_) rfl (by kernel_rfl) (by kernel_rfl) (by kernel_rfl) (by kernel_rfl) (by kernel_rfl) (fun _ _ _ h => h) (Or.inl ⟨by rfl, ?_⟩) kS.out ?_
  rotate_left
  · intro u hSu
    try dsimp only at hSu
    first | (go_simp; done) | (go_simp; with_reducible rfl)
  try simp only [Act.put, List.setIfInBounds_toArray, List.set_cons_zero, List.set_cons_succ]
  refine until_take (i := 7) [] (v := ?_) rfl (by kernel_rfl) (by kernel_rfl) (by kernel_rfl) (by kernel_rfl) (by kernel_rfl) (fun _ _ _ h => h) (Or.inl ⟨by rfl, ?_⟩) kS.out ?_
  rotate_left
  · intro u hSu
    try dsimp only at hSu
    first | (go_simp; done) | (go_simp; with_reducible rfl)
  try simp only [Act.put, List.setIfInBounds_toArray, List.set_cons_zero, List.set_cons_succ]
  refine until_take (i := 8) [] (v := ?_) rfl (by kernel_rfl) (by kernel_rfl) (by kernel_rfl) (by kernel_rfl) (by kernel_rfl) (fun _ _ _ h => h) (Or.inl ⟨by rfl, ?_⟩) kS.out ?_
  rotate_left
  · intro u hSu
    try dsimp only at hSu
    first | (go_simp; done) | (go_simp; with_reducible rfl)
  try simp only [Act.put, List.setIfInBounds_toArray, List.set_cons_zero, List.set_cons_succ]
  refine until_take (i := 10) [11, 12] (v := ?_) rfl (by kernel_rfl) (by kernel_rfl) (by kernel_rfl) (by kernel_rfl) (by kernel_rfl) (fun _ _ _ h => h) (Or.inl ⟨by rfl, ?_⟩) kS.out ?_
  rotate_left
  · intro u hSu
    try dsimp only at hSu
    first | (go_simp; done) | (go_simp; with_reducible rfl)
  try simp only [Act.put, List.setIfInBounds_toArray, List.set_cons_zero, List.set_cons_succ]
  refine until_take (i := 11) [12] (v := ?_) rfl (by kernel_rfl) (by kernel_rfl) (by kernel_rfl) (by kernel_rfl) (by kernel_rfl) (fun _ _ _ h => h) (Or.inl ⟨by rfl, ?_⟩) kS.out ?_
  rotate_left
  · intro u hSu
    try dsimp only at hSu
    first | (go_simp; done) | (go_simp; with_reducible rfl)
  try simp only [Act.put, List.setIfInBounds_toArray, List.set_cons_zero, List.set_cons_succ]
  refine until_one (i := 9) (by kernel_rfl) rfl (fun K' hK => ?_)
  go_simp
  refine (HP.out _).mono ?_
  rintro r u ⟨rfl, hb⟩
  have HZ := Aside.intro (And.intro (HZ.out.1.below hb HZ.out.1.lt) (And.intro (HZ.out.2.1.below hb HZ.out.2.1.lt) (HZ.out.2.2.trans (hb.mono HZ.out.2.2.size))))
  have kS := Aside.intro (mk.out _ HZ.out.1 HZ.out.2.1)
  clear hb
  dsimp only
  refine hK.out _ _ (fun _ => kS.out) ?_
  clear hK K'
  try simp only [Act.put, List.setIfInBounds_toArray, List.set_cons_zero, List.set_cons_succ]
  refine until_take (i := 12) [] (v := ?_) rfl (by kernel_rfl) (by kernel_rfl) (by kernel_rfl) (by kernel_rfl) (by kernel_rfl) (fun _ _ _ h => h) (Or.inl ⟨by rfl, ?_⟩) kS.out ?_
  rotate_left
  · intro u hSu
    try dsimp only at hSu
    first | (go_simp; done) | (go_simp; with_reducible rfl)
  try simp only [Act.put, List.setIfInBounds_toArray, List.set_cons_zero, List.set_cons_succ]
  obtain ⟨s1, s2, s3, s4, s5, s6⟩ := kS.out
  refine until_one (i := 13) (by kernel_rfl) rfl (fun K' hK => ?_)
  go_simp
  refine hK.out _ _ (fun h => absurd h (by decide)) ?_
  clear hK K'
  refine until_done (by kernel_rfl) ?_ _
  clear kS s1 s2 s3 s4 s5 s6
  go_wp2
  go_end0
  exact ⟨rfl, (HZ.out.1.set _ _).set _ _, (((But.refl g w).of_bel9 HZ.out.2.2).set _ _).set _ _⟩
/-- Bins in a block, and put. -/
theorem put_any (g : Nat) (f c T j v : Int) (K : Nat → Int) (w : World) (hB : Bn w g f c T K) (hf : f ≤ 8) (hj : j ≤ T) (h1 : -1000 ≤ T ∧ T ≤ 1000) (h2 : -1000 ≤ j ∧ j ≤ 1000) (hK : ∀ i, (K i).natAbs ≤ 2 ^ 75) (hv : v.natAbs ≤ 2 ^ 75) :
    Calls Tryz.prog 84 #[.pointer (some ⟨g, 0, none⟩), .int .i64 j, Bv v] w fun r w' => r = .returned (.tuple #[]) ∧ Bn w' g f c T (putK K f (T - j) v) ∧ But g w w' := by
  by_cases h : f ≤ T - j
  · refine (put_no g f c T j _ _ K w hB h h1 h2).mono ?_
    rintro r w' ⟨rfl, hb⟩
    have e : putK K f (T - j) v = K := by funext k; unfold putK; rw [if_neg (by omega)]
    rw [e]
    exact ⟨rfl, hB.below hb hB.lt, (But.refl g w).of_bel9 hb⟩
  · obtain ⟨i, hi⟩ : ∃ i : Nat, T - j = i := ⟨(T - j).toNat, by omega⟩
    refine (put_yes g f c T j _ _ _ _ i K w hB (by omega) hi (by omega) h1 h2 (hid (fun u => plus9_any (K i) v u (hK i) hv))).mono ?_
    rintro r w' ⟨rfl, h3, h4⟩
    refine ⟨rfl, ?_, h4⟩
    rw [Bc_set f c T K i (K i + v) (by omega)] at h3
    have e : putK K f (T - j) v = fun k => if k = i then K i + v else K k := by
      funext k
      unfold putK
      by_cases q : k = i
      · rw [if_pos (by omega), if_pos q, q]
      · rw [if_neg (by omega), if_neg q]
    rw [e]
    exact h3
end Go.Proofs.YtjpaocgimdinmaaGreatDoor

/- An array's element, by value. -/
namespace Go.Proofs.YtjpaocgimdinmaaGreatDoor
open Go Go.RowKit
theorem Tryz.und_arr9 : Tryz.prog.underlying 141 = some (.array 8 140) := by kernel_rfl
theorem idx9_0 (x0 x1 x2 x3 x4 x5 x6 x7 x8 x9 x10 x11 x12 x13 x14 x15 : Value) (w : World) : (Instr.index 141 (.agg #[x0, x1, x2, x3, x4, x5, x6, x7, x8, x9, x10, x11, x12, x13, x14, x15]) (.int .i64 0)).run Tryz.prog w = .ok (.agg #[x0, x1]) w := by
  simp [Instr.index, run_underlying Tryz.und_arr9, asIntOf, go_sem]
theorem idx9_1 (x0 x1 x2 x3 x4 x5 x6 x7 x8 x9 x10 x11 x12 x13 x14 x15 : Value) (w : World) : (Instr.index 141 (.agg #[x0, x1, x2, x3, x4, x5, x6, x7, x8, x9, x10, x11, x12, x13, x14, x15]) (.int .i64 1)).run Tryz.prog w = .ok (.agg #[x2, x3]) w := by
  simp [Instr.index, run_underlying Tryz.und_arr9, asIntOf, go_sem]
theorem idx9_2 (x0 x1 x2 x3 x4 x5 x6 x7 x8 x9 x10 x11 x12 x13 x14 x15 : Value) (w : World) : (Instr.index 141 (.agg #[x0, x1, x2, x3, x4, x5, x6, x7, x8, x9, x10, x11, x12, x13, x14, x15]) (.int .i64 2)).run Tryz.prog w = .ok (.agg #[x4, x5]) w := by
  simp [Instr.index, run_underlying Tryz.und_arr9, asIntOf, go_sem]
theorem idx9_3 (x0 x1 x2 x3 x4 x5 x6 x7 x8 x9 x10 x11 x12 x13 x14 x15 : Value) (w : World) : (Instr.index 141 (.agg #[x0, x1, x2, x3, x4, x5, x6, x7, x8, x9, x10, x11, x12, x13, x14, x15]) (.int .i64 3)).run Tryz.prog w = .ok (.agg #[x6, x7]) w := by
  simp [Instr.index, run_underlying Tryz.und_arr9, asIntOf, go_sem]
theorem idx9_4 (x0 x1 x2 x3 x4 x5 x6 x7 x8 x9 x10 x11 x12 x13 x14 x15 : Value) (w : World) : (Instr.index 141 (.agg #[x0, x1, x2, x3, x4, x5, x6, x7, x8, x9, x10, x11, x12, x13, x14, x15]) (.int .i64 4)).run Tryz.prog w = .ok (.agg #[x8, x9]) w := by
  simp [Instr.index, run_underlying Tryz.und_arr9, asIntOf, go_sem]
theorem idx9_5 (x0 x1 x2 x3 x4 x5 x6 x7 x8 x9 x10 x11 x12 x13 x14 x15 : Value) (w : World) : (Instr.index 141 (.agg #[x0, x1, x2, x3, x4, x5, x6, x7, x8, x9, x10, x11, x12, x13, x14, x15]) (.int .i64 5)).run Tryz.prog w = .ok (.agg #[x10, x11]) w := by
  simp [Instr.index, run_underlying Tryz.und_arr9, asIntOf, go_sem]
theorem idx9_6 (x0 x1 x2 x3 x4 x5 x6 x7 x8 x9 x10 x11 x12 x13 x14 x15 : Value) (w : World) : (Instr.index 141 (.agg #[x0, x1, x2, x3, x4, x5, x6, x7, x8, x9, x10, x11, x12, x13, x14, x15]) (.int .i64 6)).run Tryz.prog w = .ok (.agg #[x12, x13]) w := by
  simp [Instr.index, run_underlying Tryz.und_arr9, asIntOf, go_sem]
theorem idx9_7 (x0 x1 x2 x3 x4 x5 x6 x7 x8 x9 x10 x11 x12 x13 x14 x15 : Value) (w : World) : (Instr.index 141 (.agg #[x0, x1, x2, x3, x4, x5, x6, x7, x8, x9, x10, x11, x12, x13, x14, x15]) (.int .i64 7)).run Tryz.prog w = .ok (.agg #[x14, x15]) w := by
  simp [Instr.index, run_underlying Tryz.und_arr9, asIntOf, go_sem]
end Go.Proofs.YtjpaocgimdinmaaGreatDoor

/- Bins: rise. -/
namespace Go.Proofs.YtjpaocgimdinmaaGreatDoor
open Go Go.RowKit
set_option linter.unusedVariables false
set_option maxRecDepth 20000
set_option linter.unusedSimpArgs false

/-- What has gone down by d places, n bins of it. -/
def rsK (K : Nat → Int) (f : Int) (d n : Nat) : Nat → Int := fun k => if (k : Int) < f ∧ d ≤ k ∧ k - d < n then K (k - d) else 0
theorem rsK_step (K : Nat → Int) (f : Int) (d n : Nat) : putK (rsK K f d n) f ((d + n : Nat) : Int) (K n) = rsK K f d (n + 1) := by
  funext k
  unfold putK rsK
  by_cases q : k = d + n
  · subst q
    by_cases h : ((d + n : Nat) : Int) < f
    · rw [if_pos ⟨rfl, h⟩, if_neg (by omega), if_pos (by omega), show d + n - d = n by omega, Int.zero_add]
    · rw [if_neg (by omega), if_neg (by omega), if_neg (by omega)]
  · rw [if_neg (by omega)]
    by_cases h : (k : Int) < f ∧ d ≤ k ∧ k - d < n
    · rw [if_pos h, if_pos (by omega)]
    · rw [if_neg h, if_neg (by omega)]
theorem rsK_zero (K : Nat → Int) (f : Int) (d : Nat) : rsK K f d 0 = fun _ => 0 := by
  funext k; unfold rsK; rw [if_neg (by omega)]
theorem rsK_abs (K : Nat → Int) (f : Int) (d n : Nat) (hK : ∀ i, (K i).natAbs ≤ 2 ^ 75) (k : Nat) : (rsK K f d n k).natAbs ≤ 2 ^ 75 := by
  unfold rsK
  split
  · exact hK _
  · simp
theorem Bc_len (f c T : Int) (K : Nat → Int) : (Bc f c T K).length = 19 := rfl
theorem Bc_one (f c T : Int) (K : Nat → Int) : (Bc f c T K).toArray.all (·.oneCell') = true := by
  unfold Bc; simp [Value.oneCell']
theorem Tryz.row_bins9 : ∃ d : TypeDesc, Tryz.prog.underlying 143 = some d ∧ d.isRow = true := by
  have h : (Tryz.prog.underlying 143).any (·.isRow) = true := by kernel_rfl
  obtain ⟨d, h1, h2⟩ := (Option.any_eq_true _ _).1 h
  exact ⟨d, h1, h2⟩
theorem Tryz.row_arr9 : ∃ d : TypeDesc, Tryz.prog.underlying 141 = some d ∧ d.isRow = true := by
  have h : (Tryz.prog.underlying 141).any (·.isRow) = true := by kernel_rfl
  obtain ⟨d, h1, h2⟩ := (Option.any_eq_true _ _).1 h
  exact ⟨d, h1, h2⟩
theorem Tryz.size_bins9 : (Tryz.prog.info? 143).map (·.size) = some 19 := by kernel_rfl
theorem Tryz.size_arr9 : (Tryz.prog.info? 141).map (·.size) = some 16 := by kernel_rfl

set_option maxHeartbeats 1000000 in
theorem rise_no (g : Nat) (f c T J : Int) (K : Nat → Int) (w : World) (hB : Bn w g f c T K) (h : J ≤ T) :
    Calls Tryz.prog 83 #[.pointer (some ⟨g, 0, none⟩), .int .i64 J] w fun r w' => r = .returned (.tuple #[]) ∧ w' = w := by
  have k2 := Bl.cell hB 2 _ rfl
  have hd : decide (J ≤ T) = true := by simp; omega
  clear hB
  go_enter Tryz.func83, Tryz.ntmps83
  go_wp2
  first
  | (go_end0; exact ⟨rfl, rfl⟩)
  | exact bodyPost_ret (v := .tuple #[]) (by simp [results, Tryz.results83, go_sem]) rfl ⟨rfl, rfl⟩
attribute [local go_sem] idx9_0 idx9_1 idx9_2 idx9_3 idx9_4 idx9_5 idx9_6 idx9_7 in
set_option maxHeartbeats 400000 in
theorem rise_yes (g d : Nat) (f c T J : Int) (K : Nat → Int) (w : World) (hB : Bn w g f c T K) (hd : J = T + d) (hd0 : 0 < d) (hf : f ≤ 8) (h1 : -100 ≤ T ∧ T ≤ 1000) (h2 : -100 ≤ J ∧ J ≤ 1000) (hK : ∀ i, (K i).natAbs ≤ 2 ^ 75) :
    Calls Tryz.prog 83 #[.pointer (some ⟨g, 0, none⟩), .int .i64 J] w fun r w' => r = .returned (.tuple #[]) ∧ Bn w' g f c J (rsK K f d 8) ∧ But g w w' := by
  have HP : ∀ n : Nat, n < 8 → Hid (∀ u, Bn u g f c J (rsK K f d n) → Calls Tryz.prog 84 #[.pointer (some ⟨g, 0, none⟩), .int .i64 (T - n), .agg #[.int .i64 (K n / 4294967296), .int .i64 (K n % 4294967296)]] u fun r w' => r = .returned (.tuple #[]) ∧ Bn w' g f c J (rsK K f d (n + 1)) ∧ But g u w') := by
    intro n hn
    refine hid (fun u hu => ?_)
    have := put_any g f c J (T - n) (K n) (rsK K f d n) u hu hf (by omega) (by omega) (by omega) (rsK_abs K f d n hK) (hK n)
    rw [show J - (T - n) = ((d + n : Nat) : Int) by omega, rsK_step] at this
    exact this
  have P0 : Hid (∀ u, Bn u g f c J (rsK K f d 0) → Calls Tryz.prog 84 #[.pointer (some ⟨g, 0, none⟩), .int .i64 T, .agg #[.int .i64 (K 0 / 4294967296), .int .i64 (K 0 % 4294967296)]] u fun r w' => r = .returned (.tuple #[]) ∧ Bn w' g f c J (rsK K f d 1) ∧ But g u w') := by
    have := HP 0 (by omega)
    rw [show T - ((0 : Nat) : Int) = T by omega] at this
    exact this
  have P1 : Hid (∀ u, Bn u g f c J (rsK K f d 1) → Calls Tryz.prog 84 #[.pointer (some ⟨g, 0, none⟩), .int .i64 (T - 1), .agg #[.int .i64 (K 1 / 4294967296), .int .i64 (K 1 % 4294967296)]] u fun r w' => r = .returned (.tuple #[]) ∧ Bn w' g f c J (rsK K f d 2) ∧ But g u w') := HP 1 (by omega)
  have P2 : Hid (∀ u, Bn u g f c J (rsK K f d 2) → Calls Tryz.prog 84 #[.pointer (some ⟨g, 0, none⟩), .int .i64 (T - 2), .agg #[.int .i64 (K 2 / 4294967296), .int .i64 (K 2 % 4294967296)]] u fun r w' => r = .returned (.tuple #[]) ∧ Bn w' g f c J (rsK K f d 3) ∧ But g u w') := HP 2 (by omega)
  have P3 : Hid (∀ u, Bn u g f c J (rsK K f d 3) → Calls Tryz.prog 84 #[.pointer (some ⟨g, 0, none⟩), .int .i64 (T - 3), .agg #[.int .i64 (K 3 / 4294967296), .int .i64 (K 3 % 4294967296)]] u fun r w' => r = .returned (.tuple #[]) ∧ Bn w' g f c J (rsK K f d 4) ∧ But g u w') := HP 3 (by omega)
  have P4 : Hid (∀ u, Bn u g f c J (rsK K f d 4) → Calls Tryz.prog 84 #[.pointer (some ⟨g, 0, none⟩), .int .i64 (T - 4), .agg #[.int .i64 (K 4 / 4294967296), .int .i64 (K 4 % 4294967296)]] u fun r w' => r = .returned (.tuple #[]) ∧ Bn w' g f c J (rsK K f d 5) ∧ But g u w') := HP 4 (by omega)
  have P5 : Hid (∀ u, Bn u g f c J (rsK K f d 5) → Calls Tryz.prog 84 #[.pointer (some ⟨g, 0, none⟩), .int .i64 (T - 5), .agg #[.int .i64 (K 5 / 4294967296), .int .i64 (K 5 % 4294967296)]] u fun r w' => r = .returned (.tuple #[]) ∧ Bn w' g f c J (rsK K f d 6) ∧ But g u w') := HP 5 (by omega)
  have P6 : Hid (∀ u, Bn u g f c J (rsK K f d 6) → Calls Tryz.prog 84 #[.pointer (some ⟨g, 0, none⟩), .int .i64 (T - 6), .agg #[.int .i64 (K 6 / 4294967296), .int .i64 (K 6 % 4294967296)]] u fun r w' => r = .returned (.tuple #[]) ∧ Bn w' g f c J (rsK K f d 7) ∧ But g u w') := HP 6 (by omega)
  have P7 : Hid (∀ u, Bn u g f c J (rsK K f d 7) → Calls Tryz.prog 84 #[.pointer (some ⟨g, 0, none⟩), .int .i64 (T - 7), .agg #[.int .i64 (K 7 / 4294967296), .int .i64 (K 7 % 4294967296)]] u fun r w' => r = .returned (.tuple #[]) ∧ Bn w' g f c J (rsK K f d 8) ∧ But g u w') := HP 7 (by omega)
  clear HP
  have hdn : decide (J ≤ T) = false := by simp; omega
  have hl := Bl.lt hB
  obtain ⟨db, hdb⟩ := Tryz.row_bins9
  have HD := Aside.intro hdb
  obtain ⟨da, hda⟩ := Tryz.row_arr9
  have HE := Aside.intro hda
  clear hdb hda
  have k2 := Bl.cell hB 2 _ rfl
  have HR : Aside (w.rangeAt g 0 (Bc f c T K)) := Bl.range hB 0 _ (fun j v hv => by rw [Nat.zero_add]; exact hv)
  have HS : Aside ((Tryz.prog.info? 143).map (·.size) = some (Bc f c T K).length) := Tryz.size_bins9
  have HZ : Aside (Bl (w.alloc (Obj.cells #[.int .i64 0, .int .i64 0, .int .i64 0, .int .i64 0, .int .i64 0, .int .i64 0, .int .i64 0, .int .i64 0, .int .i64 0, .int .i64 0, .int .i64 0, .int .i64 0, .int .i64 0, .int .i64 0, .int .i64 0, .int .i64 0, .int .i64 0, .int .i64 0, .int .i64 0] 143)) w.heap.size 143 [.int .i64 0, .int .i64 0, .int .i64 0, .int .i64 0, .int .i64 0, .int .i64 0, .int .i64 0, .int .i64 0, .int .i64 0, .int .i64 0, .int .i64 0, .int .i64 0, .int .i64 0, .int .i64 0, .int .i64 0, .int .i64 0, .int .i64 0, .int .i64 0, .int .i64 0]) := Bl.new w 143 [.int .i64 0, .int .i64 0, .int .i64 0, .int .i64 0, .int .i64 0, .int .i64 0, .int .i64 0, .int .i64 0, .int .i64 0, .int .i64 0, .int .i64 0, .int .i64 0, .int .i64 0, .int .i64 0, .int .i64 0, .int .i64 0, .int .i64 0, .int .i64 0, .int .i64 0]
  have HT : Aside ((w.alloc (Obj.cells #[.int .i64 0, .int .i64 0, .int .i64 0, .int .i64 0, .int .i64 0, .int .i64 0, .int .i64 0, .int .i64 0, .int .i64 0, .int .i64 0, .int .i64 0, .int .i64 0, .int .i64 0, .int .i64 0, .int .i64 0, .int .i64 0, .int .i64 0, .int .i64 0, .int .i64 0] 143)).there w.heap.size 0 (Bc f c T K).toArray.size) := Aside.intro (HZ.out.there 0 19 (Nat.le_refl 19))
  have HO := Aside.intro (Bc_one f c T K)
  have HS2 : Aside ((Tryz.prog.info? 143).map (·.size) = some (Bc f c T K).toArray.size) := Tryz.size_bins9
  obtain ⟨W1, hW1⟩ : ∃ W1, W1 = (w.alloc (Obj.cells #[.int .i64 0, .int .i64 0, .int .i64 0, .int .i64 0, .int .i64 0, .int .i64 0, .int .i64 0, .int .i64 0, .int .i64 0, .int .i64 0, .int .i64 0, .int .i64 0, .int .i64 0, .int .i64 0, .int .i64 0, .int .i64 0, .int .i64 0, .int .i64 0, .int .i64 0] 143)).setCells w.heap.size 0 (Bc f c T K).toArray.toList := ⟨_, rfl⟩
  have HW1 := Aside.intro hW1
  have HA1 : Aside (Bl W1 w.heap.size 143 (Bc f c T K) ∧ Bl W1 g 143 (Bc f c T K) ∧ Below w.heap.size w W1) := by
    subst hW1
    have hbut : But w.heap.size (w.alloc (Obj.cells #[.int .i64 0, .int .i64 0, .int .i64 0, .int .i64 0, .int .i64 0, .int .i64 0, .int .i64 0, .int .i64 0, .int .i64 0, .int .i64 0, .int .i64 0, .int .i64 0, .int .i64 0, .int .i64 0, .int .i64 0, .int .i64 0, .int .i64 0, .int .i64 0, .int .i64 0] 143)) ((w.alloc (Obj.cells #[.int .i64 0, .int .i64 0, .int .i64 0, .int .i64 0, .int .i64 0, .int .i64 0, .int .i64 0, .int .i64 0, .int .i64 0, .int .i64 0, .int .i64 0, .int .i64 0, .int .i64 0, .int .i64 0, .int .i64 0, .int .i64 0, .int .i64 0, .int .i64 0, .int .i64 0] 143)).setCells w.heap.size 0 (Bc f c T K).toArray.toList) := But.setCells _ _ (But.refl _ _)
    refine ⟨HZ.out.setAll (vs := Bc f c T K) rfl, (Bl.alloc hB _).but hbut (by omega), But.below (bel_alloc w _) hbut (by simp) (Nat.le_refl _)⟩
  have o0 := HA1.out.1.cell 0 _ rfl
  have o1 := HA1.out.1.cell 1 _ rfl
  have HT2 : Aside (W1.there g 0 (#[.int .i64 f, .int .i64 c, .int .i64 J, .int .i64 0, .int .i64 0, .int .i64 0, .int .i64 0, .int .i64 0, .int .i64 0, .int .i64 0, .int .i64 0, .int .i64 0, .int .i64 0, .int .i64 0, .int .i64 0, .int .i64 0, .int .i64 0, .int .i64 0, .int .i64 0] : Array Value).size) := Aside.intro (HA1.out.2.1.there 0 19 (Nat.le_refl 19))
  have HO2 : Aside ((#[.int .i64 f, .int .i64 c, .int .i64 J, .int .i64 0, .int .i64 0, .int .i64 0, .int .i64 0, .int .i64 0, .int .i64 0, .int .i64 0, .int .i64 0, .int .i64 0, .int .i64 0, .int .i64 0, .int .i64 0, .int .i64 0, .int .i64 0, .int .i64 0, .int .i64 0] : Array Value).all (·.oneCell') = true) := Aside.intro (by simp [Value.oneCell'])
  have HS3 : Aside ((Tryz.prog.info? 143).map (·.size) = some (#[.int .i64 f, .int .i64 c, .int .i64 J, .int .i64 0, .int .i64 0, .int .i64 0, .int .i64 0, .int .i64 0, .int .i64 0, .int .i64 0, .int .i64 0, .int .i64 0, .int .i64 0, .int .i64 0, .int .i64 0, .int .i64 0, .int .i64 0, .int .i64 0, .int .i64 0] : Array Value).size) := Tryz.size_bins9
  obtain ⟨W2, hW2⟩ : ∃ W2, W2 = W1.setCells g 0 (#[.int .i64 f, .int .i64 c, .int .i64 J, .int .i64 0, .int .i64 0, .int .i64 0, .int .i64 0, .int .i64 0, .int .i64 0, .int .i64 0, .int .i64 0, .int .i64 0, .int .i64 0, .int .i64 0, .int .i64 0, .int .i64 0, .int .i64 0, .int .i64 0, .int .i64 0] : Array Value).toList := ⟨_, rfl⟩
  have HW2 := Aside.intro hW2
  have HA2 : Aside (Bl W2 w.heap.size 143 (Bc f c T K) ∧ Bn W2 g f c J (rsK K f d 0) ∧ But g w W2) := by
    have hbut : But g W1 W2 := by rw [hW2]; exact But.setCells _ _ (But.refl _ _)
    refine ⟨HA1.out.1.but hbut (by omega), ?_, ((But.refl g w).of_bel9 HA1.out.2.2).trans hbut⟩
    · rw [rsK_zero, hW2]
      exact HA1.out.2.1.setAll (vs := [.int .i64 f, .int .i64 c, .int .i64 J, .int .i64 0, .int .i64 0, .int .i64 0, .int .i64 0, .int .i64 0, .int .i64 0, .int .i64 0, .int .i64 0, .int .i64 0, .int .i64 0, .int .i64 0, .int .i64 0, .int .i64 0, .int .i64 0, .int .i64 0, .int .i64 0]) rfl
  have HR2 : Aside (W2.rangeAt w.heap.size 3 [.int .i64 (K 0 / 4294967296), .int .i64 (K 0 % 4294967296), .int .i64 (K 1 / 4294967296), .int .i64 (K 1 % 4294967296), .int .i64 (K 2 / 4294967296), .int .i64 (K 2 % 4294967296), .int .i64 (K 3 / 4294967296), .int .i64 (K 3 % 4294967296), .int .i64 (K 4 / 4294967296), .int .i64 (K 4 % 4294967296), .int .i64 (K 5 / 4294967296), .int .i64 (K 5 % 4294967296), .int .i64 (K 6 / 4294967296), .int .i64 (K 6 % 4294967296), .int .i64 (K 7 / 4294967296), .int .i64 (K 7 % 4294967296)]) := Aside.intro (HA2.out.1.range 3 _ (fun j v hv => by
    have e : (Bc f c T K)[3 + j]? = ([.int .i64 (K 0 / 4294967296), .int .i64 (K 0 % 4294967296), .int .i64 (K 1 / 4294967296), .int .i64 (K 1 % 4294967296), .int .i64 (K 2 / 4294967296), .int .i64 (K 2 % 4294967296), .int .i64 (K 3 / 4294967296), .int .i64 (K 3 % 4294967296), .int .i64 (K 4 / 4294967296), .int .i64 (K 4 % 4294967296), .int .i64 (K 5 / 4294967296), .int .i64 (K 5 % 4294967296), .int .i64 (K 6 / 4294967296), .int .i64 (K 6 % 4294967296), .int .i64 (K 7 / 4294967296), .int .i64 (K 7 % 4294967296)] : List Value)[j]? := by rw [Nat.add_comm]; rfl
    rw [e]; exact hv))
  have HS4 : Aside ((Tryz.prog.info? 141).map (·.size) = some ([.int .i64 (K 0 / 4294967296), .int .i64 (K 0 % 4294967296), .int .i64 (K 1 / 4294967296), .int .i64 (K 1 % 4294967296), .int .i64 (K 2 / 4294967296), .int .i64 (K 2 % 4294967296), .int .i64 (K 3 / 4294967296), .int .i64 (K 3 % 4294967296), .int .i64 (K 4 / 4294967296), .int .i64 (K 4 % 4294967296), .int .i64 (K 5 / 4294967296), .int .i64 (K 5 % 4294967296), .int .i64 (K 6 / 4294967296), .int .i64 (K 6 % 4294967296), .int .i64 (K 7 / 4294967296), .int .i64 (K 7 % 4294967296)] : List Value).length) := Tryz.size_arr9
  have HJ := Aside.intro hd
  have HBw := Aside.intro hB
  clear hB hd hW1 hW2
  go_enter Tryz.func83, Tryz.ntmps83
  go_wp2_with (first
    | ((with_reducible refine wpList_load_mid (P := Tryz.prog) rfl 143 (.tmp 14) rfl g 0 rfl (Bc f c T K) db HR.out HD.out.1 HD.out.2 HS.out ?_))
    | ((with_reducible refine wpList_store_mid (P := Tryz.prog) rfl 143 (.tmp 4) (.tmp 15) rfl w.heap.size 0 (Bc f c T K).toArray rfl rfl HT.out HS2.out HO.out ?_); rw [← HW1.out])
    | ((with_reducible refine wpList_store_mid (P := Tryz.prog) rfl 143 (.tmp 23) (.tmp 22) rfl g 0 (#[.int .i64 f, .int .i64 c, .int .i64 J, .int .i64 0, .int .i64 0, .int .i64 0, .int .i64 0, .int .i64 0, .int .i64 0, .int .i64 0, .int .i64 0, .int .i64 0, .int .i64 0, .int .i64 0, .int .i64 0, .int .i64 0, .int .i64 0, .int .i64 0, .int .i64 0] : Array Value) rfl rfl HT2.out HS3.out HO2.out ?_); rw [← HW2.out])
    | ((with_reducible refine wpList_load_mid (P := Tryz.prog) rfl 141 (.tmp 24) rfl w.heap.size 3 rfl [.int .i64 (K 0 / 4294967296), .int .i64 (K 0 % 4294967296), .int .i64 (K 1 / 4294967296), .int .i64 (K 1 % 4294967296), .int .i64 (K 2 / 4294967296), .int .i64 (K 2 % 4294967296), .int .i64 (K 3 / 4294967296), .int .i64 (K 3 % 4294967296), .int .i64 (K 4 / 4294967296), .int .i64 (K 4 % 4294967296), .int .i64 (K 5 / 4294967296), .int .i64 (K 5 % 4294967296), .int .i64 (K 6 / 4294967296), .int .i64 (K 6 % 4294967296), .int .i64 (K 7 / 4294967296), .int .i64 (K 7 % 4294967296)] da HR2.out HE.out.1 HE.out.2 HS4.out ?_)))
  clear HR HS HZ HT HO HS2 HW1 HA1 o0 o1 HT2 HO2 HS3 HW2 HR2 HS4 HBw HD HE k2 hdn W1
  refine wp_loop_rounds 9 ?_
  obtain ⟨u0, hu0⟩ : ∃ u0, u0 = W2 := ⟨_, rfl⟩
  rw [← hu0] at HA2 ⊢
  clear hu0 W2
  have hlt : w.heap.size < u0.heap.size := HA2.out.1.lt
  have kT := HA2.out.1.cell 2 _ rfl
  have kA := (HA2.out.1.alloc (.cells #[.int .i64 (K 0 / 4294967296), .int .i64 (K 0 % 4294967296)] 140)).cell 2 _ rfl
  rw [rounds_succ]
  go_wp2_with fail
  with_reducible refine (P0.out _ (HA2.out.2.1.alloc _)).mono ?_
  rintro r u1 ⟨rfl, hB, hbut⟩
  have HAz1 : Aside (Bl u1 w.heap.size 143 (Bc f c T K) ∧ Bn u1 g f c J (rsK K f d 1) ∧ But g w u1) := ⟨(HA2.out.1.alloc _).but hbut (by omega), hB, (HA2.out.2.2.alloc _).trans hbut⟩
  clear hB hbut hlt kT kA HA2 P0
  go_wp2_with fail
  have hlt : w.heap.size < u1.heap.size := HAz1.out.1.lt
  have kT := HAz1.out.1.cell 2 _ rfl
  have kA := (HAz1.out.1.alloc (.cells #[.int .i64 (K 1 / 4294967296), .int .i64 (K 1 % 4294967296)] 140)).cell 2 _ rfl
  rw [rounds_succ]
  go_wp2_with fail
  with_reducible refine (P1.out _ (HAz1.out.2.1.alloc _)).mono ?_
  rintro r u2 ⟨rfl, hB, hbut⟩
  have HAz2 : Aside (Bl u2 w.heap.size 143 (Bc f c T K) ∧ Bn u2 g f c J (rsK K f d 2) ∧ But g w u2) := ⟨(HAz1.out.1.alloc _).but hbut (by omega), hB, (HAz1.out.2.2.alloc _).trans hbut⟩
  clear hB hbut hlt kT kA HAz1 P1
  go_wp2_with fail
  have hlt : w.heap.size < u2.heap.size := HAz2.out.1.lt
  have kT := HAz2.out.1.cell 2 _ rfl
  have kA := (HAz2.out.1.alloc (.cells #[.int .i64 (K 2 / 4294967296), .int .i64 (K 2 % 4294967296)] 140)).cell 2 _ rfl
  rw [rounds_succ]
  go_wp2_with fail
  with_reducible refine (P2.out _ (HAz2.out.2.1.alloc _)).mono ?_
  rintro r u3 ⟨rfl, hB, hbut⟩
  have HAz3 : Aside (Bl u3 w.heap.size 143 (Bc f c T K) ∧ Bn u3 g f c J (rsK K f d 3) ∧ But g w u3) := ⟨(HAz2.out.1.alloc _).but hbut (by omega), hB, (HAz2.out.2.2.alloc _).trans hbut⟩
  clear hB hbut hlt kT kA HAz2 P2
  go_wp2_with fail
  have hlt : w.heap.size < u3.heap.size := HAz3.out.1.lt
  have kT := HAz3.out.1.cell 2 _ rfl
  have kA := (HAz3.out.1.alloc (.cells #[.int .i64 (K 3 / 4294967296), .int .i64 (K 3 % 4294967296)] 140)).cell 2 _ rfl
  rw [rounds_succ]
  go_wp2_with fail
  with_reducible refine (P3.out _ (HAz3.out.2.1.alloc _)).mono ?_
  rintro r u4 ⟨rfl, hB, hbut⟩
  have HAz4 : Aside (Bl u4 w.heap.size 143 (Bc f c T K) ∧ Bn u4 g f c J (rsK K f d 4) ∧ But g w u4) := ⟨(HAz3.out.1.alloc _).but hbut (by omega), hB, (HAz3.out.2.2.alloc _).trans hbut⟩
  clear hB hbut hlt kT kA HAz3 P3
  go_wp2_with fail
  have hlt : w.heap.size < u4.heap.size := HAz4.out.1.lt
  have kT := HAz4.out.1.cell 2 _ rfl
  have kA := (HAz4.out.1.alloc (.cells #[.int .i64 (K 4 / 4294967296), .int .i64 (K 4 % 4294967296)] 140)).cell 2 _ rfl
  rw [rounds_succ]
  go_wp2_with fail
  with_reducible refine (P4.out _ (HAz4.out.2.1.alloc _)).mono ?_
  rintro r u5 ⟨rfl, hB, hbut⟩
  have HAz5 : Aside (Bl u5 w.heap.size 143 (Bc f c T K) ∧ Bn u5 g f c J (rsK K f d 5) ∧ But g w u5) := ⟨(HAz4.out.1.alloc _).but hbut (by omega), hB, (HAz4.out.2.2.alloc _).trans hbut⟩
  clear hB hbut hlt kT kA HAz4 P4
  go_wp2_with fail
  have hlt : w.heap.size < u5.heap.size := HAz5.out.1.lt
  have kT := HAz5.out.1.cell 2 _ rfl
  have kA := (HAz5.out.1.alloc (.cells #[.int .i64 (K 5 / 4294967296), .int .i64 (K 5 % 4294967296)] 140)).cell 2 _ rfl
  rw [rounds_succ]
  go_wp2_with fail
  with_reducible refine (P5.out _ (HAz5.out.2.1.alloc _)).mono ?_
  rintro r u6 ⟨rfl, hB, hbut⟩
  have HAz6 : Aside (Bl u6 w.heap.size 143 (Bc f c T K) ∧ Bn u6 g f c J (rsK K f d 6) ∧ But g w u6) := ⟨(HAz5.out.1.alloc _).but hbut (by omega), hB, (HAz5.out.2.2.alloc _).trans hbut⟩
  clear hB hbut hlt kT kA HAz5 P5
  go_wp2_with fail
  have hlt : w.heap.size < u6.heap.size := HAz6.out.1.lt
  have kT := HAz6.out.1.cell 2 _ rfl
  have kA := (HAz6.out.1.alloc (.cells #[.int .i64 (K 6 / 4294967296), .int .i64 (K 6 % 4294967296)] 140)).cell 2 _ rfl
  rw [rounds_succ]
  go_wp2_with fail
  with_reducible refine (P6.out _ (HAz6.out.2.1.alloc _)).mono ?_
  rintro r u7 ⟨rfl, hB, hbut⟩
  have HAz7 : Aside (Bl u7 w.heap.size 143 (Bc f c T K) ∧ Bn u7 g f c J (rsK K f d 7) ∧ But g w u7) := ⟨(HAz6.out.1.alloc _).but hbut (by omega), hB, (HAz6.out.2.2.alloc _).trans hbut⟩
  clear hB hbut hlt kT kA HAz6 P6
  go_wp2_with fail
  have hlt : w.heap.size < u7.heap.size := HAz7.out.1.lt
  have kT := HAz7.out.1.cell 2 _ rfl
  have kA := (HAz7.out.1.alloc (.cells #[.int .i64 (K 7 / 4294967296), .int .i64 (K 7 % 4294967296)] 140)).cell 2 _ rfl
  rw [rounds_succ]
  go_wp2_with fail
  with_reducible refine (P7.out _ (HAz7.out.2.1.alloc _)).mono ?_
  rintro r u8 ⟨rfl, hB, hbut⟩
  have HAz8 : Aside (Bl u8 w.heap.size 143 (Bc f c T K) ∧ Bn u8 g f c J (rsK K f d 8) ∧ But g w u8) := ⟨(HAz7.out.1.alloc _).but hbut (by omega), hB, (HAz7.out.2.2.alloc _).trans hbut⟩
  clear hB hbut hlt kT kA HAz7 P7
  go_wp2_with fail
  rw [rounds_succ]
  go_wp2
  go_end0
  exact ⟨rfl, HAz8.out.2.1, HAz8.out.2.2⟩
/-- rise: the top, and what stands where. -/
theorem rise_any (g : Nat) (f c T J : Int) (K : Nat → Int) (w : World) (hB : Bn w g f c T K) (hf : f ≤ 8) (h1 : -100 ≤ T ∧ T ≤ 1000) (h2 : -100 ≤ J ∧ J ≤ 1000) (hK : ∀ i, (K i).natAbs ≤ 2 ^ 75) :
    Calls Tryz.prog 83 #[.pointer (some ⟨g, 0, none⟩), .int .i64 J] w fun r w' => r = .returned (.tuple #[]) ∧ ((J ≤ T ∧ w' = w) ∨ (T < J ∧ Bn w' g f c J (rsK K f (J - T).toNat 8))) ∧ But g w w' := by
  by_cases h : J ≤ T
  · refine (rise_no g f c T J K w hB h).mono ?_
    rintro r w' ⟨rfl, rfl⟩
    exact ⟨rfl, .inl ⟨h, rfl⟩, But.refl _ _⟩
  · refine (rise_yes g (J - T).toNat f c T J K w hB (by omega) (by omega) hf h1 h2 hK).mono ?_
    rintro r w' ⟨rfl, h3, h4⟩
    exact ⟨rfl, .inr ⟨by omega, h3⟩, h4⟩
end Go.Proofs.YtjpaocgimdinmaaGreatDoor

/- Bins by what they count: rise, put, the closure that is handed on. -/
namespace Go.Proofs.YtjpaocgimdinmaaGreatDoor
open Go Go.RowKit
set_option linter.unusedVariables false
set_option maxRecDepth 20000
set_option linter.unusedSimpArgs false

/-- Bins: fold, count, top (from the lowest bin on; -1: none), and what each bin counts. -/
def Bs (w : World) (g f : Nat) (c T : Int) (D : Int → Int) : Prop := Bn w g f c (T - 34) (kf f T D)
theorem Bs.lt {w : World} {g f : Nat} {c T : Int} {D : Int → Int} (h : Bs w g f c T D) : g < w.heap.size := Bl.lt h
theorem Bs.alloc {w : World} {g f : Nat} {c T : Int} {D : Int → Int} (h : Bs w g f c T D) (o : Obj) : Bs (w.alloc o) g f c T D := Bl.alloc h o
theorem Bs.drew {w : World} {g f : Nat} {c T : Int} {D : Int → Int} (h : Bs w g f c T D) : Bs w.drew g f c T D := h
theorem Bs.below {w w' : World} {g B f : Nat} {c T : Int} {D : Int → Int} (h : Bs w g f c T D) (hb : Below B w w') (hg : g < B) : Bs w' g f c T D := Bl.below h hb hg
theorem Bs.but {w w' : World} {g g' f : Nat} {c T : Int} {D : Int → Int} (h : Bs w g f c T D) (hb : But g' w w') (hg : g ≠ g') : Bs w' g f c T D := Bl.but h hb hg
/-- What may stand in bins. -/
structure Dq (T : Int) (D : Int → Int) : Prop where
  top : ∀ t, T < t → D t = 0
  abs : ∀ t, (D t).natAbs ≤ 2 ^ 74
  lo : -1 ≤ T
  hi : T ≤ 70
theorem kf_abs {T : Int} {D : Int → Int} (h : Dq T D) (f : Nat) (i : Nat) : (kf f T D i).natAbs ≤ 2 ^ 75 := by
  unfold kf
  split
  · have := h.abs (T - i); omega
  · simp
theorem kf_rise {T J : Int} {D : Int → Int} (h : Dq T D) (f : Nat) (hf : f ≤ 8) (hJ : T < J) : rsK (kf f T D) f (J - T).toNat 8 = kf f J D := by
  funext k
  unfold rsK kf
  by_cases h1 : k < f
  · rw [if_pos h1]
    by_cases h2 : (J - T).toNat ≤ k
    · rw [if_pos (by omega), if_pos (by omega)]
      congr 1; omega
    · rw [if_neg (by omega), h.top _ (by omega)]
  · rw [if_neg (by omega), if_neg h1]
theorem kf_put (f : Nat) (T j v : Int) (D : Int → Int) (hj : j ≤ T) : putK (kf f T D) f (T - j) v = kf f T (upd D j v) := by
  funext k
  unfold putK kf upd
  by_cases h1 : k < f
  · rw [if_pos h1, if_pos h1]
    by_cases h2 : (k : Int) = T - j
    · rw [if_pos (by omega), if_pos (by omega)]
    · rw [if_neg (by omega), if_neg (by omega)]
  · rw [if_neg h1, if_neg h1, if_neg (by omega)]
theorem rise_abs (g f : Nat) (c T J : Int) (D : Int → Int) (w : World) (hB : Bs w g f c T D) (hD : Dq T D) (hf : f ≤ 8) (h2 : -60 ≤ J ∧ J ≤ 1000) :
    Calls Tryz.prog 83 #[.pointer (some ⟨g, 0, none⟩), .int .i64 (J - 34)] w fun r w' => r = .returned (.tuple #[]) ∧ Bs w' g f c (max T J) D ∧ But g w w' := by
  refine (rise_any g f c (T - 34) (J - 34) (kf f T D) w hB (by omega) (by have := hD.lo; have := hD.hi; omega) (by omega) (kf_abs hD f)).mono ?_
  rintro r w' ⟨rfl, h, hb⟩
  refine ⟨rfl, ?_, hb⟩
  rcases h with ⟨h, rfl⟩ | ⟨h, h3⟩
  · rw [show max T J = T by omega]; exact hB
  · rw [show J - 34 - (T - 34) = J - T by omega, kf_rise hD f hf (by omega)] at h3
    rw [show max T J = J by omega]; exact h3
theorem put_abs (g f : Nat) (c T j v : Int) (D : Int → Int) (w : World) (hB : Bs w g f c T D) (hD : ∀ t, (D t).natAbs ≤ 2 ^ 74) (hT : -1 ≤ T ∧ T ≤ 70) (hf : f ≤ 8) (hj : j ≤ T) (h2 : -60 ≤ j) (hv : v.natAbs ≤ 2 ^ 74) :
    Calls Tryz.prog 84 #[.pointer (some ⟨g, 0, none⟩), .int .i64 (j - 34), .agg #[.int .i64 (v / 4294967296), .int .i64 (v % 4294967296)]] w fun r w' => r = .returned (.tuple #[]) ∧ Bs w' g f c T (upd D j v) ∧ But g w w' := by
  have := put_any g f c (T - 34) (j - 34) v (kf f T D) w hB (by omega) (by omega) (by omega) (by omega) (fun i => by unfold kf; split; (have := hD (T - i); omega); simp) (by omega)
  rw [show T - 34 - (j - 34) = T - j by omega, kf_put f T j v D hj] at this
  exact this

set_option maxHeartbeats 400000 in
theorem hand_core (g h : Nat) (j x y : Int) (w : World) (hh : h < w.heap.size) (hg : g < w.heap.size) (hne : h ≠ g) (hc : w.cell? ⟨h, 0, none⟩ = some (.pointer (some ⟨g, 0, none⟩))) (Q : World → Prop)
    (HR : Hid (∃ R : World → Prop, Calls Tryz.prog 83 #[.pointer (some ⟨g, 0, none⟩), .int .i64 j] (w.alloc (.cells #[.int .i64 x, .int .i64 y] 140)) (fun r w' => r = .returned (.tuple #[]) ∧ R w' ∧ But g (w.alloc (.cells #[.int .i64 x, .int .i64 y] 140)) w') ∧
      ∀ u, R u → But g (w.alloc (.cells #[.int .i64 x, .int .i64 y] 140)) u → Calls Tryz.prog 84 #[.pointer (some ⟨g, 0, none⟩), .int .i64 j, .agg #[.int .i64 x, .int .i64 y]] u fun r w' => r = .returned (.tuple #[]) ∧ Q w')) :
    Calls Tryz.prog 145 #[.int .i64 j, .agg #[.int .i64 x, .int .i64 y], .pointer (some ⟨h, 0, none⟩)] w fun r w' => r = .returned (.tuple #[]) ∧ Q w' := by
  obtain ⟨R, h1, h2⟩ := HR.out
  have H1 := hid h1
  have H2 := hid h2
  have hB0 : Aside (Bl (w.alloc (.cells #[.int .i64 x, .int .i64 y] 140)) w.heap.size 140 [.int .i64 x, .int .i64 y]) := Bl.new w 140 [_, _]
  have HG := Aside.intro (And.intro hh (And.intro hg (And.intro hne hc)))
  clear h1 h2 HR
  go_enter Tryz.func145, Tryz.ntmps145
  go_wp2_with fail
  with_reducible refine H1.out.mono ?_
  rintro r u ⟨rfl, hR, hbut⟩
  have HU := Aside.intro (And.intro hR hbut)
  have c0 : u.cell? ⟨h, 0, none⟩ = some (.pointer (some ⟨g, 0, none⟩)) := by
    have e1 : u.heap[h]? = (w.alloc (.cells #[.int .i64 x, .int .i64 y] 140)).heap[h]? := hbut.block h (by simp; omega) hne
    have e2 : (w.alloc (.cells #[.int .i64 x, .int .i64 y] 140)).heap[h]? = w.heap[h]? := (bel_alloc w _).block h hh
    have e3 : u.cell? ⟨h, 0, none⟩ = w.cell? ⟨h, 0, none⟩ := by unfold World.cell?; simp only; rw [e1, e2]
    rw [e3]; exact hc
  have b1 := hB0.out.but hbut (by omega)
  have c1 := b1.cell 0 _ rfl
  have c2 := b1.cell 1 _ rfl
  clear b1 hR hbut hc
  go_wp2_with fail
  with_reducible refine (H2.out _ HU.out.1 HU.out.2).mono ?_
  rintro r u2 ⟨rfl, hQ⟩
  go_wp2
  go_end0
  exact ⟨rfl, hQ⟩
/-- What the closure does that eachSlice is handed. -/
theorem hand_any (g h f : Nat) (c T j v : Int) (D : Int → Int) (w : World) (hB : Bs w g f c T D) (hD : Dq T D) (hf : f ≤ 8) (hj : -34 ≤ j ∧ j ≤ 36) (hv : v.natAbs ≤ 2 ^ 74) (hh : h < w.heap.size) (hne : h ≠ g) (hc : w.cell? ⟨h, 0, none⟩ = some (.pointer (some ⟨g, 0, none⟩))) :
    Calls Tryz.prog 145 #[.int .i64 j, .agg #[.int .i64 (v / 4294967296), .int .i64 (v % 4294967296)], .pointer (some ⟨h, 0, none⟩)] w fun r w' => r = .returned (.tuple #[]) ∧ Bs w' g f c (max T (j + 34)) (upd D (j + 34) v) ∧ But g w w' := by
  refine hand_core g h j _ _ w hh hB.lt hne hc (fun w' => Bs w' g f c (max T (j + 34)) (upd D (j + 34) v) ∧ But g w w') (hid ⟨fun u => Bs u g f c (max T (j + 34)) D, ?_, ?_⟩)
  · have := rise_abs g f c T (j + 34) D _ (hB.alloc (.cells #[.int .i64 (v / 4294967296), .int .i64 (v % 4294967296)] 140)) hD hf (by omega)
    rw [show j + 34 - 34 = j by omega] at this
    exact this
  · intro u hu hb
    have := put_abs g f c (max T (j + 34)) (j + 34) v D u hu hD.abs (by have := hD.lo; have := hD.hi; omega) hf (by omega) (by omega) hv
    rw [show j + 34 - 34 = j by omega] at this
    refine this.mono ?_
    rintro r w' ⟨rfl, h1, h2⟩
    exact ⟨rfl, h1, (((But.refl g w).alloc _).trans hb).trans h2⟩
/-- A slice is handed on, if it is not nought. -/
def hnd (s : Int × (Int → Int)) (t v : Int) : Int × (Int → Int) := if v = 0 then s else (max s.1 t, upd s.2 t v)
theorem ss_ne (z : Int) (t : Nat) : ss z t ≠ 0 ↔ sl z.natAbs t ≠ 0 := by
  unfold ss
  rw [if_neg (by omega), Int.toNat_natCast]
  split <;> omega
theorem hnd_three (T : Int) (D : Int → Int) (z : Int) (t0 : Nat) (hT : -1 ≤ T) (hz : ∀ t : Int, t < t0 ∨ (t0 : Int) + 2 < t → ss z t = 0) :
    hnd (hnd (hnd (T, D) ((t0 : Int) + 2) (ss z ((t0 : Int) + 2))) ((t0 : Int) + 1) (ss z ((t0 : Int) + 1))) t0 (ss z t0) = (max T (tp z.natAbs), fun t => D t + ss z t) := by
  have hs : ∀ u : Nat, t0 + 2 < u → sl z.natAbs u = 0 := fun u hu => by
    have := hz u (.inr (by omega))
    rcases Nat.eq_zero_or_pos (sl z.natAbs u) with q | q
    · exact q
    · exact absurd this ((ss_ne z u).2 (by omega))
  have hs0 : ∀ u : Nat, u < t0 → sl z.natAbs u = 0 := fun u hu => by
    have := hz u (.inl (by omega))
    rcases Nat.eq_zero_or_pos (sl z.natAbs u) with q | q
    · exact q
    · exact absurd this ((ss_ne z u).2 (by omega))
  have e2 : ((t0 : Int) + 2) = ((t0 + 2 : Nat) : Int) := by omega
  have e1 : ((t0 : Int) + 1) = ((t0 + 1 : Nat) : Int) := by omega
  have hno : ∀ u : Nat, ¬ sl z.natAbs u ≠ 0 → sl z.natAbs u = 0 := fun u q => by omega
  have key : tp z.natAbs = if ss z ((t0 : Int) + 2) ≠ 0 then ((t0 : Int) + 2) else if ss z ((t0 : Int) + 1) ≠ 0 then ((t0 : Int) + 1) else if ss z (t0 : Int) ≠ 0 then (t0 : Int) else -1 := by
    by_cases q2 : ss z ((t0 : Int) + 2) ≠ 0
    · rw [if_pos q2, e2]
      rw [e2] at q2
      exact tp_iff _ _ ((ss_ne z _).1 q2) (fun u hu => hs u hu)
    · rw [if_neg q2]
      have z2 : sl z.natAbs (t0 + 2) = 0 := hno _ (fun q => q2 (by rw [e2]; exact (ss_ne z _).2 q))
      by_cases q1 : ss z ((t0 : Int) + 1) ≠ 0
      · rw [if_pos q1, e1]
        rw [e1] at q1
        refine tp_iff _ _ ((ss_ne z _).1 q1) (fun u hu => ?_)
        by_cases q : u = t0 + 2
        · rw [q]; exact z2
        · exact hs u (by omega)
      · rw [if_neg q1]
        have z1 : sl z.natAbs (t0 + 1) = 0 := hno _ (fun q => q1 (by rw [e1]; exact (ss_ne z _).2 q))
        by_cases q0 : ss z (t0 : Int) ≠ 0
        · rw [if_pos q0]
          refine tp_iff _ _ ((ss_ne z _).1 q0) (fun u hu => ?_)
          by_cases q : u = t0 + 2
          · rw [q]; exact z2
          · by_cases q' : u = t0 + 1
            · rw [q']; exact z1
            · exact hs u (by omega)
        · rw [if_neg q0]
          have z0 : sl z.natAbs t0 = 0 := hno _ (fun q => q0 ((ss_ne z _).2 q))
          have hall : ∀ u, sl z.natAbs u = 0 := fun u => by
            by_cases q : u = t0 + 2
            · rw [q]; exact z2
            · by_cases q' : u = t0 + 1
              · rw [q']; exact z1
              · by_cases q'' : u = t0
                · rw [q'']; exact z0
                · rcases Nat.lt_or_ge u t0 with q3 | q3
                  · exact hs0 u q3
                  · exact hs u (by omega)
          have := tp_ge z.natAbs
          by_cases q3 : tp z.natAbs = -1
          · exact q3
          · obtain ⟨u, hu⟩ : ∃ u : Nat, tp z.natAbs = u := ⟨(tp z.natAbs).toNat, by omega⟩
            exact absurd (hall u) (sl_top _ u hu)
  refine Prod.ext ?_ ?_
  · rw [key]
    unfold hnd
    by_cases q2 : ss z ((t0 : Int) + 2) = 0
    · by_cases q1 : ss z ((t0 : Int) + 1) = 0
      · by_cases q0 : ss z (t0 : Int) = 0
        · simp only [q2, q1, q0, if_true, ne_eq, not_true_eq_false, if_false]; omega
        · simp only [q2, q1, q0, if_true, ne_eq, not_true_eq_false, if_false, not_false_eq_true]
      · by_cases q0 : ss z (t0 : Int) = 0
        · simp only [q2, q1, q0, if_true, ne_eq, not_true_eq_false, if_false, not_false_eq_true]
        · simp only [q2, q1, q0, if_true, ne_eq, not_true_eq_false, if_false, not_false_eq_true]; omega
    · by_cases q1 : ss z ((t0 : Int) + 1) = 0
      · by_cases q0 : ss z (t0 : Int) = 0
        · simp only [q2, q1, q0, if_true, ne_eq, not_true_eq_false, if_false, not_false_eq_true]
        · simp only [q2, q1, q0, if_true, ne_eq, not_true_eq_false, if_false, not_false_eq_true]; omega
      · by_cases q0 : ss z (t0 : Int) = 0
        · simp only [q2, q1, q0, if_true, ne_eq, not_true_eq_false, if_false, not_false_eq_true]; omega
        · simp only [q2, q1, q0, if_true, ne_eq, not_true_eq_false, if_false, not_false_eq_true]; omega
  · have hu : ∀ (s : Int × (Int → Int)) (t v : Int), (hnd s t v).2 = fun u => if u = t then s.2 u + v else s.2 u := by
      intro s t v
      unfold hnd
      split
      · rename_i q; rw [q]; funext u; split <;> simp
      · rfl
    rw [hu, hu, hu]
    funext t
    dsimp only
    by_cases a0 : t = t0
    · subst a0; rw [if_pos rfl, if_neg (by omega), if_neg (by omega)]
    · rw [if_neg a0]
      by_cases a1 : t = (t0 : Int) + 1
      · subst a1; rw [if_pos rfl, if_neg (by omega)]
      · rw [if_neg a1]
        by_cases a2 : t = (t0 : Int) + 2
        · subst a2; rw [if_pos rfl]
        · rw [if_neg a2, hz t (by omega), Int.add_zero]
end Go.Proofs.YtjpaocgimdinmaaGreatDoor

