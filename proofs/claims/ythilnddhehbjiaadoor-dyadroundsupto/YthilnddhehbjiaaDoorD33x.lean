import Derived.Test.YthilnddhehbjiaaDoorD16x
import Derived.Test.YthilnddhehbjiaaDoorD34
import Derived.BigQuiet
import Derived.Deep.RegionHeld3
/- Numbers from the top on: plain mathematics for comparing. -/
namespace Go.Proofs.YthilnddhehbjiaaDoor
open Go.RowKit
set_option linter.unusedVariables false
set_option maxRecDepth 20000

/-- What stands above the bit i. -/
def top (X : Nat) (i : Int) : Nat := if i < 0 then X * 2 ^ (-i).toNat else X / 2 ^ i.toNat
theorem win_top (X : Nat) (i : Int) : win X i = top X i % 4294967296 := by unfold win top; split <;> rfl
theorem two32 : (2 : Nat) ^ 32 = 4294967296 := rfl
theorem top_down (X : Nat) (i : Int) : top X (i - 32) / 4294967296 = top X i := by
  rw [← two32]
  unfold top
  by_cases h : i < 0
  · rw [if_pos (by omega), if_pos h, show (-(i - 32)).toNat = (-i).toNat + 32 by omega, Nat.pow_add, ← Nat.mul_assoc, Nat.mul_div_cancel _ (Nat.two_pow_pos 32)]
  · by_cases h2 : i < 32
    · rw [if_pos (by omega), if_neg h]
      obtain ⟨k, hk⟩ : ∃ k, k = (-(i - 32)).toNat := ⟨_, rfl⟩
      have e : 32 = k + i.toNat := by omega
      rw [← hk]
      generalize i.toNat = m at e ⊢
      rw [show (2 : Nat) ^ 32 = 2 ^ k * 2 ^ m by rw [← Nat.pow_add, ← e], Nat.mul_comm X, Nat.mul_div_mul_left _ _ (Nat.two_pow_pos k)]
    · rw [if_neg (by omega), if_neg h, Nat.div_div_eq_div_mul, ← Nat.pow_add, show (i - 32).toNat + 32 = i.toNat by omega]
theorem top_step (X : Nat) (i : Int) : top X (i - 32) = top X i * 4294967296 + win X (i - 32) := by
  rw [win_top, ← top_down X i]
  exact (Nat.div_add_mod' _ _).symm
theorem top_shift (X d : Nat) (j : Int) : top X (j - (d : Int)) = top (X * 2 ^ d) j := by
  unfold top
  by_cases h : j < 0
  · rw [if_pos (by omega), if_pos h, show (-(j - (d : Int))).toNat = d + (-j).toNat by omega, Nat.pow_add, Nat.mul_assoc]
  · rw [if_neg h]
    by_cases h2 : j < d
    · rw [if_pos (by omega)]
      obtain ⟨k, hk⟩ : ∃ k, k = (-(j - (d : Int))).toNat := ⟨_, rfl⟩
      have e : d = k + j.toNat := by omega
      rw [← hk]
      generalize j.toNat = m at e ⊢
      rw [e, Nat.pow_add, ← Nat.mul_assoc, Nat.mul_div_cancel _ (Nat.two_pow_pos m)]
    · rw [if_neg (by omega)]
      obtain ⟨k, hk⟩ : ∃ k, k = (j - (d : Int)).toNat := ⟨_, rfl⟩
      have e : j.toNat = k + d := by omega
      rw [← hk, e, Nat.pow_add, Nat.mul_div_mul_right _ _ (Nat.two_pow_pos d)]
theorem top_mono {X Y : Nat} (h : X ≤ Y) (j : Int) : top X j ≤ top Y j := by
  unfold top
  split
  · exact Nat.mul_le_mul_right _ h
  · exact Nat.div_le_div_right h
theorem top_lt {X Y : Nat} {j : Int} (h : top X j < top Y j) : X < Y := by
  rcases Nat.lt_or_ge X Y with k | k
  · exact k
  · have := top_mono k j; omega
theorem top_inj {X Y : Nat} {j : Int} (hj : j ≤ 0) (h : top X j = top Y j) : X = Y := by
  unfold top at h
  by_cases h0 : j < 0
  · rw [if_pos h0, if_pos h0] at h
    exact Nat.eq_of_mul_eq_mul_right (Nat.two_pow_pos _) h
  · rw [if_neg h0, if_neg h0, show j.toNat = 0 by omega] at h
    simpa using h
theorem top_bl (X : Nat) : top X (bl X : Int) = 0 := by
  unfold top
  rw [if_neg (by omega), Int.toNat_natCast]
  exact Nat.div_eq_of_lt (bl_lt X)

/-- A step of the comparison. -/
theorem top_differ {X Y : Nat} {i j : Int} (d : Nat) (hij : i = j - d) (h : top X i = top Y j) (hne : cmpI (win X (i - 32)) (win Y (j - 32)) ≠ 0) :
    cmpI (win X (i - 32)) (win Y (j - 32)) = cmpI (X * 2 ^ d) Y := by
  have h1 := top_step X i
  have h2 := top_step Y j
  have h3 := top_shift X d (j - 32)
  rw [show j - 32 - (d : Int) = i - 32 by omega] at h3
  rw [h] at h1
  generalize top Y j * 4294967296 = T at h1 h2
  unfold cmpI at hne ⊢
  by_cases k : win X (i - 32) < win Y (j - 32)
  · rw [if_pos k]
    have : X * 2 ^ d < Y := top_lt (j := j - 32) (by rw [← h3]; omega)
    rw [if_pos this]
  · rw [if_neg k] at hne ⊢
    by_cases k2 : win Y (j - 32) < win X (i - 32)
    · rw [if_pos k2]
      have : Y < X * 2 ^ d := top_lt (j := j - 32) (by rw [← h3]; omega)
      rw [if_neg (by omega), if_pos this]
    · rw [if_neg k2] at hne; exact absurd rfl hne
theorem cmpI_zero {x y : Nat} (h : cmpI x y = 0) : x = y := by
  unfold cmpI at h
  split at h
  · cases h
  · split at h
    · cases h
    · omega
theorem top_alike {X Y : Nat} {i j : Int} (h : top X i = top Y j) (he : cmpI (win X (i - 32)) (win Y (j - 32)) = 0) : top X (i - 32) = top Y (j - 32) := by
  rw [top_step, top_step, h, cmpI_zero he]
theorem top_end {X Y : Nat} {i j : Int} (d : Nat) (hij : i = j - d) (h : top X i = top Y j) (hj : j ≤ 0) : cmpI (X * 2 ^ d) Y = 0 := by
  subst hij
  rw [top_shift] at h
  rw [top_inj hj h]
  unfold cmpI
  rw [if_neg (Nat.lt_irrefl _), if_neg (Nat.lt_irrefl _)]

/-- How X times 2^e stands to Y times 2^f. -/
def cmpP (X : Nat) (e : Int) (Y : Nat) (f : Int) : Int := if e < f then cmpI X (Y * 2 ^ (f - e).toNat) else cmpI (X * 2 ^ (e - f).toNat) Y
theorem cmpI_neg (x y : Nat) : -cmpI x y = cmpI y x := by
  unfold cmpI
  rcases Nat.lt_trichotomy x y with h | h | h
  · rw [if_pos h, if_neg (by omega), if_pos h]; rfl
  · subst h; rw [if_neg (by omega), if_neg (by omega)]; rfl
  · rw [if_neg (by omega), if_pos h, if_pos h]
theorem cmpI_self (x : Nat) : cmpI x x = 0 := by unfold cmpI; rw [if_neg (Nat.lt_irrefl _), if_neg (Nat.lt_irrefl _)]
theorem cmpP_neg (X : Nat) (e : Int) (Y : Nat) (f : Int) : -cmpP X e Y f = cmpP Y f X e := by
  unfold cmpP
  by_cases h : e < f
  · rw [if_pos h, if_neg (by omega), cmpI_neg]
  · rw [if_neg h]
    by_cases h2 : f < e
    · rw [if_pos h2, cmpI_neg]
    · rw [if_neg h2, cmpI_neg, show (e - f).toNat = 0 by omega, show (f - e).toNat = 0 by omega, Nat.pow_zero, Nat.mul_one, Nat.mul_one]
theorem cmpP_self (X : Nat) (e : Int) : cmpP X e X e = 0 := by
  unfold cmpP
  rw [if_neg (by omega), Int.sub_self]
  show cmpI (X * 2 ^ 0) X = 0
  rw [Nat.pow_zero, Nat.mul_one, cmpI_self]
/-- Where the lengths tell. -/
theorem cmpI_bl {x y : Nat} (h : bl x ≠ bl y) : cmpI x y = cmpI (bl x) (bl y) := by
  unfold cmpI
  rcases Nat.lt_or_ge (bl x) (bl y) with k | k
  · have : x < y := by
      rcases Nat.lt_or_ge x y with q | q
      · exact q
      · have := bl_mono q; omega
    rw [if_pos k, if_pos this]
  · have : y < x := by
      rcases Nat.lt_or_ge y x with q | q
      · exact q
      · have := bl_mono q; omega
    rw [if_neg (by omega : ¬ x < y), if_pos this, if_neg (by omega : ¬ bl x < bl y), if_pos (by omega : bl y < bl x)]
theorem cmpI_range (x y : Nat) : cmpI x y = -1 ∨ cmpI x y = 0 ∨ cmpI x y = 1 := by
  unfold cmpI; split
  · exact .inl rfl
  · split
    · exact .inr (.inr rfl)
    · exact .inr (.inl rfl)
theorem cmpP_range (X : Nat) (e : Int) (Y : Nat) (f : Int) : cmpP X e Y f = -1 ∨ cmpP X e Y f = 0 ∨ cmpP X e Y f = 1 := by
  unfold cmpP; split <;> exact cmpI_range _ _

/-- The sign of a value, and how two values stand. -/
def sgn (n : Bool) (X : Nat) : Int := if X = 0 then 0 else if n then -1 else 1
def cmpV (n : Bool) (X : Nat) (e : Int) (m : Bool) (Y : Nat) (f : Int) : Int :=
  if sgn n X < sgn m Y then -1 else if sgn m Y < sgn n X then 1 else if X = 0 then 0 else if n then cmpP Y f X e else cmpP X e Y f
end Go.Proofs.YthilnddhehbjiaaDoor

/- dyad's Sign, cmpFromTop, cmpSizes, Cmp. -/
namespace Go.Proofs.YthilnddhehbjiaaDoor
open Go.RowKit
set_option linter.unusedVariables false
set_option maxRecDepth 20000
set_option linter.unusedSimpArgs false

theorem isNaN_w (x : Int) (w : World) : Calls Tryd.prog 141 #[.int .u64 x] w fun r w' => r = .returned (.bool false) ∧ w' = w := by
  go_enter Tryd.func141, Tryd.ntmps141
  go_wp2
  go_ret
  exact ⟨rfl, rfl⟩
def cmpZ (x y : Int) : Int := if x < y then -1 else if y < x then 1 else 0
theorem cmpZ_nat (x y : Nat) : cmpZ (x : Int) (y : Int) = cmpI x y := by
  unfold cmpZ cmpI
  simp only [Int.ofNat_lt]
theorem compare_w (x y : Int) (w : World) : Calls Tryd.prog 120 #[.int .u64 x, .int .u64 y] w fun r w' => r = .returned (.int .i64 (cmpZ x y)) ∧ w' = w := by
  have H : Hid (∀ x w, _) := isNaN_w
  rcases Int.lt_trichotomy x y with h | h | h
  · have e : cmpZ x y = -1 := by simp [cmpZ, h]
    rw [e]; clear e
    go_enter Tryd.func120, Tryd.ntmps120
    go_wp2_with fail
    refine (H.out _ _).mono ?_
    rintro r w1 ⟨rfl, rfl⟩
    go_wp2_with fail
    refine (H.out _ _).mono ?_
    rintro r w1 ⟨rfl, rfl⟩
    go_wp2
    go_ret
    exact ⟨rfl, rfl⟩
  · have e : cmpZ x y = 0 := by simp [cmpZ, h]
    rw [e]; clear e
    subst h
    go_enter Tryd.func120, Tryd.ntmps120
    go_wp2_with fail
    refine (H.out _ _).mono ?_
    rintro r w1 ⟨rfl, rfl⟩
    go_wp2_with fail
    refine (H.out _ _).mono ?_
    rintro r w1 ⟨rfl, rfl⟩
    go_wp2
    go_ret
    exact ⟨rfl, rfl⟩
  · have e : cmpZ x y = 1 := by unfold cmpZ; rw [if_neg (by omega), if_pos h]
    rw [e]; clear e
    have h0 : decide (x < y) = false := decide_eq_false (by omega)
    go_enter Tryd.func120, Tryd.ntmps120
    go_wp2_with fail
    refine (H.out _ _).mono ?_
    rintro r w1 ⟨rfl, rfl⟩
    go_wp2_with fail
    refine (H.out _ _).mono ?_
    rintro r w1 ⟨rfl, rfl⟩
    go_wp2
    go_ret
    exact ⟨rfl, rfl⟩

theorem compare_z (x y : Int) (w : World) : Calls Tryd.prog 90 #[.int .i64 x, .int .i64 y] w fun r w' => r = .returned (.int .i64 (cmpZ x y)) ∧ w' = w := by
  have H : Hid (∀ x w, _) := isNaN_i
  rcases Int.lt_trichotomy x y with h | h | h
  · have e : cmpZ x y = -1 := by simp [cmpZ, h]
    rw [e]; clear e
    go_enter Tryd.func90, Tryd.ntmps90
    go_wp2_with fail
    refine (H.out _ _).mono ?_
    rintro r w1 ⟨rfl, rfl⟩
    go_wp2_with fail
    refine (H.out _ _).mono ?_
    rintro r w1 ⟨rfl, rfl⟩
    go_wp2
    go_ret
    exact ⟨rfl, rfl⟩
  · have e : cmpZ x y = 0 := by simp [cmpZ, h]
    rw [e]; clear e
    subst h
    go_enter Tryd.func90, Tryd.ntmps90
    go_wp2_with fail
    refine (H.out _ _).mono ?_
    rintro r w1 ⟨rfl, rfl⟩
    go_wp2_with fail
    refine (H.out _ _).mono ?_
    rintro r w1 ⟨rfl, rfl⟩
    go_wp2
    go_ret
    exact ⟨rfl, rfl⟩
  · have e : cmpZ x y = 1 := by unfold cmpZ; rw [if_neg (by omega), if_pos h]
    rw [e]; clear e
    have h0 : decide (x < y) = false := decide_eq_false (by omega)
    go_enter Tryd.func90, Tryd.ntmps90
    go_wp2_with fail
    refine (H.out _ _).mono ?_
    rintro r w1 ⟨rfl, rfl⟩
    go_wp2_with fail
    refine (H.out _ _).mono ?_
    rintro r w1 ⟨rfl, rfl⟩
    go_wp2
    go_ret
    exact ⟨rfl, rfl⟩

set_option maxHeartbeats 2000000 in
theorem Sign_any3 {w : World} {a : Option Addr} {n c : Nat} {xs : List Nat} (h1 : Arg w a n c xs) (ng : Bool) (e : Int) :
    Calls Tryd.prog 37 #[.agg #[.bool ng, .slice a n c, .int .i64 e]] w fun r w' => r = .returned (.int .i64 (sgn ng (val xs))) ∧ Below w.heap.size w w' := by
  have hB : Below w.heap.size w (w.alloc (.cells #[.bool ng, .slice a n c, .int .i64 e] 39)) := below_alloc w _
  have A1 := h1.below hB
  have hbig := h1.big
  have H1 := hid (len_any xs a n c _ _ A1.len A1.cap (by omega) A1.wf A1.rd)
  obtain ⟨X, hX⟩ : ∃ X, val xs = X := ⟨_, rfl⟩
  rw [hX] at H1 ⊢
  have SB := Aside.intro hB
  clear hB A1 h1 hX hbig
  unfold sgn
  by_cases h0 : X = 0
  · rw [if_pos h0]
    have hb : bl X = 0 := by rw [h0, bl_zero]
    rw [hb] at H1
    clear h0 hb
    go_enter Tryd.func37, Tryd.ntmps37
    go_wp2_with fail
    refine (Calls.mono H1.out) ?_
    rintro r w1 ⟨rfl, rfl⟩
    go_wp2
    go_ret
    exact ⟨rfl, SB.out⟩
  · rw [if_neg h0]
    obtain ⟨b, hb⟩ : ∃ b, bl X = b := ⟨_, rfl⟩
    have hb0 : ((b : Int) == 0) = false := by have := bl_pos X h0; simp; omega
    rw [hb] at H1
    clear h0 hb
    cases ng
    · simp only [Bool.false_eq_true, if_false]
      go_enter Tryd.func37, Tryd.ntmps37
      go_wp2_with fail
      refine (Calls.mono H1.out) ?_
      rintro r w1 ⟨rfl, rfl⟩
      go_wp2
      go_ret
      exact ⟨rfl, SB.out⟩
    · simp only [if_true]
      go_enter Tryd.func37, Tryd.ntmps37
      go_wp2_with fail
      refine (Calls.mono H1.out) ?_
      rintro r w1 ⟨rfl, rfl⟩
      go_wp2
      go_ret
      exact ⟨rfl, SB.out⟩


set_option maxHeartbeats 4000000 in
theorem cmpFromTop_any {w : World} {a b : Option Addr} {n c m d : Nat} {xs ys : List Nat} (h1 : Arg w a n c xs) (h2 : Arg w b m d ys) (dd : Nat) (hd : bl (val xs) + dd = bl (val ys)) :
    Calls Tryd.prog 121 #[.slice a n c, .slice b m d] w fun r w' => r = .returned (.int .i64 (cmpI (val xs * 2 ^ dd) (val ys))) ∧ w' = w := by
  have hb1 := h1.big
  have hb2 := h2.big
  have H1 := hid (len_any xs a n c w.heap.size w h1.len h1.cap (by omega) h1.wf h1.rd)
  have H2 := hid (len_any ys b m d w.heap.size w h2.len h2.cap (by omega) h2.wf h2.rd)
  have b1 : bl (val xs) ≤ 32 * n := by have := val_lt xs h1.wf; rw [← h1.len] at this; exact bl_pw _ _ this
  have b2 : bl (val ys) ≤ 32 * m := by have := val_lt ys h2.wf; rw [← h2.len] at this; exact bl_pw _ _ this
  have WX : Hid (∀ i : Int, -9223372036854775808 ≤ i → i ≤ 9223372036854000000 → Calls Tryd.prog 114 #[.slice a n c, .int .i64 i] w fun r w' => r = .returned (.int .u32 ((win (val xs) i : Nat) : Int)) ∧ w' = w) := fun i h0 h3 => window_any xs a n c w.heap.size i w h1.len (by omega) h1.wf h1.rd h0 (by omega)
  have WY : Hid (∀ i : Int, -9223372036854775808 ≤ i → i ≤ 9223372036854000000 → Calls Tryd.prog 114 #[.slice b m d, .int .i64 i] w fun r w' => r = .returned (.int .u32 ((win (val ys) i : Nat) : Int)) ∧ w' = w) := fun i h0 h3 => window_any ys b m d w.heap.size i w h2.len (by omega) h2.wf h2.rd h0 (by omega)
  obtain ⟨X, hX⟩ : ∃ X, val xs = X := ⟨_, rfl⟩
  obtain ⟨Y, hY⟩ : ∃ Y, val ys = Y := ⟨_, rfl⟩
  rw [hX] at H1 b1 hd WX ⊢
  rw [hY] at H2 b2 hd WY ⊢
  have st : top X (bl X : Int) = top Y (bl Y : Int) := by rw [top_bl, top_bl]
  obtain ⟨i0, hi0⟩ : ∃ i, bl X = i := ⟨_, rfl⟩
  obtain ⟨j0, hj0⟩ : ∃ j, bl Y = j := ⟨_, rfl⟩
  rw [hi0] at H1 b1 hd st
  rw [hj0] at H2 b2 hd st
  obtain ⟨R, hR⟩ : ∃ R, cmpI (X * 2 ^ dd) Y = R := ⟨_, rfl⟩
  rw [hR]
  have HR := Aside.intro hR
  have ST := Aside.intro st
  have HD := Aside.intro hd
  have bi : (i0 : Int) ≤ 1125899906842624 := by omega
  have bj : (j0 : Int) ≤ 1125899906842624 := by omega
  clear h1 h2 hX hY hi0 hj0 st hR hd b1 b2 hb1 hb2
  go_enter Tryd.func121, Tryd.ntmps121
  go_wp2_with fail
  refine (Calls.mono H1.out) ?_
  rintro r w1 ⟨rfl, rfl⟩
  go_wp2_with fail
  refine (Calls.mono H2.out) ?_
  rintro r w1 ⟨rfl, rfl⟩
  go_wp2
  go_loopg [5, 6] (j0 + 32) (fun gk iv jv wr => ∃ i j : Int, (gk : Int) = j + 32 ∧ iv = .int .i64 i ∧ jv = .int .i64 j ∧ wr = w1 ∧ -32 ≤ j ∧ j ≤ 1125899906842624 ∧ i ≤ j ∧ -1125899906842656 ≤ i ∧ Aside (i = j - dd ∧ top X i = top Y j))
  case atStart => exact ⟨i0, j0, by omega, rfl, rfl, rfl, by omega, by omega, by have := HD.out; omega, by omega, by have := HD.out; omega, ST.out⟩
  case round =>
    obtain ⟨i, j, hgk, rfl, rfl, rfl, hj0', hj1, hij, hi0', HA⟩ := hrel
    by_cases hj : 0 < j
    · have hi2 : i - 32 ≤ 9223372036854000000 := by omega
      have hj2 : j - 32 ≤ 9223372036854000000 := by omega
      have G1 := hid (WX.out (i - 32) (by omega) hi2)
      have G2 := hid (WY.out (j - 32) (by omega) hj2)
      obtain ⟨x, hx⟩ : ∃ x, win X (i - 32) = x := ⟨_, rfl⟩
      obtain ⟨y, hy⟩ : ∃ y, win Y (j - 32) = y := ⟨_, rfl⟩
      rw [hx] at G1
      rw [hy] at G2
      have HXY := (Aside.intro (And.intro hx hy))
      have hlo : -1125899906842656 ≤ i := hi0'
      clear hx hy
      have CM := hid (compare_u x y wr)
      obtain ⟨z, hz⟩ : ∃ z, cmpI x y = z := ⟨_, rfl⟩
      rw [hz] at CM
      have HZ := Aside.intro hz
      clear hz
      by_cases hpi : 0 < i
      · by_cases h0 : z = 0
        · subst h0
          go_wp2_with fail
          refine (Calls.mono G1.out) ?_
          rintro r w2 ⟨rfl, rfl⟩
          go_wp2_with fail
          refine (Calls.mono G2.out) ?_
          rintro r w2 ⟨rfl, rfl⟩
          go_wp2_with fail
          refine (Calls.mono CM.out) ?_
          rintro r w2 ⟨rfl, rfl⟩
          go_wp2
          go_roundg (gk - 32)
          case measure => omega
          case rel =>
            refine ⟨i - 32, j - 32, by omega, by first | rfl | go_num, by first | rfl | go_num, rfl, by omega, by omega, by omega, ?_, ?_, ?_⟩
            · have := HA.out.1; have := HD.out; omega
            · have := HA.out.1; omega
            · exact top_alike HA.out.2 (by rw [HXY.out.1, HXY.out.2]; exact HZ.out)
        · have h0' : (z == 0) = false := by simpa using h0
          go_wp2_with fail
          refine (Calls.mono G1.out) ?_
          rintro r w2 ⟨rfl, rfl⟩
          go_wp2_with fail
          refine (Calls.mono G2.out) ?_
          rintro r w2 ⟨rfl, rfl⟩
          go_wp2_with fail
          refine (Calls.mono CM.out) ?_
          rintro r w2 ⟨rfl, rfl⟩
          go_wp2
          have e : z = R := by
            have h := top_differ dd HA.out.1 HA.out.2 (by rw [HXY.out.1, HXY.out.2, HZ.out]; exact h0)
            rw [HXY.out.1, HXY.out.2, HZ.out, HR.out] at h
            exact h
          subst e
          go_ret
          exact ⟨rfl, rfl⟩
      · have hpi' : decide (0 < i) = false := decide_eq_false hpi
        by_cases h0 : z = 0
        · subst h0
          go_wp2_with fail
          refine (Calls.mono G1.out) ?_
          rintro r w2 ⟨rfl, rfl⟩
          go_wp2_with fail
          refine (Calls.mono G2.out) ?_
          rintro r w2 ⟨rfl, rfl⟩
          go_wp2_with fail
          refine (Calls.mono CM.out) ?_
          rintro r w2 ⟨rfl, rfl⟩
          go_wp2
          go_roundg (gk - 32)
          case measure => omega
          case rel =>
            refine ⟨i - 32, j - 32, by omega, by first | rfl | go_num, by first | rfl | go_num, rfl, by omega, by omega, by omega, ?_, ?_, ?_⟩
            · have := HA.out.1; have := HD.out; omega
            · have := HA.out.1; omega
            · exact top_alike HA.out.2 (by rw [HXY.out.1, HXY.out.2]; exact HZ.out)
        · have h0' : (z == 0) = false := by simpa using h0
          go_wp2_with fail
          refine (Calls.mono G1.out) ?_
          rintro r w2 ⟨rfl, rfl⟩
          go_wp2_with fail
          refine (Calls.mono G2.out) ?_
          rintro r w2 ⟨rfl, rfl⟩
          go_wp2_with fail
          refine (Calls.mono CM.out) ?_
          rintro r w2 ⟨rfl, rfl⟩
          go_wp2
          have e : z = R := by
            have h := top_differ dd HA.out.1 HA.out.2 (by rw [HXY.out.1, HXY.out.2, HZ.out]; exact h0)
            rw [HXY.out.1, HXY.out.2, HZ.out, HR.out] at h
            exact h
          subst e
          go_ret
          exact ⟨rfl, rfl⟩
    · have hpi' : decide (0 < i) = false := decide_eq_false (by omega)
      have hpj' : decide (0 < j) = false := decide_eq_false (by omega)
      have e : R = 0 := by rw [← HR.out]; exact top_end dd HA.out.1 HA.out.2 (by omega)
      subst e
      go_wp2
      go_ret
      exact ⟨rfl, rfl⟩


set_option maxHeartbeats 4000000 in
theorem cmpSizes_go {w : World} {a b : Option Addr} {n c m d : Nat} (ng mg : Bool) (e f : Int) (x y dd : Nat) (R : Int) (bx : x ≤ 1125899906842624) (by' : y ≤ 1125899906842624)
    (hge : decide (e < f) = false) (hap : IntKind.u64.wrap (IntKind.u64.wrap e - IntKind.u64.wrap f) = (dd : Int))
    (H1 : Hid (∀ u, Below w.heap.size w u → Calls Tryd.prog 57 #[.slice a n c] u fun r w' => r = .returned (.int .i64 (x : Nat)) ∧ w' = u))
    (H2 : Hid (∀ u, Below w.heap.size w u → Calls Tryd.prog 57 #[.slice b m d] u fun r w' => r = .returned (.int .i64 (y : Nat)) ∧ w' = u))
    (H3 : Hid (∀ u, Below w.heap.size w u → dd + x = y → Calls Tryd.prog 121 #[.slice a n c, .slice b m d] u fun r w' => r = .returned (.int .i64 R) ∧ w' = u)) :
    Calls Tryd.prog 91 #[.agg #[.bool ng, .slice a n c, .int .i64 e], .agg #[.bool mg, .slice b m d, .int .i64 f]] w fun r w' => r = .returned (.int .i64 (if y < dd then 1 else if dd + x = y then R else cmpI (dd + x) y)) ∧ Below w.heap.size w w' := by
  obtain ⟨W1, hW1⟩ : ∃ W, W = (w.alloc (.cells #[.bool ng, .slice a n c, .int .i64 e] 39)).alloc (.cells #[.bool mg, .slice b m d, .int .i64 f] 39) := ⟨_, rfl⟩
  have hB : Below w.heap.size w W1 := by rw [hW1]; exact (below_alloc w _).alloc (by simp) _
  have DA : Dk W1 w.heap.size ng (.slice a n c) e := by rw [hW1]; exact (Dk.new w ng (.slice a n c) e).alloc _
  have DB : Dk W1 (w.heap.size + 1) mg (.slice b m d) f := by
    rw [hW1]
    have := Dk.new (w.alloc (.cells #[.bool ng, .slice a n c, .int .i64 e] 39)) mg (.slice b m d) f
    simpa using this
  obtain ⟨x0, x1, x2, xf0, xf1, xf2⟩ := DA.facts
  obtain ⟨y0, y1, y2, yf0, yf1, yf2⟩ := DB.facts
  have SB := Aside.intro hB
  clear DA DB hB
  have T1 := hid (H1.out W1 SB.out)
  have T2 := hid (H2.out W1 SB.out)
  have T1' := hid (H1.out W1.drew SB.out.drew)
  have T2' := hid (H2.out W1.drew SB.out.drew)
  have ex : IntKind.u64.wrap (x : Int) = (x : Int) := by rw [IntKind.wrap_u64]; omega
  have ey : IntKind.u64.wrap (y : Int) = (y : Int) := by rw [IntKind.wrap_u64]; omega
  by_cases h1 : y < dd
  · rw [if_pos h1]
    have h1' : (y : Int) < (dd : Int) := by omega
    go_enter Tryd.func91, Tryd.ntmps91
    go_upto_region 1 with fail
    rw [← hW1]
    clear hW1
    go_upto_region 4 with fail
    go_region_held3 (fun w' => w'.cell? ⟨w.heap.size, 1, none⟩ = some (.slice a n c) ∧ w'.cell? ⟨w.heap.size + 1, 1, none⟩ = some (.slice b m d)) (go_keep) (first
      | (go_at_call 57
         first | with_reducible refine T1.out.mono ?_ | with_reducible refine T1'.out.mono ?_ | with_reducible refine T2.out.mono ?_ | with_reducible refine T2'.out.mono ?_
         rintro r w' ⟨rfl, rfl⟩))
    all_goals (
      go_wp2
      go_ret
      first | exact ⟨rfl, SB.out⟩ | exact ⟨rfl, SB.out.drew⟩)
  · rw [if_neg h1]
    have h1' : decide ((y : Int) < (dd : Int)) = false := decide_eq_false (by omega)
    have es : IntKind.u64.wrap ((dd : Int) + (x : Int)) = (dd : Int) + (x : Int) := by rw [IntKind.wrap_u64]; omega
    by_cases h2 : dd + x = y
    · rw [if_pos h2]
      have T3 := hid (H3.out W1 SB.out h2)
      have T3' := hid (H3.out W1.drew SB.out.drew h2)
      have h2' : ((dd : Int) + (x : Int) == (y : Int)) = true := by simp; omega
      have h2'' : (dd : Int) + (x : Int) = (y : Int) := by omega
      go_enter Tryd.func91, Tryd.ntmps91
      go_upto_region 1 with fail
      rw [← hW1]
      clear hW1
      go_upto_region 4 with fail
      go_region_held3 (fun w' => w'.cell? ⟨w.heap.size, 1, none⟩ = some (.slice a n c) ∧ w'.cell? ⟨w.heap.size + 1, 1, none⟩ = some (.slice b m d)) (go_keep) (first
        | (go_at_call 57
           first | with_reducible refine T1.out.mono ?_ | with_reducible refine T1'.out.mono ?_ | with_reducible refine T2.out.mono ?_ | with_reducible refine T2'.out.mono ?_
           rintro r w' ⟨rfl, rfl⟩))
      all_goals (
        go_wp2_with fail
        first | with_reducible refine T3.out.mono ?_ | with_reducible refine T3'.out.mono ?_
        rintro r w' ⟨rfl, rfl⟩
        go_wp2
        go_ret
        first | exact ⟨rfl, SB.out⟩ | exact ⟨rfl, SB.out.drew⟩)
    · rw [if_neg h2]
      have h2' : ((dd : Int) + (x : Int) == (y : Int)) = false := by simp; omega
      have CW : Hid (∀ u, Calls Tryd.prog 120 #[.int .u64 ((dd : Int) + (x : Int)), .int .u64 (y : Int)] u fun r w' => r = .returned (.int .i64 (cmpI (dd + x) y)) ∧ w' = u) := fun u => by
        have := compare_w ((dd : Int) + (x : Int)) (y : Int) u
        rw [show (dd : Int) + (x : Int) = ((dd + x : Nat) : Int) by omega, cmpZ_nat] at this
        rw [show (dd : Int) + (x : Int) = ((dd + x : Nat) : Int) by omega]
        exact this
      obtain ⟨z, hz⟩ : ∃ z, cmpI (dd + x) y = z := ⟨_, rfl⟩
      rw [hz] at CW ⊢
      clear hz
      go_enter Tryd.func91, Tryd.ntmps91
      go_upto_region 1 with fail
      rw [← hW1]
      clear hW1
      go_upto_region 4 with fail
      go_region_held3 (fun w' => w'.cell? ⟨w.heap.size, 1, none⟩ = some (.slice a n c) ∧ w'.cell? ⟨w.heap.size + 1, 1, none⟩ = some (.slice b m d)) (go_keep) (first
        | (go_at_call 57
           first | with_reducible refine T1.out.mono ?_ | with_reducible refine T1'.out.mono ?_ | with_reducible refine T2.out.mono ?_ | with_reducible refine T2'.out.mono ?_
           rintro r w' ⟨rfl, rfl⟩))
      all_goals (
        go_wp2_with fail
        refine (CW.out _).mono ?_
        rintro r w' ⟨rfl, rfl⟩
        go_wp2
        go_ret
        first | exact ⟨rfl, SB.out⟩ | exact ⟨rfl, SB.out.drew⟩)
end Go.Proofs.YthilnddhehbjiaaDoor

/- dyad's Cmp. -/
namespace Go.Proofs.YthilnddhehbjiaaDoor
open Go.RowKit
set_option linter.unusedVariables false
set_option maxRecDepth 20000
set_option linter.unusedSimpArgs false

set_option maxHeartbeats 4000000 in
theorem cmpSizes_lt {w : World} {a b : Option Addr} {n c m d : Nat} (ng mg : Bool) (e f : Int) (z : Int) (hlt : e < f) (hz0 : -1 ≤ z) (hz1 : z ≤ 1)
    (HR : Hid (∀ u, Below w.heap.size w u → Calls Tryd.prog 91 #[.agg #[.bool mg, .slice b m d, .int .i64 f], .agg #[.bool ng, .slice a n c, .int .i64 e]] u fun r w' => r = .returned (.int .i64 z) ∧ Below u.heap.size u w')) :
    Calls Tryd.prog 91 #[.agg #[.bool ng, .slice a n c, .int .i64 e], .agg #[.bool mg, .slice b m d, .int .i64 f]] w fun r w' => r = .returned (.int .i64 (-z)) ∧ Below w.heap.size w w' := by
  obtain ⟨W1, hW1⟩ : ∃ W, W = (w.alloc (.cells #[.bool ng, .slice a n c, .int .i64 e] 39)).alloc (.cells #[.bool mg, .slice b m d, .int .i64 f] 39) := ⟨_, rfl⟩
  have hB : Below w.heap.size w W1 := by rw [hW1]; exact (below_alloc w _).alloc (by simp) _
  have hz : W1.heap.size = w.heap.size + 2 := by rw [hW1]; simp
  have DA : Dk W1 w.heap.size ng (.slice a n c) e := by rw [hW1]; exact (Dk.new w ng (.slice a n c) e).alloc _
  have DB : Dk W1 (w.heap.size + 1) mg (.slice b m d) f := by
    rw [hW1]
    have := Dk.new (w.alloc (.cells #[.bool ng, .slice a n c, .int .i64 e] 39)) mg (.slice b m d) f
    simpa using this
  have hs : w.heap.size ≤ W1.heap.size := by omega
  have S0 := (Aside.intro (And.intro hB (And.intro DA DB)))
  clear hz
  clear hB DA DB
  go_enter Tryd.func91, Tryd.ntmps91
  go_upto_region 1 with fail
  rw [← hW1]
  clear hW1
  obtain ⟨hB, DA, DB⟩ := S0.out
  obtain ⟨x0, x1, x2, xf0, xf1, xf2⟩ := DA.facts
  obtain ⟨y0, y1, y2, yf0, yf1, yf2⟩ := DB.facts
  have HH := hid (HR.out W1 hB)
  clear hB DA DB
  go_wp2_with fail
  clear x0 x1 x2 xf0 xf1 xf2 y0 y1 y2 yf0 yf1 yf2
  refine (Calls.mono HH.out) ?_
  rintro r u1 ⟨rfl, hb⟩
  obtain ⟨hB, DA, DB⟩ := S0.out
  have hs1 := hb.size
  have S1 := (Aside.intro (And.intro (hB.trans (hb.mono (by omega))) (And.intro (DA.below hb) (DB.below hb))))
  clear hB DA DB hb HH S0
  go_wp2
  go_ret
  exact ⟨rfl, S1.out.1⟩

set_option maxHeartbeats 4000000 in
theorem cmp_nought {w : World} {a b : Option Addr} {n c m d : Nat} (ng mg : Bool) (e f : Int) (s t z : Int) (hs0 : s = 0)
    (HA : Hid (∀ u, Below w.heap.size w u → Calls Tryd.prog 37 #[.agg #[.bool ng, .slice a n c, .int .i64 e]] u fun r w' => r = .returned (.int .i64 s) ∧ Below u.heap.size u w'))
    (HB : Hid (∀ u, Below w.heap.size w u → Calls Tryd.prog 37 #[.agg #[.bool mg, .slice b m d, .int .i64 f]] u fun r w' => r = .returned (.int .i64 t) ∧ Below u.heap.size u w'))
    (HC : Hid (∀ u, Calls Tryd.prog 90 #[.int .i64 s, .int .i64 t] u fun r w' => r = .returned (.int .i64 z) ∧ w' = u)) :
    Calls Tryd.prog 36 #[.agg #[.bool ng, .slice a n c, .int .i64 e], .agg #[.bool mg, .slice b m d, .int .i64 f]] w fun r w' => r = .returned (.int .i64 z) ∧ Below w.heap.size w w' := by
  subst hs0
  obtain ⟨W1, hW1⟩ : ∃ W, W = (w.alloc (.cells #[.bool ng, .slice a n c, .int .i64 e] 39)).alloc (.cells #[.bool mg, .slice b m d, .int .i64 f] 39) := ⟨_, rfl⟩
  have hB : Below w.heap.size w W1 := by rw [hW1]; exact (below_alloc w _).alloc (by simp) _
  have hz : W1.heap.size = w.heap.size + 2 := by rw [hW1]; simp
  have DA : Dk W1 w.heap.size ng (.slice a n c) e := by rw [hW1]; exact (Dk.new w ng (.slice a n c) e).alloc _
  have DB : Dk W1 (w.heap.size + 1) mg (.slice b m d) f := by
    rw [hW1]
    have := Dk.new (w.alloc (.cells #[.bool ng, .slice a n c, .int .i64 e] 39)) mg (.slice b m d) f
    simpa using this
  have hs : w.heap.size ≤ W1.heap.size := by omega
  have S0 := (Aside.intro (And.intro hB (And.intro DA DB)))
  clear hz
  clear hB DA DB
  go_enter Tryd.func36, Tryd.ntmps36
  go_upto_region 1 with fail
  rw [← hW1]
  clear hW1
  obtain ⟨hB, DA, DB⟩ := S0.out
  obtain ⟨x0, x1, x2, xf0, xf1, xf2⟩ := DA.facts
  obtain ⟨y0, y1, y2, yf0, yf1, yf2⟩ := DB.facts
  have HH := hid (HA.out W1 hB)
  clear hB DA DB
  go_wp2_with fail
  clear x0 x1 x2 xf0 xf1 xf2 y0 y1 y2 yf0 yf1 yf2
  refine (Calls.mono HH.out) ?_
  rintro r u1 ⟨rfl, hb⟩
  obtain ⟨hB, DA, DB⟩ := S0.out
  have hs1 := hb.size
  have S1 := (Aside.intro (And.intro (hB.trans (hb.mono (by omega))) (And.intro (DA.below hb) (DB.below hb))))
  clear hB DA DB hb HH S0
  obtain ⟨hB, DA, DB⟩ := S1.out
  obtain ⟨x0, x1, x2, xf0, xf1, xf2⟩ := DA.facts
  obtain ⟨y0, y1, y2, yf0, yf1, yf2⟩ := DB.facts
  have HH := hid (HB.out u1 hB)
  clear hB DA DB
  go_wp2_with fail
  clear x0 x1 x2 xf0 xf1 xf2 y0 y1 y2 yf0 yf1 yf2
  refine (Calls.mono HH.out) ?_
  rintro r u2 ⟨rfl, hb⟩
  obtain ⟨hB, DA, DB⟩ := S1.out
  have hs2 := hb.size
  have S2 := (Aside.intro (And.intro (hB.trans (hb.mono (by omega))) (And.intro (DA.below hb) (DB.below hb))))
  clear hB DA DB hb HH S1
  obtain ⟨hB, DA, DB⟩ := S2.out
  obtain ⟨x0, x1, x2, xf0, xf1, xf2⟩ := DA.facts
  obtain ⟨y0, y1, y2, yf0, yf1, yf2⟩ := DB.facts
  have HH := hid (HC.out u2)
  clear hB DA DB
  go_wp2_with fail
  clear x0 x1 x2 xf0 xf1 xf2 y0 y1 y2 yf0 yf1 yf2
  refine (Calls.mono HH.out) ?_
  rintro r uu ⟨rfl, hw⟩
  rw [hw]
  clear hw uu HH
  go_wp2
  go_ret
  exact ⟨rfl, S2.out.1⟩

set_option maxHeartbeats 4000000 in
theorem cmp_apart {w : World} {a b : Option Addr} {n c m d : Nat} (ng mg : Bool) (e f : Int) (s t z : Int) (hs0 : (s == 0) = false) (hst : (s == t) = false)
    (HA : Hid (∀ u, Below w.heap.size w u → Calls Tryd.prog 37 #[.agg #[.bool ng, .slice a n c, .int .i64 e]] u fun r w' => r = .returned (.int .i64 s) ∧ Below u.heap.size u w'))
    (HB : Hid (∀ u, Below w.heap.size w u → Calls Tryd.prog 37 #[.agg #[.bool mg, .slice b m d, .int .i64 f]] u fun r w' => r = .returned (.int .i64 t) ∧ Below u.heap.size u w'))
    (HC : Hid (∀ u, Calls Tryd.prog 90 #[.int .i64 s, .int .i64 t] u fun r w' => r = .returned (.int .i64 z) ∧ w' = u)) :
    Calls Tryd.prog 36 #[.agg #[.bool ng, .slice a n c, .int .i64 e], .agg #[.bool mg, .slice b m d, .int .i64 f]] w fun r w' => r = .returned (.int .i64 z) ∧ Below w.heap.size w w' := by
  obtain ⟨W1, hW1⟩ : ∃ W, W = (w.alloc (.cells #[.bool ng, .slice a n c, .int .i64 e] 39)).alloc (.cells #[.bool mg, .slice b m d, .int .i64 f] 39) := ⟨_, rfl⟩
  have hB : Below w.heap.size w W1 := by rw [hW1]; exact (below_alloc w _).alloc (by simp) _
  have hz : W1.heap.size = w.heap.size + 2 := by rw [hW1]; simp
  have DA : Dk W1 w.heap.size ng (.slice a n c) e := by rw [hW1]; exact (Dk.new w ng (.slice a n c) e).alloc _
  have DB : Dk W1 (w.heap.size + 1) mg (.slice b m d) f := by
    rw [hW1]
    have := Dk.new (w.alloc (.cells #[.bool ng, .slice a n c, .int .i64 e] 39)) mg (.slice b m d) f
    simpa using this
  have hs : w.heap.size ≤ W1.heap.size := by omega
  have S0 := (Aside.intro (And.intro hB (And.intro DA DB)))
  clear hz
  clear hB DA DB
  go_enter Tryd.func36, Tryd.ntmps36
  go_upto_region 1 with fail
  rw [← hW1]
  clear hW1
  obtain ⟨hB, DA, DB⟩ := S0.out
  obtain ⟨x0, x1, x2, xf0, xf1, xf2⟩ := DA.facts
  obtain ⟨y0, y1, y2, yf0, yf1, yf2⟩ := DB.facts
  have HH := hid (HA.out W1 hB)
  clear hB DA DB
  go_wp2_with fail
  clear x0 x1 x2 xf0 xf1 xf2 y0 y1 y2 yf0 yf1 yf2
  refine (Calls.mono HH.out) ?_
  rintro r u1 ⟨rfl, hb⟩
  obtain ⟨hB, DA, DB⟩ := S0.out
  have hs1 := hb.size
  have S1 := (Aside.intro (And.intro (hB.trans (hb.mono (by omega))) (And.intro (DA.below hb) (DB.below hb))))
  clear hB DA DB hb HH S0
  obtain ⟨hB, DA, DB⟩ := S1.out
  obtain ⟨x0, x1, x2, xf0, xf1, xf2⟩ := DA.facts
  obtain ⟨y0, y1, y2, yf0, yf1, yf2⟩ := DB.facts
  have HH := hid (HB.out u1 hB)
  clear hB DA DB
  go_wp2_with fail
  clear x0 x1 x2 xf0 xf1 xf2 y0 y1 y2 yf0 yf1 yf2
  refine (Calls.mono HH.out) ?_
  rintro r u2 ⟨rfl, hb⟩
  obtain ⟨hB, DA, DB⟩ := S1.out
  have hs2 := hb.size
  have S2 := (Aside.intro (And.intro (hB.trans (hb.mono (by omega))) (And.intro (DA.below hb) (DB.below hb))))
  clear hB DA DB hb HH S1
  obtain ⟨hB, DA, DB⟩ := S2.out
  obtain ⟨x0, x1, x2, xf0, xf1, xf2⟩ := DA.facts
  obtain ⟨y0, y1, y2, yf0, yf1, yf2⟩ := DB.facts
  have HH := hid (HB.out u2 hB)
  clear hB DA DB
  go_wp2_with fail
  clear x0 x1 x2 xf0 xf1 xf2 y0 y1 y2 yf0 yf1 yf2
  refine (Calls.mono HH.out) ?_
  rintro r u3 ⟨rfl, hb⟩
  obtain ⟨hB, DA, DB⟩ := S2.out
  have hs3 := hb.size
  have S3 := (Aside.intro (And.intro (hB.trans (hb.mono (by omega))) (And.intro (DA.below hb) (DB.below hb))))
  clear hB DA DB hb HH S2
  obtain ⟨hB, DA, DB⟩ := S3.out
  obtain ⟨x0, x1, x2, xf0, xf1, xf2⟩ := DA.facts
  obtain ⟨y0, y1, y2, yf0, yf1, yf2⟩ := DB.facts
  have HH := hid (HC.out u3)
  clear hB DA DB
  go_wp2_with fail
  clear x0 x1 x2 xf0 xf1 xf2 y0 y1 y2 yf0 yf1 yf2
  refine (Calls.mono HH.out) ?_
  rintro r uu ⟨rfl, hw⟩
  rw [hw]
  clear hw uu HH
  go_wp2
  go_ret
  exact ⟨rfl, S3.out.1⟩

set_option maxHeartbeats 4000000 in
theorem cmp_alike {w : World} {a b : Option Addr} {n c m d : Nat} (ng mg : Bool) (e f : Int) (s z : Int) (hs0 : (s == 0) = false) (bs0 : -1 ≤ s) (bs1 : s ≤ 1) (bz0 : -1 ≤ z) (bz1 : z ≤ 1) (p : Int) (hp : IntKind.i64.wrap (s * z) = p)
    (HA : Hid (∀ u, Below w.heap.size w u → Calls Tryd.prog 37 #[.agg #[.bool ng, .slice a n c, .int .i64 e]] u fun r w' => r = .returned (.int .i64 s) ∧ Below u.heap.size u w'))
    (HB : Hid (∀ u, Below w.heap.size w u → Calls Tryd.prog 37 #[.agg #[.bool mg, .slice b m d, .int .i64 f]] u fun r w' => r = .returned (.int .i64 s) ∧ Below u.heap.size u w'))
    (HZ : Hid (∀ u, Below w.heap.size w u → Calls Tryd.prog 91 #[.agg #[.bool ng, .slice a n c, .int .i64 e], .agg #[.bool mg, .slice b m d, .int .i64 f]] u fun r w' => r = .returned (.int .i64 z) ∧ Below u.heap.size u w')) :
    Calls Tryd.prog 36 #[.agg #[.bool ng, .slice a n c, .int .i64 e], .agg #[.bool mg, .slice b m d, .int .i64 f]] w fun r w' => r = .returned (.int .i64 p) ∧ Below w.heap.size w w' := by
  obtain ⟨W1, hW1⟩ : ∃ W, W = (w.alloc (.cells #[.bool ng, .slice a n c, .int .i64 e] 39)).alloc (.cells #[.bool mg, .slice b m d, .int .i64 f] 39) := ⟨_, rfl⟩
  have hB : Below w.heap.size w W1 := by rw [hW1]; exact (below_alloc w _).alloc (by simp) _
  have hz : W1.heap.size = w.heap.size + 2 := by rw [hW1]; simp
  have DA : Dk W1 w.heap.size ng (.slice a n c) e := by rw [hW1]; exact (Dk.new w ng (.slice a n c) e).alloc _
  have DB : Dk W1 (w.heap.size + 1) mg (.slice b m d) f := by
    rw [hW1]
    have := Dk.new (w.alloc (.cells #[.bool ng, .slice a n c, .int .i64 e] 39)) mg (.slice b m d) f
    simpa using this
  have hs : w.heap.size ≤ W1.heap.size := by omega
  have S0 := (Aside.intro (And.intro hB (And.intro DA DB)))
  clear hz
  clear hB DA DB
  go_enter Tryd.func36, Tryd.ntmps36
  go_upto_region 1 with fail
  rw [← hW1]
  clear hW1
  obtain ⟨hB, DA, DB⟩ := S0.out
  obtain ⟨x0, x1, x2, xf0, xf1, xf2⟩ := DA.facts
  obtain ⟨y0, y1, y2, yf0, yf1, yf2⟩ := DB.facts
  have HH := hid (HA.out W1 hB)
  clear hB DA DB
  go_wp2_with fail
  clear x0 x1 x2 xf0 xf1 xf2 y0 y1 y2 yf0 yf1 yf2
  refine (Calls.mono HH.out) ?_
  rintro r u1 ⟨rfl, hb⟩
  obtain ⟨hB, DA, DB⟩ := S0.out
  have hs1 := hb.size
  have S1 := (Aside.intro (And.intro (hB.trans (hb.mono (by omega))) (And.intro (DA.below hb) (DB.below hb))))
  clear hB DA DB hb HH S0
  obtain ⟨hB, DA, DB⟩ := S1.out
  obtain ⟨x0, x1, x2, xf0, xf1, xf2⟩ := DA.facts
  obtain ⟨y0, y1, y2, yf0, yf1, yf2⟩ := DB.facts
  have HH := hid (HB.out u1 hB)
  clear hB DA DB
  go_wp2_with fail
  clear x0 x1 x2 xf0 xf1 xf2 y0 y1 y2 yf0 yf1 yf2
  refine (Calls.mono HH.out) ?_
  rintro r u2 ⟨rfl, hb⟩
  obtain ⟨hB, DA, DB⟩ := S1.out
  have hs2 := hb.size
  have S2 := (Aside.intro (And.intro (hB.trans (hb.mono (by omega))) (And.intro (DA.below hb) (DB.below hb))))
  clear hB DA DB hb HH S1
  obtain ⟨hB, DA, DB⟩ := S2.out
  obtain ⟨x0, x1, x2, xf0, xf1, xf2⟩ := DA.facts
  obtain ⟨y0, y1, y2, yf0, yf1, yf2⟩ := DB.facts
  have HH := hid (HZ.out u2 hB)
  clear hB DA DB
  go_wp2_with fail
  clear x0 x1 x2 xf0 xf1 xf2 y0 y1 y2 yf0 yf1 yf2
  refine (Calls.mono HH.out) ?_
  rintro r u3 ⟨rfl, hb⟩
  obtain ⟨hB, DA, DB⟩ := S2.out
  have hs3 := hb.size
  have S3 := (Aside.intro (And.intro (hB.trans (hb.mono (by omega))) (And.intro (DA.below hb) (DB.below hb))))
  clear hB DA DB hb HH S2
  go_wp2
  go_ret
  exact ⟨rfl, S3.out.1⟩


theorem u64_apart (e f : Int) (he0 : -9223372036854775808 ≤ e) (he1 : e ≤ 9223372036854775807) (hf0 : -9223372036854775808 ≤ f) (hf1 : f ≤ 9223372036854775807) (h : f ≤ e) : IntKind.u64.wrap (IntKind.u64.wrap e - IntKind.u64.wrap f) = (((e - f).toNat : Nat) : Int) := by
  rw [IntKind.wrap_u64, IntKind.wrap_u64, IntKind.wrap_u64]
  omega
theorem cmp_size (X Y dd : Nat) (hX : X ≠ 0) : (if bl Y < dd then 1 else if dd + bl X = bl Y then cmpI (X * 2 ^ dd) Y else cmpI (dd + bl X) (bl Y)) = cmpI (X * 2 ^ dd) Y := by
  have hb := bl_up X dd hX
  by_cases h1 : bl Y < dd
  · rw [if_pos h1, cmpI_bl (by omega), hb]
    unfold cmpI
    rw [if_neg (by omega), if_pos (by omega)]
  · rw [if_neg h1]
    by_cases h2 : dd + bl X = bl Y
    · rw [if_pos h2]
    · rw [if_neg h2, cmpI_bl (x := X * 2 ^ dd) (by omega), hb, Nat.add_comm]

theorem bl_arg {w : World} {a : Option Addr} {n c : Nat} {xs : List Nat} (h1 : Arg w a n c xs) : bl (val xs) ≤ 1125899906842624 := by
  have := val_lt xs h1.wf
  rw [← h1.len] at this
  have := bl_pw _ _ this
  have := h1.big
  omega
theorem cmpSizes_ge {w : World} {a b : Option Addr} {n c m d : Nat} {xs ys : List Nat} (h1 : Arg w a n c xs) (h2 : Arg w b m d ys) (ng mg : Bool) (e f : Int) (he0 : -9223372036854775808 ≤ e) (he1 : e ≤ 9223372036854775807) (hf0 : -9223372036854775808 ≤ f) (hf1 : f ≤ 9223372036854775807) (h : f ≤ e) (hX : val xs ≠ 0) :
    Calls Tryd.prog 91 #[.agg #[.bool ng, .slice a n c, .int .i64 e], .agg #[.bool mg, .slice b m d, .int .i64 f]] w fun r w' => r = .returned (.int .i64 (cmpP (val xs) e (val ys) f)) ∧ Below w.heap.size w w' := by
  have b1 := h1.big
  have b2 := h2.big
  have := cmpSizes_go (w := w) ng mg e f (bl (val xs)) (bl (val ys)) (e - f).toNat (cmpI (val xs * 2 ^ (e - f).toNat) (val ys)) (bl_arg h1) (bl_arg h2) (decide_eq_false (by omega)) (u64_apart e f he0 he1 hf0 hf1 h)
    (hid fun u hu => len_any xs a n c u.heap.size u h1.len h1.cap (by omega) h1.wf (h1.below hu).rd)
    (hid fun u hu => len_any ys b m d u.heap.size u h2.len h2.cap (by omega) h2.wf (h2.below hu).rd)
    (hid fun u hu hd => cmpFromTop_any (h1.below hu) (h2.below hu) (e - f).toNat (by omega))
  rw [cmp_size _ _ _ hX] at this
  unfold cmpP
  rw [if_neg (by omega)]
  exact this
theorem cmpSizes_any {w : World} {a b : Option Addr} {n c m d : Nat} {xs ys : List Nat} (h1 : Arg w a n c xs) (h2 : Arg w b m d ys) (ng mg : Bool) (e f : Int) (he0 : -9223372036854775808 ≤ e) (he1 : e ≤ 9223372036854775807) (hf0 : -9223372036854775808 ≤ f) (hf1 : f ≤ 9223372036854775807) (hX : val xs ≠ 0) (hY : val ys ≠ 0) :
    Calls Tryd.prog 91 #[.agg #[.bool ng, .slice a n c, .int .i64 e], .agg #[.bool mg, .slice b m d, .int .i64 f]] w fun r w' => r = .returned (.int .i64 (cmpP (val xs) e (val ys) f)) ∧ Below w.heap.size w w' := by
  by_cases h : e < f
  · have hr := cmpP_range (val ys) f (val xs) e
    have := cmpSizes_lt (w := w) ng mg e f (cmpP (val ys) f (val xs) e) h (by omega) (by omega) (hid fun u hu => cmpSizes_ge (h2.below hu) (h1.below hu) mg ng f e hf0 hf1 he0 he1 (by omega) hY)
    rw [cmpP_neg] at this
    exact this
  · exact cmpSizes_ge h1 h2 ng mg e f he0 he1 hf0 hf1 (by omega) hX

theorem sgn_range (n : Bool) (X : Nat) : sgn n X = -1 ∨ sgn n X = 0 ∨ sgn n X = 1 := by
  unfold sgn; split
  · exact .inr (.inl rfl)
  · split
    · exact .inl rfl
    · exact .inr (.inr rfl)
theorem sgn_zero {n : Bool} {X : Nat} : sgn n X = 0 ↔ X = 0 := by
  unfold sgn
  by_cases h : X = 0
  · simp [h]
  · rw [if_neg h]; cases n <;> simp [h]
theorem Cmp_any3 {w : World} {a b : Option Addr} {n c m d : Nat} {xs ys : List Nat} (h1 : Arg w a n c xs) (h2 : Arg w b m d ys) (ng mg : Bool) (e f : Int) (he0 : -9223372036854775808 ≤ e) (he1 : e ≤ 9223372036854775807) (hf0 : -9223372036854775808 ≤ f) (hf1 : f ≤ 9223372036854775807) :
    Calls Tryd.prog 36 #[.agg #[.bool ng, .slice a n c, .int .i64 e], .agg #[.bool mg, .slice b m d, .int .i64 f]] w fun r w' => r = .returned (.int .i64 (cmpV ng (val xs) e mg (val ys) f)) ∧ Below w.heap.size w w' := by
  have SA := hid fun u (hu : Below w.heap.size w u) => Sign_any3 (h1.below hu) ng e
  have SB := hid fun u (hu : Below w.heap.size w u) => Sign_any3 (h2.below hu) mg f
  have hA := sgn_range ng (val xs)
  have hB := sgn_range mg (val ys)
  by_cases h0 : sgn ng (val xs) = 0
  · have hX := sgn_zero.1 h0
    have e1 : cmpV ng (val xs) e mg (val ys) f = cmpZ (sgn ng (val xs)) (sgn mg (val ys)) := by
      unfold cmpV cmpZ
      rw [if_pos hX]
    rw [e1]
    exact cmp_nought ng mg e f _ _ _ h0 SA SB (hid fun u => compare_z _ _ u)
  · have h0' : (sgn ng (val xs) == 0) = false := by simpa using h0
    by_cases hst : sgn ng (val xs) = sgn mg (val ys)
    · have hX : val xs ≠ 0 := fun h => h0 (sgn_zero.2 h)
      have hY : val ys ≠ 0 := fun h => h0 (by rw [hst]; exact sgn_zero.2 h)
      have hz := cmpP_range (val xs) e (val ys) f
      have e1 : cmpV ng (val xs) e mg (val ys) f = sgn ng (val xs) * cmpP (val xs) e (val ys) f := by
        unfold cmpV
        rw [hst, if_neg (by omega), if_neg (by omega), if_neg hX, ← hst]
        unfold sgn
        rw [if_neg hX]
        cases ng
        · simp
        · simp only [if_true]
          rw [Int.neg_one_mul, cmpP_neg]
      rw [e1]
      rw [← hst] at SB
      refine cmp_alike ng mg e f (sgn ng (val xs)) (cmpP (val xs) e (val ys) f) h0' (by omega) (by omega) (by omega) (by omega) _ ?_ SA SB (hid fun u hu => cmpSizes_any (h1.below hu) (h2.below hu) ng mg e f he0 he1 hf0 hf1 hX hY)
      rcases hA with h | h | h <;> rcases hz with k | k | k <;> rw [h, k] <;> rfl
    · have e1 : cmpV ng (val xs) e mg (val ys) f = cmpZ (sgn ng (val xs)) (sgn mg (val ys)) := by
        unfold cmpV cmpZ
        by_cases k : sgn ng (val xs) < sgn mg (val ys)
        · rw [if_pos k, if_pos k]
        · rw [if_neg k, if_neg k, if_pos (by omega), if_pos (by omega)]
      rw [e1]
      exact cmp_apart ng mg e f _ _ _ h0' (by simpa using hst) SA SB (hid fun u => compare_z _ _ u)
end Go.Proofs.YthilnddhehbjiaaDoor

