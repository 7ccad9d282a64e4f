/- The kinds of numbers; the smallest functions of both sides. -/
import Derived.Test.YtfocdjfnlbendaaA1x
import Derived.Deep.RegionWith
import Derived.Deep.CutRange
import Derived.Deep.Cut
namespace Go.Proofs.Ytfocdjfnlbendaa
open Go.RowKit
open Go.Proofs.Ytfocdjfnlbendaa.B (f64bits f64frombits bw)
set_option linter.unusedVariables false
set_option maxRecDepth 20000
attribute [local go_sem] st_float f64bits f64frombits

/-- May a way be? -/
def kn (a : Int) : Bool := decide (0 ≤ a) && decide (a ≤ 2)
def may (a b : Int) : Bool := kn a && kn b
/-- May a count be? -/
def ct (a : Int) : Bool := decide (0 ≤ a) && decide (a ≤ 1099511627776)

theorem ret_bool {a b : Bool} (h : a = b) : Ending.returned (.bool a) = .returned (.bool b) := by rw [h]

theorem known_any (a : Int) (w : World) : Calls Try.prog 27 #[.int .i64 a] w fun r w' => r = .returned (.bool (kn a)) ∧ w' = w := by
  unfold kn
  by_cases h : 0 ≤ a
  · have hd : decide (0 ≤ a) = true := decide_eq_true h
    rw [hd]
    go_enter Try.func27, Try.ntmps27
    go_wp2
    go_ret
    exact ⟨by first | rfl | simp, rfl⟩
  · have hd : decide (0 ≤ a) = false := decide_eq_false h
    rw [hd]
    go_enter Try.func27, Try.ntmps27
    go_wp2
    go_ret
    exact ⟨by first | rfl | simp, rfl⟩

theorem countable_any (a : Int) (w : World) : Calls Try.prog 44 #[.int .i64 a] w fun r w' => r = .returned (.bool (ct a)) ∧ w' = w := by
  unfold ct
  by_cases h : 0 ≤ a
  · have hd : decide (0 ≤ a) = true := decide_eq_true h
    rw [hd]
    go_enter Try.func44, Try.ntmps44
    go_wp2
    go_ret
    exact ⟨by first | rfl | simp, rfl⟩
  · have hd : decide (0 ≤ a) = false := decide_eq_false h
    rw [hd]
    go_enter Try.func44, Try.ntmps44
    go_wp2
    go_ret
    exact ⟨by first | rfl | simp, rfl⟩

theorem within_any (a : Int) (w : World) : Calls Try.prog 45 #[.int .i64 a] w fun r w' => r = .returned (.bool (ct a)) ∧ w' = w := by
  unfold ct
  by_cases h : 0 ≤ a
  · have hd : decide (0 ≤ a) = true := decide_eq_true h
    rw [hd]
    go_enter Try.func45, Try.ntmps45
    go_wp2
    go_ret
    exact ⟨by first | rfl | simp, rfl⟩
  · have hd : decide (0 ≤ a) = false := decide_eq_false h
    rw [hd]
    go_enter Try.func45, Try.ntmps45
    go_wp2
    go_ret
    exact ⟨by first | rfl | simp, rfl⟩

set_option maxHeartbeats 1000000 in
theorem May_any (a b : Int) (w : World) : Calls Try.prog 8 #[.agg #[.int .i64 a, .int .i64 b]] w fun r w' => r = .returned (.bool (may a b)) ∧ Below w.heap.size w w' := by
  unfold may
  rcases ha : kn a with _ | _
  · have H := hid (fun w => ha ▸ known_any a w)
    clear ha
    go_enter Try.func8, Try.ntmps8
    go_wp2_with fail
    refine (H.out _).mono ?_
    rintro r w1 ⟨rfl, rfl⟩
    go_wp2
    go_ret
    exact ⟨rfl, (Below.refl _ _).alloc (Nat.le_refl _) _⟩
  · have H := hid (fun w => ha ▸ known_any a w)
    have H2 := hid (fun w => known_any b w)
    obtain ⟨kb, hkb⟩ : ∃ k, kn b = k := ⟨_, rfl⟩
    rw [hkb] at H2 ⊢
    clear ha hkb
    go_enter Try.func8, Try.ntmps8
    go_wp2_with fail
    refine (H.out _).mono ?_
    rintro r w1 ⟨rfl, rfl⟩
    go_wp2_with fail
    refine (H2.out _).mono ?_
    rintro r w1 ⟨rfl, rfl⟩
    go_wp2
    go_ret
    exact ⟨by first | rfl | simp, (Below.refl _ _).alloc (Nat.le_refl _) _⟩

set_option maxHeartbeats 1000000 in
theorem rMay_any (a b : Int) (w : World) : Calls Try.prog 10 #[.agg #[.int .i64 a, .int .i64 b]] w fun r w' => r = .returned (.bool (may a b)) ∧ Below w.heap.size w w' := by
  unfold may kn
  rcases ha : decide (0 ≤ a) with _ | _ <;> rcases ha2 : decide (a ≤ 2) with _ | _ <;> rcases hb : decide (0 ≤ b) with _ | _ <;>
  · go_enter Try.func10, Try.ntmps10
    go_wp2
    go_ret
    exact ⟨by first | rfl | simp, (Below.refl _ _).alloc (Nat.le_refl _) _⟩

theorem Plain_any (w : World) : Calls Try.prog 9 #[] w fun r w' => r = .returned (.agg #[.int .i64 0, .int .i64 0]) ∧ Below w.heap.size w w' := by
  go_enter Try.func9, Try.ntmps9
  go_wp2
  exact bodyPost_ret (v := .agg #[.int .i64 0, .int .i64 0]) (by simp [results, Try.results9, go_sem]) rfl ⟨rfl, (by repeat (first | exact Below.refl _ _ | assumption | exact Nat.le_refl _ | (simp; done) | (simp; omega) | refine Below.alloc ?_ ?_ _ | refine Below.setCell ?_ ?_ _ | refine Below.drew ?_))⟩

/-- A nought, an infinity, by its sign. -/
def zr (neg : Bool) : Nat := if neg then 9223372036854775808 else 0
def inf (neg : Bool) : Nat := if neg then 18442240474082181120 else 9218868437227405312

theorem Zero_any (neg : Bool) (w : World) : Calls Try.prog 24 #[.bool neg] w fun r w' => r = .returned (.float .f64 (zr neg)) ∧ w' = w := by
  cases neg <;>
  · go_enter Try.func24, Try.ntmps24
    go_wp2
    go_ret
    exact ⟨rfl, rfl⟩

theorem rInf_any (neg : Bool) (w : World) : Calls Try.prog 26 #[.bool neg] w fun r w' => r = .returned (.float .f64 (inf neg)) ∧ w' = w := by
  cases neg <;>
  · go_enter Try.func26, Try.ntmps26
    go_wp2
    go_ret
    exact ⟨rfl, rfl⟩

theorem TheNaN_any (w : World) : Calls Try.prog 25 #[] w fun r w' => r = .returned (.float .f64 9221120237041090560) ∧ w' = w := by
  go_enter Try.func25, Try.ntmps25
  go_wp2
  go_ret
  exact ⟨rfl, rfl⟩

theorem mInf_up (w : World) : Calls Try.prog 36 #[.int .i64 1] w fun r w' => r = .returned (.float .f64 9218868437227405312) ∧ w' = w := by
  go_enter Try.func36, Try.ntmps36
  go_wp2
  go_ret
  exact ⟨rfl, rfl⟩

theorem mInf_down (w : World) : Calls Try.prog 36 #[.int .i64 (-1)] w fun r w' => r = .returned (.float .f64 18442240474082181120) ∧ w' = w := by
  go_enter Try.func36, Try.ntmps36
  go_wp2
  go_ret
  exact ⟨rfl, rfl⟩

theorem minus_any (w : World) : Calls Try.prog 38 #[.float .f64 0, .float .f64 13830554455654793216] w fun r w' => r = .returned (.float .f64 9223372036854775808) ∧ w' = w := by
  have h1 : bits .andNot .u64 0 9223372036854775808 = 0 := by decide +kernel
  have h2 : bits .and .u64 13830554455654793216 9223372036854775808 = 9223372036854775808 := by decide +kernel
  have h3 : bits .or .u64 0 9223372036854775808 = 9223372036854775808 := by decide +kernel
  go_enter Try.func38, Try.ntmps38
  go_wp2
  go_ret
  exact ⟨rfl, rfl⟩

/-- The kind of a number by its bits, as the document counts kinds: finite 0, -0 1, +0 2, +Inf 3, -Inf 4, NaN 5. -/
def kd (b : Nat) : Nat :=
  if 9218868437227405312 < b % 9223372036854775808 then 5
  else if b % 9223372036854775808 = 9218868437227405312 then (if b / 9223372036854775808 = 1 then 4 else 3)
  else if b % 9223372036854775808 = 0 then (if b / 9223372036854775808 = 1 then 1 else 2)
  else 0
/-- .. as the program counts them. -/
def kp (k : Nat) : Nat := if k = 5 then 0 else if k = 3 then 1 else if k = 4 then 2 else if k = 1 then 3 else if k = 2 then 4 else 5

theorem kd_le (b : Nat) : kd b ≤ 5 := by unfold kd; (repeat' split) <;> omega

set_option maxHeartbeats 1000000 in
theorem Kind_any (b : Nat) (hb : b < 18446744073709551616) (w : World) : Calls Try.prog 33 #[.float .f64 b] w fun r w' => r = .returned (.int .i64 (kd b : Nat)) ∧ w' = w := by
  unfold kd
  obtain ⟨z, hz⟩ : ∃ z, b % 9223372036854775808 = z := ⟨_, rfl⟩
  obtain ⟨s, hs⟩ : ∃ s, b / 9223372036854775808 = s := ⟨_, rfl⟩
  have hz2 : (b : Int) % 9223372036854775808 = (z : Int) := by omega
  have hs2 : (b : Int) / 9223372036854775808 = (s : Int) := by omega
  have hz3 : (b : Int).tmod 9223372036854775808 = (z : Int) := by rw [Int.tmod_eq_emod_of_nonneg (by omega)]; exact hz2
  have hzl : z < 9223372036854775808 := by omega
  have hsl : s < 2 := by omega
  rw [hz, hs]
  clear hz hs
  by_cases h1 : 9218868437227405312 < z
  · rw [if_pos h1]
    have h1' : (9218868437227405312 : Int) < (z : Int) := by omega
    go_enter Try.func33, Try.ntmps33
    go_wp2
    go_ret
    exact ⟨rfl, rfl⟩
  · rw [if_neg h1]
    have h1' : decide ((9218868437227405312 : Int) < (z : Int)) = false := decide_eq_false (by omega)
    have hs01 : s = 0 ∨ s = 1 := by omega
    by_cases h2 : z = 9218868437227405312
    · subst h2
      rcases hs01 with rfl | rfl
      · go_enter Try.func33, Try.ntmps33
        go_wp2
        go_ret
        exact ⟨rfl, rfl⟩
      · go_enter Try.func33, Try.ntmps33
        go_wp2
        go_ret
        exact ⟨rfl, rfl⟩
    · rw [if_neg h2]
      have h2' : ((z : Int) == 9218868437227405312) = false := by rw [beq_eq_false_iff_ne]; omega
      by_cases h3 : z = 0
      · subst h3
        rcases hs01 with rfl | rfl
        · go_enter Try.func33, Try.ntmps33
          go_wp2
          go_ret
          exact ⟨rfl, rfl⟩
        · go_enter Try.func33, Try.ntmps33
          go_wp2
          go_ret
          exact ⟨rfl, rfl⟩
      · rw [if_neg h3]
        have h3' : ((z : Int) == 0) = false := by rw [beq_eq_false_iff_ne]; omega
        clear h1 h2 h3 hz3
        rcases hs01 with rfl | rfl
        · go_enter Try.func33, Try.ntmps33
          go_wp2
          go_ret
          exact ⟨rfl, rfl⟩
        · go_enter Try.func33, Try.ntmps33
          go_wp2
          go_ret
          exact ⟨rfl, rfl⟩

theorem kd_bw (s : Bool) (e f : Nat) (he : e < 2048) (hf : f < 4503599627370496) : kd (bw s e f) = if e = 2047 then (if f = 0 then (if s then 4 else 3) else 5) else if e = 0 ∧ f = 0 then (if s then 1 else 2) else 0 := by
  unfold kd bw
  have h1 : (s.toNat * 9223372036854775808 + e * 4503599627370496 + f) % 9223372036854775808 = e * 4503599627370496 + f := by cases s <;> simp only [Bool.toNat_true, Bool.toNat_false] <;> omega
  have h2 : (s.toNat * 9223372036854775808 + e * 4503599627370496 + f) / 9223372036854775808 = s.toNat := by cases s <;> simp only [Bool.toNat_true, Bool.toNat_false] <;> omega
  rw [h1, h2]
  by_cases he2 : e = 2047
  · subst he2
    rw [if_pos rfl]
    by_cases hf0 : f = 0
    · subst hf0; cases s <;> simp
    · rw [if_pos (by omega), if_neg hf0]
  · rw [if_neg he2, if_neg (by omega), if_neg (by omega)]
    by_cases h0 : e = 0 ∧ f = 0
    · obtain ⟨rfl, rfl⟩ := h0; cases s <;> simp
    · rw [if_neg (by omega), if_neg h0]

theorem bySign_any (neg : Bool) (a b : Int) (w : World) : Calls Try.prog 42 #[.bool neg, .int .i64 a, .int .i64 b] w fun r w' => r = .returned (.int .i64 (if neg then a else b)) ∧ w' = w := by
  cases neg <;>
  · go_enter Try.func42, Try.ntmps42
    go_wp2
    go_ret
    exact ⟨rfl, rfl⟩

set_option maxHeartbeats 2000000 in
theorem kind_any (b : Nat) (hb : b < 18446744073709551616) (w : World) : Calls Try.prog 28 #[.float .f64 b] w fun r w' => r = .returned (.int .i64 (kp (kd b) : Nat)) ∧ Below w.heap.size w w' := by
  obtain ⟨s, e, f, he, hf, rfl⟩ := B.bw_of b hb
  rw [kd_bw s e f he hf]
  have H := hid (B.Split_any s e f he hf)
  obtain ⟨x1, hx1⟩ : ∃ x, B.xp e = x := ⟨_, rfl⟩
  obtain ⟨x2, hx2⟩ : ∃ x, B.fr e f = x := ⟨_, rfl⟩
  rw [hx1, hx2] at H
  clear hx1 hx2 hb
  by_cases he2 : e = 2047
  · subst he2
    by_cases hf0 : f = 0
    · subst hf0
      have hc : B.cls 2047 0 = 3 := by unfold B.cls; rw [if_pos rfl, if_pos rfl]
      have hg : B.ng s 2047 0 = s := by unfold B.ng; rw [if_neg (by simp)]
      rw [hc, hg] at H
      rw [if_pos rfl, if_pos rfl]
      have HS := hid (bySign_any s 2 1)
      obtain ⟨x, hx⟩ : ∃ x : Int, (if s then 2 else 1) = x := ⟨_, rfl⟩
      rw [hx] at HS
      have hk : ((kp (if s then 4 else 3) : Nat) : Int) = x := by cases s <;> (subst hx; rfl)
      rw [hk]
      clear hc hg hx hk
      go_enter Try.func28, Try.ntmps28
      go_wp2_with fail
      refine (H.out _).mono ?_
      rintro r w1 ⟨rfl, hb1⟩
      have HB := Aside.intro hb1
      have hz := hb1.size
      clear hb1
      go_wp2_with fail
      refine (HS.out _).mono ?_
      rintro r w2 ⟨rfl, rfl⟩
      go_wp2
      go_ret
      exact ⟨rfl, (HB.out.alloc hz _)⟩
    · have hc : B.cls 2047 f = 4 := by unfold B.cls; rw [if_pos rfl, if_neg hf0]
      rw [hc] at H
      rw [if_pos rfl, if_neg hf0]
      obtain ⟨x3, hx3⟩ : ∃ x, B.ng s 2047 f = x := ⟨_, rfl⟩
      rw [hx3] at H
      clear hc hx3
      go_enter Try.func28, Try.ntmps28
      go_wp2_with fail
      refine (H.out _).mono ?_
      rintro r w1 ⟨rfl, hb1⟩
      have HB := Aside.intro hb1
      have hz := hb1.size
      clear hb1
      go_wp2
      go_ret
      exact ⟨rfl, (HB.out.alloc hz _)⟩
  · rw [if_neg he2]
    have hg : B.ng s e f = s := by unfold B.ng; rw [if_neg (fun h => he2 h.1)]
    rw [hg] at H
    by_cases h0 : e = 0 ∧ f = 0
    · obtain ⟨rfl, rfl⟩ := h0
      have hc : B.cls 0 0 = 0 := by unfold B.cls; rw [if_neg (by omega), if_pos rfl, if_pos rfl]
      rw [hc] at H
      rw [if_pos ⟨rfl, rfl⟩]
      have HS := hid (bySign_any s 3 4)
      obtain ⟨x, hx⟩ : ∃ x : Int, (if s then 3 else 4) = x := ⟨_, rfl⟩
      rw [hx] at HS
      have hk : ((kp (if s then 1 else 2) : Nat) : Int) = x := by cases s <;> (subst hx; rfl)
      rw [hk]
      clear hc hg hx hk
      go_enter Try.func28, Try.ntmps28
      go_wp2_with fail
      refine (H.out _).mono ?_
      rintro r w1 ⟨rfl, hb1⟩
      have HB := Aside.intro hb1
      have hz := hb1.size
      clear hb1
      go_wp2_with fail
      refine (HS.out _).mono ?_
      rintro r w2 ⟨rfl, rfl⟩
      go_wp2
      go_ret
      exact ⟨rfl, (HB.out.alloc hz _)⟩
    · rw [if_neg h0]
      obtain ⟨c, hc, h1, h2, h3⟩ : ∃ c : Int, B.cls e f = c ∧ (c == 4) = false ∧ (c == 3) = false ∧ (c == 0) = false := by
        unfold B.cls
        rw [if_neg he2]
        by_cases he0 : e = 0
        · rw [if_pos he0, if_neg (fun h => h0 ⟨he0, h⟩)]; exact ⟨_, rfl, by decide, by decide, by decide⟩
        · rw [if_neg he0]; exact ⟨_, rfl, by decide, by decide, by decide⟩
      rw [hc] at H
      clear hc hg
      go_enter Try.func28, Try.ntmps28
      go_wp2_with fail
      refine (H.out _).mono ?_
      rintro r w1 ⟨rfl, hb1⟩
      have HB := Aside.intro hb1
      have hz := hb1.size
      clear hb1
      go_wp2
      go_ret
      exact ⟨rfl, (HB.out.alloc hz _)⟩
end Go.Proofs.Ytfocdjfnlbendaa

/- Specials: how they are counted, on both sides. -/
namespace Go.Proofs.Ytfocdjfnlbendaa
open Go.RowKit
open Go.Proofs.Ytfocdjfnlbendaa.B (f64bits f64frombits bw bcell)
set_option linter.unusedVariables false
set_option maxRecDepth 20000
attribute [local go_sem] st_float f64bits f64frombits

/-- How many of a kind. -/
def cn (k : Nat) (xs : List Nat) : Nat := xs.countP (fun x => kd x == k)
theorem cn_nil (k : Nat) : cn k [] = 0 := rfl
theorem cn_append (k : Nat) (xs ys : List Nat) : cn k (xs ++ ys) = cn k xs + cn k ys := by simp [cn, List.countP_append]
def one (k x : Nat) : Nat := if kd x = k then 1 else 0
theorem cn_one (k x : Nat) : cn k [x] = one k x := by unfold cn one; by_cases h : kd x = k <;> simp [h]
theorem take_succ' (xs : List Nat) (i : Nat) (h : i < xs.length) : xs.take (i + 1) = xs.take i ++ [xs.getD i 0] := by
  rw [List.take_succ_eq_append_getElem h, List.getD_eq_getElem?_getD, List.getElem?_eq_getElem h]; rfl
theorem cn_succ (k : Nat) (xs : List Nat) (i : Nat) (h : i < xs.length) : cn k (xs.take (i + 1)) = cn k (xs.take i) + one k (xs.getD i 0) := by
  rw [take_succ' xs i h, cn_append, cn_one]
theorem cn_le (k : Nat) (xs : List Nat) : cn k xs ≤ xs.length := List.countP_le_length

/-- Specials in a block. -/
def SpB (w : World) (g : Nat) (n u d m p a : Int) : Prop := w.heap[g]? = some (.cells #[.int .i64 n, .int .i64 u, .int .i64 d, .int .i64 m, .int .i64 p, .int .i64 a] 30 (0, 0))

theorem SpB.lt {w : World} {g : Nat} {n u d m p a : Int} (h : SpB w g n u d m p a) : g < w.heap.size := (Array.getElem?_eq_some_iff.1 h).1
theorem SpB.c0 {w : World} {g : Nat} {n u d m p a : Int} (h : SpB w g n u d m p a) : w.cell? ⟨g, 0, none⟩ = some (.int .i64 n) := by unfold SpB at h; simp [World.cell?, h]
theorem SpB.c1 {w : World} {g : Nat} {n u d m p a : Int} (h : SpB w g n u d m p a) : w.cell? ⟨g, 1, none⟩ = some (.int .i64 u) := by unfold SpB at h; simp [World.cell?, h]
theorem SpB.c2 {w : World} {g : Nat} {n u d m p a : Int} (h : SpB w g n u d m p a) : w.cell? ⟨g, 2, none⟩ = some (.int .i64 d) := by unfold SpB at h; simp [World.cell?, h]
theorem SpB.c3 {w : World} {g : Nat} {n u d m p a : Int} (h : SpB w g n u d m p a) : w.cell? ⟨g, 3, none⟩ = some (.int .i64 m) := by unfold SpB at h; simp [World.cell?, h]
theorem SpB.c4 {w : World} {g : Nat} {n u d m p a : Int} (h : SpB w g n u d m p a) : w.cell? ⟨g, 4, none⟩ = some (.int .i64 p) := by unfold SpB at h; simp [World.cell?, h]
theorem SpB.c5 {w : World} {g : Nat} {n u d m p a : Int} (h : SpB w g n u d m p a) : w.cell? ⟨g, 5, none⟩ = some (.int .i64 a) := by unfold SpB at h; simp [World.cell?, h]
theorem SpB.frozen {w : World} {g : Nat} {n u d m p a : Int} (h : SpB w g n u d m p a) (i : Nat) : w.frozen? ⟨g, i, none⟩ = false := by unfold SpB at h; simp [World.frozen?, h]
theorem SpB.but {w w' : World} {g k : Nat} {n u d m p a : Int} (h : SpB w g n u d m p a) (hb : But k w w') (hk : g ≠ k) : SpB w' g n u d m p a := by
  have := h.lt
  unfold SpB at h ⊢
  rw [hb.block g this hk]; exact h
theorem SpB.below {w w' : World} {g B : Nat} {n u d m p a : Int} (h : SpB w g n u d m p a) (hb : Below B w w') (hg : g < B) : SpB w' g n u d m p a := by
  unfold SpB at h ⊢
  rw [hb.block g hg]; exact h

set_option maxHeartbeats 2000000 in
theorem count_any (k g : Nat) (n u d m p a : Int) (w : World) (hk : k ≤ 5) (hB : SpB w g n u d m p a) (hn : 0 ≤ n ∧ n ≤ 65536) (hu : 0 ≤ u ∧ u ≤ 65536) (hd : 0 ≤ d ∧ d ≤ 65536) (hm : 0 ≤ m ∧ m ≤ 65536) (hp : 0 ≤ p ∧ p ≤ 65536) :
    Calls Try.prog 29 #[.pointer (some ⟨g, 0, none⟩), .int .i64 (k : Nat)] w fun r w' => r = .returned (.tuple #[]) ∧
      SpB w' g (if k = 0 then n + 1 else n) (if k = 1 then u + 1 else u) (if k = 2 then d + 1 else d) (if k = 3 then m + 1 else m) (if k = 4 then p + 1 else p) a ∧ But g w w' := by
  have hc0 := hB.c0
  have hc1 := hB.c1
  have hc2 := hB.c2
  have hc3 := hB.c3
  have hc4 := hB.c4
  have hf0 := hB.frozen 0
  have hf1 := hB.frozen 1
  have hf2 := hB.frozen 2
  have hf3 := hB.frozen 3
  have hf4 := hB.frozen 4
  have HB := Aside.intro hB
  clear hB
  obtain rfl | rfl | rfl | rfl | rfl | rfl : k = 0 ∨ k = 1 ∨ k = 2 ∨ k = 3 ∨ k = 4 ∨ k = 5 := by omega
  · go_enter Try.func29, Try.ntmps29
    go_wp2
    go_end0
    refine ⟨rfl, ?_, (But.refl _ _).set _ _⟩
    have h := HB.out
    unfold SpB at h ⊢
    simp [World.setCell, Array.getElem?_modify, h]
  · go_enter Try.func29, Try.ntmps29
    go_wp2
    go_end0
    refine ⟨rfl, ?_, (But.refl _ _).set _ _⟩
    have h := HB.out
    unfold SpB at h ⊢
    simp [World.setCell, Array.getElem?_modify, h]
  · go_enter Try.func29, Try.ntmps29
    go_wp2
    go_end0
    refine ⟨rfl, ?_, (But.refl _ _).set _ _⟩
    have h := HB.out
    unfold SpB at h ⊢
    simp [World.setCell, Array.getElem?_modify, h]
  · go_enter Try.func29, Try.ntmps29
    go_wp2
    go_end0
    refine ⟨rfl, ?_, (But.refl _ _).set _ _⟩
    have h := HB.out
    unfold SpB at h ⊢
    simp [World.setCell, Array.getElem?_modify, h]
  · go_enter Try.func29, Try.ntmps29
    go_wp2
    go_end0
    refine ⟨rfl, ?_, (But.refl _ _).set _ _⟩
    have h := HB.out
    unfold SpB at h ⊢
    simp [World.setCell, Array.getElem?_modify, h]
  · go_enter Try.func29, Try.ntmps29
    go_wp2
    go_end0
    exact ⟨rfl, HB.out, But.refl _ _⟩

/-- What is refused. -/
def rf (n u d a b : Int) : Int := if 0 < n ∧ a = 2 then 60 else if 0 < u + d ∧ b = 2 then 61 else 0

set_option maxHeartbeats 2000000 in
theorem refusal_any (n u d m p l a b : Int) (w : World) (hu : 0 ≤ u ∧ u ≤ 65536) (hd : 0 ≤ d ∧ d ≤ 65536) :
    Calls Try.prog 30 #[.agg #[.int .i64 n, .int .i64 u, .int .i64 d, .int .i64 m, .int .i64 p, .int .i64 l], .agg #[.int .i64 a, .int .i64 b]] w fun r w' => r = .returned (.int .i64 (rf n u d a b)) ∧ Below w.heap.size w w' := by
  have below : ∀ o o', Below w.heap.size w ((w.alloc o).alloc o') := fun o o' => ((Below.refl _ _).alloc (Nat.le_refl _) _).alloc (by simp) _
  obtain ⟨t, ht⟩ : ∃ t, u + d = t := ⟨_, rfl⟩
  have ht2 : -9223372036854775808 ≤ t ∧ t ≤ 9223372036854775807 := by omega
  unfold rf
  rw [ht]
  by_cases h1 : 0 < n
  · by_cases h2 : a = 2
    · rw [if_pos ⟨h1, h2⟩]
      subst h2
      go_enter Try.func30, Try.ntmps30
      go_wp2
      go_ret
      exact ⟨rfl, below _ _⟩
    · have h2' : (a == 2) = false := by rw [beq_eq_false_iff_ne]; exact h2
      rw [if_neg (fun h => h2 h.2)]
      by_cases h3 : 0 < t
      · by_cases h4 : b = 2
        · rw [if_pos ⟨h3, h4⟩]
          subst h4
          go_enter Try.func30, Try.ntmps30
          go_wp2
          go_ret
          exact ⟨rfl, below _ _⟩
        · have h4' : (b == 2) = false := by rw [beq_eq_false_iff_ne]; exact h4
          rw [if_neg (fun h => h4 h.2)]
          go_enter Try.func30, Try.ntmps30
          go_wp2
          go_ret
          exact ⟨rfl, below _ _⟩
      · have h3' : decide (0 < t) = false := decide_eq_false h3
        rw [if_neg (fun h => h3 h.1)]
        go_enter Try.func30, Try.ntmps30
        go_wp2
        go_ret
        exact ⟨rfl, below _ _⟩
  · have h1' : decide (0 < n) = false := decide_eq_false h1
    rw [if_neg (fun h => h1 h.1)]
    by_cases h3 : 0 < t
    · by_cases h4 : b = 2
      · rw [if_pos ⟨h3, h4⟩]
        subst h4
        go_enter Try.func30, Try.ntmps30
        go_wp2
        go_ret
        exact ⟨rfl, below _ _⟩
      · have h4' : (b == 2) = false := by rw [beq_eq_false_iff_ne]; exact h4
        rw [if_neg (fun h => h4 h.2)]
        go_enter Try.func30, Try.ntmps30
        go_wp2
        go_ret
        exact ⟨rfl, below _ _⟩
    · have h3' : decide (0 < t) = false := decide_eq_false h3
      rw [if_neg (fun h => h3 h.1)]
      go_enter Try.func30, Try.ntmps30
      go_wp2
      go_ret
      exact ⟨rfl, below _ _⟩

set_option maxHeartbeats 2000000 in
theorem Refused_any (n u d m p l a b : Int) (w : World) (hu : 0 ≤ u ∧ u ≤ 65536) (hd : 0 ≤ d ∧ d ≤ 65536) :
    Calls Try.prog 32 #[.agg #[.int .i64 n, .int .i64 u, .int .i64 d, .int .i64 m, .int .i64 p, .int .i64 l], .agg #[.int .i64 a, .int .i64 b]] w fun r w' => r = .returned (.int .i64 (rf n u d a b)) ∧ Below w.heap.size w w' := by
  have below : ∀ o o', Below w.heap.size w ((w.alloc o).alloc o') := fun o o' => ((Below.refl _ _).alloc (Nat.le_refl _) _).alloc (by simp) _
  obtain ⟨t, ht⟩ : ∃ t, u + d = t := ⟨_, rfl⟩
  have ht2 : -9223372036854775808 ≤ t ∧ t ≤ 9223372036854775807 := by omega
  unfold rf
  rw [ht]
  by_cases h1 : 0 < n
  · by_cases h2 : a = 2
    · rw [if_pos ⟨h1, h2⟩]
      subst h2
      go_enter Try.func32, Try.ntmps32
      go_wp2
      go_ret
      exact ⟨rfl, below _ _⟩
    · have h2' : (a == 2) = false := by rw [beq_eq_false_iff_ne]; exact h2
      rw [if_neg (fun h => h2 h.2)]
      by_cases h3 : 0 < t
      · by_cases h4 : b = 2
        · rw [if_pos ⟨h3, h4⟩]
          subst h4
          go_enter Try.func32, Try.ntmps32
          go_wp2
          go_ret
          exact ⟨rfl, below _ _⟩
        · have h4' : (b == 2) = false := by rw [beq_eq_false_iff_ne]; exact h4
          rw [if_neg (fun h => h4 h.2)]
          go_enter Try.func32, Try.ntmps32
          go_wp2
          go_ret
          exact ⟨rfl, below _ _⟩
      · have h3' : decide (0 < t) = false := decide_eq_false h3
        rw [if_neg (fun h => h3 h.1)]
        go_enter Try.func32, Try.ntmps32
        go_wp2
        go_ret
        exact ⟨rfl, below _ _⟩
  · have h1' : decide (0 < n) = false := decide_eq_false h1
    rw [if_neg (fun h => h1 h.1)]
    by_cases h3 : 0 < t
    · by_cases h4 : b = 2
      · rw [if_pos ⟨h3, h4⟩]
        subst h4
        go_enter Try.func32, Try.ntmps32
        go_wp2
        go_ret
        exact ⟨rfl, below _ _⟩
      · have h4' : (b == 2) = false := by rw [beq_eq_false_iff_ne]; exact h4
        rw [if_neg (fun h => h4 h.2)]
        go_enter Try.func32, Try.ntmps32
        go_wp2
        go_ret
        exact ⟨rfl, below _ _⟩
    · have h3' : decide (0 < t) = false := decide_eq_false h3
      rw [if_neg (fun h => h3 h.1)]
      go_enter Try.func32, Try.ntmps32
      go_wp2
      go_ret
      exact ⟨rfl, below _ _⟩


set_option maxHeartbeats 4000000 in
theorem rCount_any (x : Nat) (n u d m p a : Int) (w : World) (hx : x < 18446744073709551616) (hn : 0 ≤ n ∧ n ≤ 65536) (hu : 0 ≤ u ∧ u ≤ 65536) (hd : 0 ≤ d ∧ d ≤ 65536) (hm : 0 ≤ m ∧ m ≤ 65536) (hp : 0 ≤ p ∧ p ≤ 65536) (ha : 0 ≤ a ∧ a ≤ 65536) :
    Calls Try.prog 43 #[.agg #[.int .i64 n, .int .i64 u, .int .i64 d, .int .i64 m, .int .i64 p, .int .i64 a], .float .f64 x] w fun r w' =>
      r = .returned (.agg #[.int .i64 (n + one 5 x), .int .i64 (u + one 3 x), .int .i64 (d + one 4 x), .int .i64 (m + one 1 x), .int .i64 (p + one 2 x), .int .i64 (a + 1)]) ∧ Below w.heap.size w w' := by
  have H := hid (Kind_any x hx)
  have hk := kd_le x
  obtain ⟨k, hkk⟩ : ∃ k, kd x = k := ⟨_, rfl⟩
  unfold one
  rw [hkk] at H hk ⊢
  clear hkk
  obtain rfl | rfl | rfl | rfl | rfl | rfl : k = 0 ∨ k = 1 ∨ k = 2 ∨ k = 3 ∨ k = 4 ∨ k = 5 := by omega
  all_goals
    simp
    go_enter Try.func43, Try.ntmps43
    go_wp2_with fail
    refine (H.out _).mono ?_
    rintro r w1 ⟨rfl, rfl⟩
    go_wp2
    refine bodyPost_ret (v := .agg #[.int .i64 _, .int .i64 _, .int .i64 _, .int .i64 _, .int .i64 _, .int .i64 _]) (by simp [results, Try.results43, go_sem]) rfl ⟨rfl, (by repeat (first | exact Below.refl _ _ | assumption | exact Nat.le_refl _ | (simp; done) | (simp; omega) | refine Below.alloc ?_ ?_ _ | refine Below.setCell ?_ ?_ _ | refine Below.drew ?_))⟩
end Go.Proofs.Ytfocdjfnlbendaa

/- The document's Of: the Specials of a list. -/
namespace Go.Proofs.Ytfocdjfnlbendaa
open Go.RowKit
open Go.Proofs.Ytfocdjfnlbendaa.B (f64bits f64frombits bw bcell)
set_option linter.unusedVariables false
set_option maxRecDepth 20000
attribute [local go_sem] st_float f64bits f64frombits

theorem SpB.made (w : World) (n u d m p a : Int) : SpB (w.alloc (.cells #[.int .i64 n, .int .i64 u, .int .i64 d, .int .i64 m, .int .i64 p, .int .i64 a] 30)) w.heap.size n u d m p a := heap_alloc_new w _

/-- The counts of a list's first numbers. -/
def SpT (w : World) (g : Nat) (xs : List Nat) (a : Int) : Prop := SpB w g (cn 5 xs : Nat) (cn 3 xs : Nat) (cn 4 xs : Nat) (cn 1 xs : Nat) (cn 2 xs : Nat) a

theorem cn_bd (k : Nat) (xs : List Nat) (n : Nat) (h : xs.length ≤ n) (hn : n ≤ 65536) : 0 ≤ ((cn k xs : Nat) : Int) ∧ ((cn k xs : Nat) : Int) ≤ 65536 := by have := cn_le k xs; omega

theorem SpB.set6 {w : World} {g : Nat} {n u d m p a : Int} (h : SpB w g n u d m p a) (n' u' d' m' p' a' : Int) :
    SpB ((((((w.setCell ⟨g, 0, none⟩ (.int .i64 n')).setCell ⟨g, 1, none⟩ (.int .i64 u')).setCell ⟨g, 2, none⟩ (.int .i64 d')).setCell ⟨g, 3, none⟩ (.int .i64 m')).setCell ⟨g, 4, none⟩ (.int .i64 p')).setCell ⟨g, 5, none⟩ (.int .i64 a')) g n' u' d' m' p' a' := by
  unfold SpB at h ⊢
  simp [World.setCell, Array.getElem?_modify, h]

theorem But.set6 {a w : World} {g : Nat} (h : But g a w) (u0 u1 u2 u3 u4 u5 : Value) :
    But g a ((((((w.setCell ⟨g, 0, none⟩ u0).setCell ⟨g, 1, none⟩ u1).setCell ⟨g, 2, none⟩ u2).setCell ⟨g, 3, none⟩ u3).setCell ⟨g, 4, none⟩ u4).setCell ⟨g, 5, none⟩ u5) :=
  ((((((h.set 0 u0).set 1 u1).set 2 u2).set 3 u3).set 4 u4).set 5 u5)

theorem cset {w : World} {b o : Nat} {u : Value} (h : w.cell? ⟨b, o, none⟩ = some u) (v : Value) : (w.setCell ⟨b, o, none⟩ v).cell? ⟨b, o, none⟩ = some v := by
  simp only [World.cell?] at h ⊢
  simp only [World.setCell, Array.getElem?_modify]
  cases hb : w.heap[b]? with
  | none => rw [hb] at h; simp at h
  | some ob =>
    rw [hb] at h
    cases ob <;> simp_all
    rename_i cs _ _
    by_cases hl : o < cs.size
    · simp [hl]
    · rw [Array.getElem?_eq_none (by omega)] at h; cases h

theorem csetm (w : World) (b o : Nat) (v : Value) : (w.setCell ⟨b, o, none⟩ v).cell? ⟨b, o, none⟩ = (w.cell? ⟨b, o, none⟩).map (fun _ => v) := by
  cases h : w.cell? ⟨b, o, none⟩ with
  | some u => rw [cset h v]; rfl
  | none =>
    simp only [World.cell?] at h ⊢
    simp only [World.setCell, Array.getElem?_modify]
    cases hb : w.heap[b]? with
    | none => simp
    | some ob =>
      rw [hb] at h
      cases ob <;> simp_all

set_option maxHeartbeats 4000000 in
theorem Of_any (xs : List Nat) (ao : Option Addr) (n cap B : Nat) (w : World) (hn : n = xs.length) (hm : n ≤ 65536) (hx : Wf xs) (hR : Rd B w ao xs) (hB : B ≤ w.heap.size) :
    Calls Try.prog 31 #[.slice ao n cap] w fun r w' => r = .returned (.agg #[.int .i64 (cn 5 xs : Nat), .int .i64 (cn 3 xs : Nat), .int .i64 (cn 4 xs : Nat), .int .i64 (cn 1 xs : Nat), .int .i64 (cn 2 xs : Nat), .int .i64 (n : Nat)]) ∧ Below w.heap.size w w' := by
  obtain ⟨W1, hW1⟩ : ∃ W, W = w.alloc (.cells #[.int .i64 0, .int .i64 0, .int .i64 0, .int .i64 0, .int .i64 0, .int .i64 0] 30) := ⟨_, rfl⟩
  obtain ⟨W2, hW2⟩ : ∃ W, W = W1.alloc (.cells #[.int .i64 0, .int .i64 0, .int .i64 0, .int .i64 0, .int .i64 0, .int .i64 0] 30) := ⟨_, rfl⟩
  have hs1 : W1.heap.size = w.heap.size + 1 := by rw [hW1]; simp
  have hs2 : W2.heap.size = w.heap.size + 2 := by rw [hW2]; simp [hs1]
  have hbw : Below w.heap.size w W2 := by rw [hW2, hW1]; exact ((Below.refl _ _).alloc (Nat.le_refl _) _).alloc (by simp) _
  have hb0 : SpB W1 w.heap.size 0 0 0 0 0 0 := by rw [hW1]; exact SpB.made _ _ _ _ _ _ _
  have hb1 : SpB W2 (w.heap.size + 1) 0 0 0 0 0 0 := by rw [hW2, ← hs1]; exact SpB.made _ _ _ _ _ _ _
  have hb2 : SpB W2 w.heap.size 0 0 0 0 0 0 := by
    refine hb0.below (B := W1.heap.size) ?_ (by omega)
    rw [hW2]; exact (Below.refl _ _).alloc (Nat.le_refl _) _
  have HX := (Aside.intro (And.intro hn (And.intro hx (And.intro hR (And.intro hB (And.intro hs2 (And.intro hbw (And.intro hb1 (And.intro hb2 (And.intro hW1 hW2))))))))))
  clear hn hx hR hB hs1 hs2 hbw hb0 hb1 hb2 hW1 hW2
  go_enter Try.func31, Try.ntmps31
  go_wp2
  go_loopg [4] n (fun gk iv wr => ∃ (i : Nat), gk + i = n ∧ iv = .int .i64 (i : Nat) ∧ Aside (SpT wr (w.heap.size + 1) (xs.take i) (i : Nat) ∧ But (w.heap.size + 1) W2 wr))
  case atStart =>
    obtain ⟨hn, hx, hR, hB, hs2, hbw, hb1, hb2, hW1, hW2⟩ := HX.out
    refine ⟨0, by omega, rfl, ?_, ?_⟩
    · rw [← hW1, ← hW2]; unfold SpT; simpa [cn_nil] using hb1
    · rw [← hW1, ← hW2]; exact But.refl _ _
  case round =>
    obtain ⟨i, hi, rfl, HA⟩ := hrel
    obtain ⟨hn, hx, hR, hB, hs2, hbw, hb1, hb2, hW1, hW2⟩ := HX.out
    obtain ⟨hS, hbut⟩ := HA.out
    have hT := hS
    unfold SpT at hT
    have hc0 := hT.c0
    have hc1 := hT.c1
    have hc2 := hT.c2
    have hc3 := hT.c3
    have hc4 := hT.c4
    have hc5 := hT.c5
    have hfz := hT.frozen
    have hlt := hT.lt
    have hr := hb2.but hbut (by omega)
    have hg0 := hr.c0
    have hg1 := hr.c1
    have hg2 := hr.c2
    have hg3 := hr.c3
    have hg4 := hr.c4
    have hg5 := hr.c5
    have hgf := hr.frozen
    have hgl := hr.lt
    by_cases hin : i = n
    · obtain rfl : gk = 0 := by omega
      have e : xs.take i = xs := List.take_of_length_le (by omega)
      rw [e] at hc0 hc1 hc2 hc3 hc4
      clear hn hx hR hB hs2 hbw hb1 hb2 hW1 hW2 hS hbut hT hr e
      subst hin
      go_wp2
      refine bodyPost_ret (v := .agg #[.int .i64 (cn 5 xs : Nat), .int .i64 (cn 3 xs : Nat), .int .i64 (cn 4 xs : Nat), .int .i64 (cn 1 xs : Nat), .int .i64 (cn 2 xs : Nat), .int .i64 (i : Nat)]) (by simp [results, Try.results31, go_sem, csetm, hg0, hg1, hg2, hg3, hg4, hg5]) rfl ⟨rfl, ?_⟩
      obtain ⟨hn, hx, hR, hB, hs2, hbw, hb1, hb2, hW1, hW2⟩ := HX.out
      obtain ⟨hS, hbut⟩ := HA.out
      have h1 : Below w.heap.size w wr := But.below hbw hbut (by omega) (by omega)
      exact But.below h1 (But.set6 (But.refl _ _) _ _ _ _ _ _) (by omega) (Nat.le_refl _)
    · have hil : i < n := by omega
      have hRw : Rd w.heap.size wr ao xs := ((hR.mono hB).below hbw).but hbut (by omega) (by omega)
      obtain ⟨b, off, hlt2, rfl, hcell⟩ := hRw (by intro e; rw [e] at hn; simp at hn; omega)
      have hxc := hcell i (by omega)
      have hxw := hx.get i
      have hsuc := fun k => cn_succ k xs i (by omega)
      obtain ⟨x, hxx⟩ : ∃ x, xs.getD i 0 = x := ⟨_, rfl⟩
      rw [hxx] at hxc hxw hsuc
      have l1 : (xs.take i).length ≤ 65536 := by rw [List.length_take]; omega
      have HC := hid (fun w => rCount_any x (cn 5 (xs.take i) : Nat) (cn 3 (xs.take i) : Nat) (cn 4 (xs.take i) : Nat) (cn 1 (xs.take i) : Nat) (cn 2 (xs.take i) : Nat) (i : Nat) w hxw (cn_bd _ _ _ l1 (Nat.le_refl _)) (cn_bd _ _ _ l1 (Nat.le_refl _)) (cn_bd _ _ _ l1 (Nat.le_refl _)) (cn_bd _ _ _ l1 (Nat.le_refl _)) (cn_bd _ _ _ l1 (Nat.le_refl _)) (by omega))
      have HS := Aside.intro hsuc
      obtain ⟨c5, e5⟩ : ∃ c, cn 5 (xs.take i) = c := ⟨_, rfl⟩
      obtain ⟨c3, e3⟩ : ∃ c, cn 3 (xs.take i) = c := ⟨_, rfl⟩
      obtain ⟨c4, e4⟩ : ∃ c, cn 4 (xs.take i) = c := ⟨_, rfl⟩
      obtain ⟨c1, e1⟩ : ∃ c, cn 1 (xs.take i) = c := ⟨_, rfl⟩
      obtain ⟨c2, e2⟩ : ∃ c, cn 2 (xs.take i) = c := ⟨_, rfl⟩
      have HSB := hid hT
      rw [e5, e3, e4, e1, e2] at HSB
      rw [e5] at HC hc0
      rw [e3] at HC hc1
      rw [e4] at HC hc2
      rw [e1] at HC hc3
      rw [e2] at HC hc4
      have HE := (Aside.intro (And.intro e1 (And.intro e2 (And.intro e3 (And.intro e4 e5)))))
      clear hn hx hR hB hs2 hbw hb1 hb2 hW1 hW2 hS hbut hT hr hg0 hg1 hg2 hg3 hg4 hg5 hgf hgl hin hxw hsuc hxx l1 e1 e2 e3 e4 e5 hRw hcell hfz
      go_wp2
      go_region_with (go_at_call 43; refine (HC.out _).mono ?_; rintro r w3 ⟨rfl, hb3⟩; have HQ := Aside.intro (SpB.below (w := wr.drew) HSB.out hb3 hlt); have q0 := HQ.out.c0; have q1 := HQ.out.c1; have q2 := HQ.out.c2; have q3 := HQ.out.c3; have q4 := HQ.out.c4; have q5 := HQ.out.c5; have qf := HQ.out.frozen; have HB3 := Aside.intro hb3; clear hb3)
      all_goals
        go_wp2
        go_roundg (n - (i + 1))
        case measure => omega
        case rel =>
          obtain ⟨hS, hbut⟩ := HA.out
          obtain ⟨e1, e2, e3, e4, e5⟩ := HE.out
          refine ⟨i + 1, by omega, by first | go_num | (congr 1; omega), ?_, ?_⟩
          · have h6 := SpB.set6 HQ.out ((c5 : Int) + one 5 x) ((c3 : Int) + one 3 x) ((c4 : Int) + one 4 x) ((c1 : Int) + one 1 x) ((c2 : Int) + one 2 x) ((i : Int) + 1)
            unfold SpT
            rw [HS.out 5, HS.out 3, HS.out 4, HS.out 1, HS.out 2, e1, e2, e3, e4, e5]
            first | exact h6 | exact_mod_cast h6
          · exact hbut.trans ((But.of_below (w := wr.drew) ((But.refl _ wr).drew) HB3.out).set6 _ _ _ _ _ _)
end Go.Proofs.Ytfocdjfnlbendaa

/- What Sift keeps to, on both sides; the program's Sift. -/
namespace Go.Proofs.Ytfocdjfnlbendaa
open Go.RowKit
open Go.Proofs.Ytfocdjfnlbendaa.B (f64bits f64frombits bw bcell)
set_option linter.unusedVariables false
set_option maxRecDepth 20000
attribute [local go_sem] st_float f64bits f64frombits

/-- The finite ones. -/
def fin (xs : List Nat) : List Nat := xs.filter (fun x => decide (kd x ≤ 2))
theorem fin_append (xs ys : List Nat) : fin (xs ++ ys) = fin xs ++ fin ys := by simp [fin, List.filter_append]
theorem fin_le (xs : List Nat) : (fin xs).length ≤ xs.length := List.length_filter_le _ _
theorem fin_in (xs : List Nat) (i : Nat) (h : i < xs.length) (hk : kd (xs.getD i 0) ≤ 2) : fin (xs.take (i + 1)) = fin (xs.take i) ++ [xs.getD i 0] := by
  rw [take_succ' xs i h, fin_append]; simp [fin]; simpa [List.getD_eq_getElem?_getD] using hk
theorem fin_out (xs : List Nat) (i : Nat) (h : i < xs.length) (hk : ¬ kd (xs.getD i 0) ≤ 2) : fin (xs.take (i + 1)) = fin (xs.take i) := by
  rw [take_succ' xs i h, fin_append]; simp [fin]; simpa [List.getD_eq_getElem?_getD] using hk

def siftE (a b : Int) (xs : List Nat) : Int := if may a b = false then 1 else if 65536 < xs.length then 2 else rf (cn 5 xs : Nat) (cn 3 xs : Nat) (cn 4 xs : Nat) a b
def siftL (a b : Int) (xs : List Nat) : List Nat := if siftE a b xs = 0 then fin xs else []
def siftS (a b : Int) (xs : List Nat) : Value := if siftE a b xs = 0 then .agg #[.int .i64 (cn 5 xs : Nat), .int .i64 (cn 3 xs : Nat), .int .i64 (cn 4 xs : Nat), .int .i64 (cn 1 xs : Nat), .int .i64 (cn 2 xs : Nat), .int .i64 (xs.length : Nat)] else .agg #[.int .i64 0, .int .i64 0, .int .i64 0, .int .i64 0, .int .i64 0, .int .i64 0]
/-- What Sift answers. -/
def SiftAns (w : World) (a b : Int) (xs : List Nat) (r : Ending) (w' : World) : Prop := ∃ v, r = .returned (.tuple #[v, siftS a b xs, .int .i64 (siftE a b xs)]) ∧ Lt w.heap.size w' v (siftL a b xs) ∧ Below w.heap.size w w'

theorem SiftAns.no {w w' : World} {a b : Int} {xs : List Nat} (e : Int) (he : siftE a b xs = e) (h0 : e ≠ 0) (hb : Below w.heap.size w w') : SiftAns w a b xs (.returned (.tuple #[.slice none 0 0, .agg #[.int .i64 0, .int .i64 0, .int .i64 0, .int .i64 0, .int .i64 0, .int .i64 0], .int .i64 e])) w' := by
  subst he
  refine ⟨.slice none 0 0, ?_, ?_, hb⟩
  · unfold siftS; rw [if_neg h0]
  · unfold siftL; rw [if_neg h0]; exact Lt.nil _ _
theorem SiftAns.yes {w w' : World} {a b : Int} {xs : List Nat} {v : Value} (he : siftE a b xs = 0) (hv : Rw w.heap.size w' v (fin xs).length ((fin xs).map U)) (hb : Below w.heap.size w w') :
    SiftAns w a b xs (.returned (.tuple #[v, .agg #[.int .i64 (cn 5 xs : Nat), .int .i64 (cn 3 xs : Nat), .int .i64 (cn 4 xs : Nat), .int .i64 (cn 1 xs : Nat), .int .i64 (cn 2 xs : Nat), .int .i64 (xs.length : Nat)], .int .i64 0])) w' := by
  refine ⟨v, ?_, ?_, hb⟩
  · rw [he]; unfold siftS; rw [if_pos he]
  · unfold siftL; rw [if_pos he]; exact hv

/-- A row in a world in which only other things have changed. -/
theorem Rw.below {lo : Nat} {w w' : World} {v : Value} {n : Nat} {ys : List Value} (h : Rw lo w v n ys) (hb : Below w.heap.size w w') : Rw lo w' v n ys :=
  Keep.row h (Keep.below hb)
theorem Rw.but {lo g : Nat} {w w' : World} {v : Value} {n : Nat} {ys : List Value} (h : Rw lo w v n ys) (hb : But g w w') {cur : Array Value} {e : TypeId} (he : e ≠ 41) (hg : w.heap[g]? = some (.cells cur e (0, 0))) : Rw lo w' v n ys := by
  refine row_other h fun k hk => ?_
  rcases h.2 with ⟨rfl, _⟩ | ⟨g2, cap, c2, rfl, _, hg2, _⟩
  · cases hk
  · cases hk
    refine hb.block _ (Array.getElem?_eq_some_iff.1 hg2).1 (fun e2 => ?_)
    subst e2
    rw [hg] at hg2
    cases hg2
    exact he rfl
theorem Rw.mono {lo lo' : Nat} {w : World} {v : Value} {n : Nat} {ys : List Value} (h : Rw lo w v n ys) (hl : lo' ≤ lo) : Rw lo' w v n ys := by
  refine ⟨h.1, ?_⟩
  rcases h.2 with hn | ⟨g, cap, cur, rfl, hlo, rest⟩
  · exact .inl hn
  · exact .inr ⟨g, cap, cur, rfl, by omega, rest⟩
theorem Rw.low {lo : Nat} {w : World} {v : Value} {n : Nat} {ys : List Value} (h : Rw lo w v n ys) : ∀ b, v.ownBlock = some b → lo ≤ b := by
  intro b hb
  rcases h.2 with ⟨rfl, _⟩ | ⟨g, cap, cur, rfl, hlo, _⟩
  · cases hb
  · cases hb; exact hlo
theorem Rw.form {lo : Nat} {w : World} {v : Value} {n : Nat} {ys : List Value} (h : Rw lo w v n ys) : ∃ ao cap, v = .slice ao n cap := by
  rcases h.2 with ⟨rfl, h0⟩ | ⟨g, cap, cur, rfl, _⟩
  · exact ⟨none, 0, by rw [h0]⟩
  · exact ⟨_, cap, rfl⟩

theorem make_room (n : Nat) (hn : n ≤ 65536) (w : World) :
    (Instr.makeSlice 27 (.int .i64 0) (.int .i64 (n : Nat))).run Try.prog w = .ok (.slice (some ⟨w.heap.size, 0, none⟩) 0 n) (w.alloc (.cells (madeCells #[.float .f64 0] n) 41)) := by
  obtain ⟨i0, hi, hz0, hz1, hz2⟩ := info_parts Try.info41
  have hr := run_make (P := Try.prog) w 27 41 i0 (.float .f64 0) Try.underlying27 hi hz0 .i64 .i64 0 (n : Int) (Int.le_refl _) (by omega) (by rw [hz2]; omega) (by omega)
  rw [hz1, Nat.mul_one] at hr
  simp only [Int.toNat_natCast, Int.toNat_zero] at hr
  exact hr

theorem row_made (lo : Nat) (w : World) (n : Nat) (hn : n ≤ 65536) (hlo : lo ≤ w.heap.size) : Rw lo (w.alloc (.cells (madeCells #[.float .f64 0] n) 41)) (.slice (some ⟨w.heap.size, 0, none⟩) 0 n) 0 [] := by
  refine ⟨rfl, .inr ⟨w.heap.size, n, madeCells #[.float .f64 0] n, rfl, hlo, heap_alloc_new w _, by omega, by unfold maxLen; omega, ?_, ?_⟩⟩
  · have := congrArg List.length (toList_madeCells_one (.float .f64 0) n)
    simpa using this
  · simp

/-- One number more in the row; what lies elsewhere stays. -/
theorem push (lo : Nat) (w : World) (v : Value) (ys : List Nat) (x : Nat) (hrow : Rw lo w v ys.length (ys.map U)) (hn : ys.length ≤ 65536) (hlo : lo ≤ w.heap.size) :
    ∃ v' w', (Builtin.append_ #[27, 27] 27 #[v, .slice (some ⟨w.heap.size, 0, none⟩) 1 1]).run Try.prog (w.alloc (.cells #[.float .f64 x] 41)) = .ok v' w' ∧ Rw lo w' v' (ys ++ [x]).length ((ys ++ [x]).map U) ∧
      Below lo w w' ∧ (∀ (g : Nat) (cur : Array Value) (e : TypeId), e ≠ 41 → w.heap[g]? = some (.cells cur e (0, 0)) → w'.heap[g]? = some (.cells cur e (0, 0))) ∧ w.heap.size ≤ w'.heap.size := by
  obtain ⟨v', w', h1, h2, h3, _, _⟩ := append_word (w.alloc (.cells #[.float .f64 x] 41)) lo v ys.length (ys.map U) (.float .f64 x) w.heap.size 27 (hrow.alloc _) (by unfold World.cell?; simp only [heap_alloc_new]; rfl) rfl (by omega) (by simp; omega)
  refine ⟨v', w', h1, by simpa [U] using h2, ((Below.refl lo w).alloc hlo _).grown h3 (by simp; omega) hrow.low, ?_, by have := h3.size; simp at this; omega⟩
  intro g cur e he hg
  have hgl := (Array.getElem?_eq_some_iff.1 hg).1
  rw [h3.block g (by simp; omega) (fun e2 => ?_), Below.heap_alloc _ _ _ hgl]
  · exact hg
  · rcases hrow.2 with ⟨rfl, _⟩ | ⟨g2, cap, c2, rfl, _, hg2, _⟩
    · cases e2
    · cases e2
      rw [hg] at hg2
      cases hg2
      exact he rfl

/-- What stands while the list is gone through. -/
structure SI (lo sb : Nat) (W1 : World) (xs : List Nat) (i : Nat) (a : Int) (v : Value) (wr : World) : Prop where
  row : Rw lo wr v (fin (xs.take i)).length ((fin (xs.take i)).map U)
  sp : SpT wr sb (xs.take i) a
  bel : Below lo W1 wr
  size : W1.heap.size ≤ wr.heap.size

theorem SI.kind {lo sb : Nat} {W1 : World} {xs : List Nat} {i : Nat} {a : Int} {v : Value} {wr w1 : World} (h : SI lo sb W1 xs i a v wr) (hb : Below wr.heap.size wr w1) (hlo : lo ≤ wr.heap.size) : SI lo sb W1 xs i a v w1 :=
  ⟨h.row.below hb, SpB.below h.sp hb (SpB.lt h.sp), h.bel.trans (hb.mono hlo), Nat.le_trans h.size hb.size⟩

theorem SI.out {lo sb : Nat} {W1 : World} {xs : List Nat} {i : Nat} {a : Int} {v : Value} {wr w2 : World} (h : SI lo sb W1 xs i a v wr) (hi : i < xs.length) (hs : SpT w2 sb (xs.take (i + 1)) a) (hb : But sb wr w2) (hlo : lo ≤ sb) (hl : lo ≤ wr.heap.size) (hk : ¬ kd (xs.getD i 0) ≤ 2) : SI lo sb W1 xs (i + 1) a v w2 :=
  ⟨by rw [fin_out xs i hi hk]; exact h.row.but hb (by decide) h.sp, hs, But.below h.bel hb hl hlo, Nat.le_trans h.size hb.size⟩

theorem SI.row2 {lo sb : Nat} {W1 : World} {xs : List Nat} {i : Nat} {a : Int} {v : Value} {wr w2 : World} (h : SI lo sb W1 xs i a v wr) (hb : But sb wr w2) : Rw lo w2 v (fin (xs.take i)).length ((fin (xs.take i)).map U) := h.row.but hb (by decide) h.sp

theorem SpB.keep {w w' : World} {g : Nat} {n u d m p a : Int} (h : SpB w g n u d m p a) (hk : ∀ (g : Nat) (cur : Array Value) (e : TypeId), e ≠ 41 → w.heap[g]? = some (.cells cur e (0, 0)) → w'.heap[g]? = some (.cells cur e (0, 0))) : SpB w' g n u d m p a :=
  hk _ _ _ (by decide) h

theorem SI.into {lo sb : Nat} {W1 : World} {xs : List Nat} {i : Nat} {a : Int} {v v' : Value} {wr w2 w3 : World} (h : SI lo sb W1 xs i a v wr) (hi : i < xs.length) (hs : SpT w2 sb (xs.take (i + 1)) a) (hb : But sb wr w2) (hlo : lo ≤ sb) (hl : lo ≤ wr.heap.size) (hk : kd (xs.getD i 0) ≤ 2)
    (hrow : Rw lo w3 v' (fin (xs.take i) ++ [xs.getD i 0]).length ((fin (xs.take i) ++ [xs.getD i 0]).map U)) (hb3 : Below lo w2 w3) (hkeep : ∀ (g : Nat) (cur : Array Value) (e : TypeId), e ≠ 41 → w2.heap[g]? = some (.cells cur e (0, 0)) → w3.heap[g]? = some (.cells cur e (0, 0))) (hsz : w2.heap.size ≤ w3.heap.size) : SI lo sb W1 xs (i + 1) a v' w3 :=
  ⟨by rw [fin_in xs i hi hk]; exact hrow, SpB.keep hs hkeep, (But.below h.bel hb hl hlo).trans hb3, Nat.le_trans (Nat.le_trans h.size hb.size) hsz⟩

theorem kp_one (x : Nat) (n u d m p : Nat) : (if kp (kd x) = 0 then ((n : Nat) : Int) + 1 else n) = ((n + one 5 x : Nat) : Int) ∧ (if kp (kd x) = 1 then ((u : Nat) : Int) + 1 else u) = ((u + one 3 x : Nat) : Int) ∧ (if kp (kd x) = 2 then ((d : Nat) : Int) + 1 else d) = ((d + one 4 x : Nat) : Int) ∧
    (if kp (kd x) = 3 then ((m : Nat) : Int) + 1 else m) = ((m + one 1 x : Nat) : Int) ∧ (if kp (kd x) = 4 then ((p : Nat) : Int) + 1 else p) = ((p + one 2 x : Nat) : Int) := by
  have hk := kd_le x
  unfold one
  generalize kd x = k at hk
  obtain rfl | rfl | rfl | rfl | rfl | rfl : k = 0 ∨ k = 1 ∨ k = 2 ∨ k = 3 ∨ k = 4 ∨ k = 5 := by omega
  all_goals simp [kp]
theorem kp_ge (x : Nat) : 3 ≤ kp (kd x) ↔ kd x ≤ 2 := by
  have hk := kd_le x
  generalize kd x = k at hk
  obtain rfl | rfl | rfl | rfl | rfl | rfl : k = 0 ∨ k = 1 ∨ k = 2 ∨ k = 3 ∨ k = 4 ∨ k = 5 := by omega
  all_goals simp [kp]
theorem kp_le (x : Nat) : kp (kd x) ≤ 5 := by unfold kp; (repeat' split) <;> omega
theorem SpT.counted {w w' : World} {sb : Nat} {xs : List Nat} {i : Nat} {a : Int} (hi : i < xs.length)
    (h : SpB w' sb (if kp (kd (xs.getD i 0)) = 0 then ((cn 5 (xs.take i) : Nat) : Int) + 1 else ((cn 5 (xs.take i) : Nat) : Int)) (if kp (kd (xs.getD i 0)) = 1 then ((cn 3 (xs.take i) : Nat) : Int) + 1 else ((cn 3 (xs.take i) : Nat) : Int)) (if kp (kd (xs.getD i 0)) = 2 then ((cn 4 (xs.take i) : Nat) : Int) + 1 else ((cn 4 (xs.take i) : Nat) : Int)) (if kp (kd (xs.getD i 0)) = 3 then ((cn 1 (xs.take i) : Nat) : Int) + 1 else ((cn 1 (xs.take i) : Nat) : Int)) (if kp (kd (xs.getD i 0)) = 4 then ((cn 2 (xs.take i) : Nat) : Int) + 1 else ((cn 2 (xs.take i) : Nat) : Int)) a) :
    SpT w' sb (xs.take (i + 1)) a := by
  obtain ⟨h1, h2, h3, h4, h5⟩ := kp_one (xs.getD i 0) (cn 5 (xs.take i)) (cn 3 (xs.take i)) (cn 4 (xs.take i)) (cn 1 (xs.take i)) (cn 2 (xs.take i))
  rw [h1, h2, h3, h4, h5] at h
  unfold SpT
  rw [cn_succ 5 xs i hi, cn_succ 3 xs i hi, cn_succ 4 xs i hi, cn_succ 1 xs i hi, cn_succ 2 xs i hi]
  exact h
end Go.Proofs.Ytfocdjfnlbendaa

/- The program's Sift. -/
namespace Go.Proofs.Ytfocdjfnlbendaa
open Go.RowKit
open Go.Proofs.Ytfocdjfnlbendaa.B (f64bits f64frombits bw bcell)
set_option linter.unusedVariables false
set_option maxRecDepth 20000
attribute [local go_sem] st_float f64bits f64frombits

set_option maxHeartbeats 4000000 in
theorem Sift_arg (xs : List Nat) (ao : Option Addr) (n cap : Nat) (a b : Int) (w : World) (hm : may a b = false) :
    Calls Try.prog 12 #[.slice ao n cap, .agg #[.int .i64 a, .int .i64 b]] w (SiftAns w a b xs) := by
  have H := hid (May_any a b)
  rw [hm] at H
  have HE : Aside (siftE a b xs = 1) := by unfold siftE; rw [hm]; rfl
  clear hm
  go_enter Try.func12, Try.ntmps12
  go_wp2_with fail
  refine (H.out _).mono ?_
  rintro r w1 ⟨rfl, hb⟩
  have hsz := hb.size
  simp at hsz
  obtain ⟨hc, hf⟩ := bcell hb
  have HB := Aside.intro hb
  clear hb
  go_wp2
  refine bodyPost_ret (v := .tuple #[.slice none 0 0, .agg #[.int .i64 0, .int .i64 0, .int .i64 0, .int .i64 0, .int .i64 0, .int .i64 0], .int .i64 1]) (by simp [results, Try.results12, go_sem, csetm, hc]) rfl (SiftAns.no 1 HE.out (by decide) ?_)
  exact But.below ((((Below.refl _ w).alloc (Nat.le_refl _) _).alloc (by simp) _).trans (HB.out.mono (by simp; omega))) (But.set6 (But.refl (w.heap.size + 1) _) _ _ _ _ _ _) (by omega) (by omega)

set_option maxHeartbeats 4000000 in
theorem Sift_long (xs : List Nat) (ao : Option Addr) (n cap : Nat) (a b : Int) (w : World) (hn : n = xs.length) (hm : may a b = true) (hl : 65536 < n) (hn2 : n ≤ 35184372088832) :
    Calls Try.prog 12 #[.slice ao n cap, .agg #[.int .i64 a, .int .i64 b]] w (SiftAns w a b xs) := by
  have H := hid (May_any a b)
  rw [hm] at H
  have HE : Aside (siftE a b xs = 2) := by unfold siftE; rw [if_neg (by rw [hm]; decide), if_pos (by omega), Aside]
  clear hm hn
  go_enter Try.func12, Try.ntmps12
  go_wp2_with fail
  refine (H.out _).mono ?_
  rintro r w1 ⟨rfl, hb⟩
  have hsz := hb.size
  simp at hsz
  obtain ⟨hc, hf⟩ := bcell hb
  have HB := Aside.intro hb
  clear hb
  go_wp2
  refine bodyPost_ret (v := .tuple #[.slice none 0 0, .agg #[.int .i64 0, .int .i64 0, .int .i64 0, .int .i64 0, .int .i64 0, .int .i64 0], .int .i64 2]) (by simp [results, Try.results12, go_sem, csetm, hc]) rfl (SiftAns.no 2 HE.out (by decide) ?_)
  exact But.below ((((Below.refl _ w).alloc (Nat.le_refl _) _).alloc (by simp) _).trans (HB.out.mono (by simp; omega))) (But.set6 (But.refl (w.heap.size + 1) _) _ _ _ _ _ _) (by omega) (by omega)

set_option maxHeartbeats 8000000 in
set_option maxRecDepth 100000 in
theorem Sift_rest (xs : List Nat) (ao : Option Addr) (n cap B : Nat) (a b : Int) (w : World) (hn : n = xs.length) (hm : may a b = true) (hl : n ≤ 65536) (hx : Wf xs) (hR : Rd B w ao xs) (hB : B ≤ w.heap.size) :
    Calls Try.prog 12 #[.slice ao n cap, .agg #[.int .i64 a, .int .i64 b]] w (SiftAns w a b xs) := by
  have H := hid (May_any a b)
  rw [hm] at H
  have HE : Aside (siftE a b xs = rf (cn 5 xs : Nat) (cn 3 xs : Nat) (cn 4 xs : Nat) a b) := by unfold siftE; rw [if_neg (by rw [hm]; decide), if_neg (by omega), Aside]
  have hmk := make_room n hl
  have HX := (Aside.intro (And.intro hn (And.intro hx (And.intro hR hB))))
  clear hm hn hx hR hB
  go_enter Try.func12, Try.ntmps12
  go_wp2_with fail
  refine (H.out _).mono ?_
  rintro r w1 ⟨rfl, hb⟩
  have hsz := hb.size
  simp at hsz
  obtain ⟨hc, hf⟩ := bcell hb
  have HB := Aside.intro hb
  have HZ : Aside (SpB w1 (w.heap.size + 1) 0 0 0 0 0 0) := by
    have h1 := SpB.made (w.alloc (.cells #[.int .i64 a, .int .i64 b] 23)) 0 0 0 0 0 0
    simp only [World.size_alloc] at h1
    exact h1.below hb (by simp)
  clear hb
  go_wp2
  go_loopg [7, 28] n (fun gk lv cv wr => ∃ (i : Nat), gk + i = n ∧ cv = .int .i64 (i : Nat) ∧ Aside (SI w1.heap.size (w1.heap.size + 1) w1 xs i (n : Nat) lv wr))
  case atStart =>
    refine ⟨0, by omega, rfl, ?_⟩
    have h1 := (row_made w1.heap.size w1 n hl (Nat.le_refl _)).alloc (.cells #[.int .i64 0, .int .i64 0, .int .i64 0, .int .i64 0, .int .i64 0, .int .i64 (n : Nat)] 30)
    have h2 := SpB.made (w1.alloc (.cells (madeCells #[.float .f64 0] n) 41)) 0 0 0 0 0 (n : Nat)
    simp only [World.size_alloc] at h2
    exact ⟨h1, h2, ((Below.refl _ _).alloc (Nat.le_refl _) _).alloc (by simp) _, by simp; omega⟩
  case round =>
    obtain ⟨i, hi, rfl, HA⟩ := hrel
    by_cases hin : i = n
    · obtain rfl : gk = 0 := by omega
      obtain ⟨hn, hx, hR, hB⟩ := HX.out
      have hS := HA.out
      have e : xs.take i = xs := List.take_of_length_le (by omega)
      have hT := hS.sp
      unfold SpT at hT
      rw [e] at hT
      have hc0 := hT.c0
      have hc1 := hT.c1
      have hc2 := hT.c2
      have hc3 := hT.c3
      have hc4 := hT.c4
      have hc5 := hT.c5
      have hlt := hT.lt
      have hcb : ∀ b o, b < w1.heap.size → wr.cell? ⟨b, o, none⟩ = w1.cell? ⟨b, o, none⟩ := fun b o h => hS.bel.cell (p := ⟨b, o, none⟩) h
      have hp0 : wr.cell? ⟨w.heap.size, 0, none⟩ = some (.int .i64 a) := by rw [hcb _ _ (by omega), hc _ _ (by simp; omega)]; simp [go_sem]
      have hp1 : wr.cell? ⟨w.heap.size, 1, none⟩ = some (.int .i64 b) := by rw [hcb _ _ (by omega), hc _ _ (by simp; omega)]; simp [go_sem]
      have hZ : SpB wr (w.heap.size + 1) 0 0 0 0 0 0 := HZ.out.below hS.bel (by omega)
      have hbd := fun k => cn_bd k xs n (by omega) hl
      have HRF := hid (fun w => refusal_any (cn 5 xs : Nat) (cn 3 xs : Nat) (cn 4 xs : Nat) (cn 1 xs : Nat) (cn 2 xs : Nat) (n : Nat) a b w (hbd 3) (hbd 4))
      obtain ⟨ee, hee⟩ : ∃ ee, rf (cn 5 xs : Nat) (cn 3 xs : Nat) (cn 4 xs : Nat) a b = ee := ⟨_, rfl⟩
      have HEE : Aside (siftE a b xs = ee) := by rw [Aside, HE.out, hee]
      rw [hee] at HRF
      obtain ⟨c5, e5⟩ : ∃ c, cn 5 xs = c := ⟨_, rfl⟩
      obtain ⟨c3, e3⟩ : ∃ c, cn 3 xs = c := ⟨_, rfl⟩
      obtain ⟨c4, e4⟩ : ∃ c, cn 4 xs = c := ⟨_, rfl⟩
      obtain ⟨c1, e1⟩ : ∃ c, cn 1 xs = c := ⟨_, rfl⟩
      obtain ⟨c2, e2⟩ : ∃ c, cn 2 xs = c := ⟨_, rfl⟩
      rw [e5, e3, e4, e1, e2] at hT HRF
      rw [e5] at hc0
      rw [e3] at hc1
      rw [e4] at hc2
      rw [e1] at hc3
      rw [e2] at hc4
      have HY := (Aside.intro (And.intro hZ (And.intro hT (And.intro e (And.intro e1 (And.intro e2 (And.intro e3 (And.intro e4 e5))))))))
      have hBs := hS.size
      clear hn hx hR hB hS hT e hcb hbd hee e1 e2 e3 e4 e5 hZ
      subst hin
      go_wp2_with fail
      refine (HRF.out _).mono ?_
      rintro r w5 ⟨rfl, hb5⟩
      obtain ⟨hZ, hT, e, e1, e2, e3, e4, e5⟩ := HY.out
      have hZ5 := hZ.below hb5 hZ.lt
      have hT5 := hT.below hb5 hT.lt
      have hr5 := HA.out.row.below hb5
      have hZf := hZ5.frozen
      have hz0 := hZ5.c0
      have hz1 := hZ5.c1
      have hz2 := hZ5.c2
      have hz3 := hZ5.c3
      have hz4 := hZ5.c4
      have hz5 := hZ5.c5
      have ht0 := hT5.c0
      have ht1 := hT5.c1
      have ht2 := hT5.c2
      have ht3 := hT5.c3
      have ht4 := hT5.c4
      have ht5 := hT5.c5
      have hzl := hZ5.lt
      have hbel5 : Below w.heap.size w w5 := ((((Below.refl _ w).alloc (Nat.le_refl _) _).alloc (by simp) _).trans (HB.out.mono (by simp; omega))).trans ((HA.out.bel.mono (by omega)).trans (hb5.mono (by omega)))
      have HV := (Aside.intro (And.intro hbel5 (And.intro hr5 (And.intro hZ5 (And.intro hT5 (And.intro e (And.intro e1 (And.intro e2 (And.intro e3 (And.intro e4 e5))))))))))
      clear hZ hT e e1 e2 e3 e4 e5 hb5 hZ5 hT5 hr5 hbel5 hc0 hc1 hc2 hc3 hc4 hc5 hp0 hp1 HY
      by_cases h0 : ee = 0
      · subst h0
        go_wp2
        go_region
        all_goals
          go_wp2
          refine bodyPost_ret (v := .tuple #[u7, .agg #[.int .i64 (c5 : Nat), .int .i64 (c3 : Nat), .int .i64 (c4 : Nat), .int .i64 (c1 : Nat), .int .i64 (c2 : Nat), .int .i64 (i : Nat)], .int .i64 0]) (by simp [results, Try.results12, go_sem, csetm, hz0, hz1, hz2, hz3, hz4, hz5]) rfl ?_
          obtain ⟨hbel5, hr5, hZ5, hT5, e, e1, e2, e3, e4, e5⟩ := HV.out
          have hbut : But (w.heap.size + 1) w5 _ := (But.set6 (But.refl (w.heap.size + 1) w5) (.int .i64 (c5 : Nat)) (.int .i64 (c3 : Nat)) (.int .i64 (c4 : Nat)) (.int .i64 (c1 : Nat)) (.int .i64 (c2 : Nat)) (.int .i64 (i : Nat))).drew
          have hR6 := Rw.mono (Rw.but hr5 hbut (by decide) hZ5) (show w.heap.size ≤ w1.heap.size by omega)
          rw [e] at hR6
          have hans := SiftAns.yes HEE.out hR6 (But.below hbel5 hbut (by omega) (by omega))
          rw [← HX.out.1, e1, e2, e3, e4, e5] at hans
          exact hans
      · have h0' : (ee == 0) = false := by rw [beq_eq_false_iff_ne]; exact h0
        go_wp2
        refine bodyPost_ret (v := .tuple #[.slice none 0 0, .agg #[.int .i64 0, .int .i64 0, .int .i64 0, .int .i64 0, .int .i64 0, .int .i64 0], .int .i64 ee]) (by simp [results, Try.results12, go_sem, csetm, hz0, hz1, hz2, hz3, hz4, hz5]) rfl (SiftAns.no ee HEE.out h0 ?_)
        exact But.below HV.out.1 (But.set6 (But.refl (w.heap.size + 1) _) _ _ _ _ _ _) (by omega) (by omega)
    · have hil : i < n := by omega
      obtain ⟨hn, hx, hR, hB⟩ := HX.out
      have hS := HA.out
      have hbw : Below w.heap.size w wr := ((((Below.refl _ w).alloc (Nat.le_refl _) _).alloc (by simp) _).trans (HB.out.mono (by simp; omega))).trans (hS.bel.mono (by omega))
      have hRw : Rd w.heap.size wr ao xs := (hR.mono hB).below hbw
      obtain ⟨bb, off, hlt2, rfl, hcell⟩ := hRw (by intro e; rw [e] at hn; simp at hn; omega)
      have hxc := hcell i (by omega)
      have hxw := hx.get i
      obtain ⟨x, hxx⟩ : ∃ x, xs.getD i 0 = x := ⟨_, rfl⟩
      rw [hxx] at hxc hxw
      have HK := hid (kind_any x hxw)
      have hk5 := kp_le x
      have hk3 := kp_ge x
      obtain ⟨kk, hkk⟩ : ∃ kk, kp (kd x) = kk := ⟨_, rfl⟩
      rw [hkk] at HK hk5 hk3
      have l1 : (xs.take i).length ≤ 65536 := by rw [List.length_take]; omega
      have hbd := fun k => cn_bd k (xs.take i) 65536 l1 (Nat.le_refl _)
      have hwl := hS.size
      have HY := (Aside.intro (And.intro hxx (And.intro hkk (And.intro hk3 (And.intro hbd (And.intro hn hlt2))))))
      clear hn hx hR hB hS hbw hRw hcell hxx hkk hk3 hbd l1 hin
      go_wp2_with fail
      refine (HK.out _).mono ?_
      rintro r w2 ⟨rfl, hb2⟩
      have HS2 := Aside.intro (SI.kind HA.out hb2 hwl)
      have hxc2 : w2.cell? ⟨bb, off + i, none⟩ = some (.float .f64 x) := by rw [hb2.cell (p := ⟨bb, off + i, none⟩) (by have := HY.out.2.2.2.2.2; simp; omega)]; exact hxc
      have hsz2 := hb2.size
      have HC := hid (count_any kk (w1.heap.size + 1) _ _ _ _ _ _ w2 hk5 HS2.out.sp (HY.out.2.2.2.1 5) (HY.out.2.2.2.1 3) (HY.out.2.2.2.1 4) (HY.out.2.2.2.1 1) (HY.out.2.2.2.1 2))
      clear hb2 hxc
      go_wp2_with fail
      refine Calls.mono HC.out ?_
      rintro r w3 ⟨rfl, hs3, hbut3⟩
      obtain ⟨hxx, hkk, hk3, hbd, hn, hlt2⟩ := HY.out
      have hs3' : SpT w3 (w1.heap.size + 1) (xs.take (i + 1)) (n : Nat) := SpT.counted (w := w2) (by omega) (by rw [hxx, hkk]; exact hs3)
      have hsz3 := hbut3.size
      have hxc3 : w3.cell? ⟨bb, off + i, none⟩ = some (.float .f64 x) := by
        have h9 := (But.below (Below.refl w1.heap.size w2) hbut3 (by omega) (by omega)).cell (p := ⟨bb, off + i, none⟩) (by simp; omega)
        rw [h9]; exact hxc2
      by_cases hk2 : kd x ≤ 2
      · have hge : (3 : Int) ≤ (kk : Int) := by have := hk3.2 hk2; omega
        obtain ⟨v', w4, hap, hrow4, hb4, hkeep4, hsz4⟩ := push w1.heap.size w3 u7 (fin (xs.take i)) x (SI.row2 HS2.out hbut3) (by have h1 := fin_le (xs.take i); rw [List.length_take] at h1; omega) (by omega)
        have HI := Aside.intro (SI.into (v' := v') HS2.out (by omega) hs3' hbut3 (by omega) (by omega) (by rw [hxx]; exact hk2) (by rw [hxx]; exact hrow4) hb4 hkeep4 hsz4)
        have HAP := hid hap
        clear hap hrow4 hb4 hkeep4 hsz4 hs3 hs3' hbut3 hxx hkk hk3 hbd hn hlt2 hk2 hxc2
        go_wp2_with (at_builtin; refine wpList_append_run2 rfl (.tmp 40) (.tmp 45) 27 rfl _ _ rfl rfl _ _ HAP.out ?_)
        go_roundg (n - (i + 1))
        case measure => omega
        case rel => exact ⟨i + 1, by omega, by first | go_num | (congr 1; omega), HI⟩
      · have hge : decide ((3 : Int) ≤ (kk : Int)) = false := decide_eq_false (fun h => hk2 (hk3.1 (by omega)))
        have HI := Aside.intro (SI.out HS2.out (by omega) hs3' hbut3 (by omega) (by omega) (by rw [hxx]; exact hk2))
        clear hs3 hs3' hbut3 hxx hkk hk3 hbd hn hlt2 hk2 hxc2
        go_wp2
        go_roundg (n - (i + 1))
        case measure => omega
        case rel => exact ⟨i + 1, by omega, by first | go_num | (congr 1; omega), HI⟩

theorem Sift_any (xs : List Nat) (ao : Option Addr) (n cap B : Nat) (a b : Int) (w : World) (hn : n = xs.length) (hm : n ≤ 35184372088832) (hx : Wf xs) (hR : Rd B w ao xs) (hB : B ≤ w.heap.size) :
    Calls Try.prog 12 #[.slice ao n cap, .agg #[.int .i64 a, .int .i64 b]] w (SiftAns w a b xs) := by
  rcases h : may a b with _ | _
  · exact Sift_arg xs ao n cap a b w h
  · by_cases hl : 65536 < n
    · exact Sift_long xs ao n cap a b w hn h hl hm
    · exact Sift_rest xs ao n cap B a b w hn h (by omega) hx hR hB
end Go.Proofs.Ytfocdjfnlbendaa

/- The document's Sift. -/
namespace Go.Proofs.Ytfocdjfnlbendaa
open Go.RowKit
open Go.Proofs.Ytfocdjfnlbendaa.B (f64bits f64frombits bw bcell)
set_option linter.unusedVariables false
set_option maxRecDepth 20000
attribute [local go_sem] st_float f64bits f64frombits

set_option maxHeartbeats 4000000 in
theorem rSift_arg (xs : List Nat) (ao : Option Addr) (n cap : Nat) (a b : Int) (w : World) (hm : may a b = false) :
    Calls Try.prog 14 #[.slice ao n cap, .agg #[.int .i64 a, .int .i64 b]] w (SiftAns w a b xs) := by
  have H := hid (rMay_any a b)
  rw [hm] at H
  have HE : Aside (siftE a b xs = 1) := by unfold siftE; rw [hm]; rfl
  clear hm
  go_enter Try.func14, Try.ntmps14
  go_wp2_with fail
  refine (H.out _).mono ?_
  rintro r w1 ⟨rfl, hb⟩
  have hsz := hb.size
  simp at hsz
  obtain ⟨hc, hf⟩ := bcell hb
  have HB := Aside.intro hb
  clear hb
  go_wp2
  refine bodyPost_ret (v := .tuple #[.slice none 0 0, .agg #[.int .i64 0, .int .i64 0, .int .i64 0, .int .i64 0, .int .i64 0, .int .i64 0], .int .i64 1]) (by simp [results, Try.results14, go_sem, csetm, hc]) rfl (SiftAns.no 1 HE.out (by decide) ?_)
  exact But.below ((((Below.refl _ w).alloc (Nat.le_refl _) _).alloc (by simp) _).trans (HB.out.mono (by simp; omega))) (But.set6 (But.refl (w.heap.size + 1) _) _ _ _ _ _ _) (by omega) (by omega)

set_option maxHeartbeats 4000000 in
theorem rSift_long (xs : List Nat) (ao : Option Addr) (n cap : Nat) (a b : Int) (w : World) (hn : n = xs.length) (hm : may a b = true) (hl : 65536 < n) (hn2 : n ≤ 35184372088832) :
    Calls Try.prog 14 #[.slice ao n cap, .agg #[.int .i64 a, .int .i64 b]] w (SiftAns w a b xs) := by
  have H := hid (rMay_any a b)
  rw [hm] at H
  have HE : Aside (siftE a b xs = 2) := by unfold siftE; rw [if_neg (by rw [hm]; decide), if_pos (by omega), Aside]
  clear hm hn
  go_enter Try.func14, Try.ntmps14
  go_wp2_with fail
  refine (H.out _).mono ?_
  rintro r w1 ⟨rfl, hb⟩
  have hsz := hb.size
  simp at hsz
  obtain ⟨hc, hf⟩ := bcell hb
  have HB := Aside.intro hb
  clear hb
  go_wp2
  refine bodyPost_ret (v := .tuple #[.slice none 0 0, .agg #[.int .i64 0, .int .i64 0, .int .i64 0, .int .i64 0, .int .i64 0, .int .i64 0], .int .i64 2]) (by simp [results, Try.results14, go_sem, csetm, hc]) rfl (SiftAns.no 2 HE.out (by decide) ?_)
  exact But.below ((((Below.refl _ w).alloc (Nat.le_refl _) _).alloc (by simp) _).trans (HB.out.mono (by simp; omega))) (But.set6 (But.refl (w.heap.size + 1) _) _ _ _ _ _ _) (by omega) (by omega)

set_option maxHeartbeats 8000000 in
set_option maxRecDepth 100000 in
theorem rSift_rest (xs : List Nat) (ao : Option Addr) (n cap B : Nat) (a b : Int) (w : World) (hn : n = xs.length) (hm : may a b = true) (hl : n ≤ 65536) (hx : Wf xs) (hR : Rd B w ao xs) (hB : B ≤ w.heap.size) :
    Calls Try.prog 14 #[.slice ao n cap, .agg #[.int .i64 a, .int .i64 b]] w (SiftAns w a b xs) := by
  have H := hid (rMay_any a b)
  rw [hm] at H
  obtain ⟨ee, hee⟩ : ∃ ee, rf (cn 5 xs : Nat) (cn 3 xs : Nat) (cn 4 xs : Nat) a b = ee := ⟨_, rfl⟩
  have HE : Aside (siftE a b xs = ee) := by unfold siftE; rw [if_neg (by rw [hm]; decide), if_neg (by omega), Aside]; exact hee
  have hbd := fun k => cn_bd k xs n (by omega) hl
  have HRF := hid (fun w => Refused_any (cn 5 xs : Nat) (cn 3 xs : Nat) (cn 4 xs : Nat) (cn 1 xs : Nat) (cn 2 xs : Nat) (n : Nat) a b w (hbd 3) (hbd 4))
  have HOF := hid (fun w B hR hB => Of_any xs ao n cap B w hn hl hx hR hB)
  rw [hee] at HRF
  obtain ⟨c5, e5⟩ : ∃ c, cn 5 xs = c := ⟨_, rfl⟩
  obtain ⟨c3, e3⟩ : ∃ c, cn 3 xs = c := ⟨_, rfl⟩
  obtain ⟨c4, e4⟩ : ∃ c, cn 4 xs = c := ⟨_, rfl⟩
  obtain ⟨c1, e1⟩ : ∃ c, cn 1 xs = c := ⟨_, rfl⟩
  obtain ⟨c2, e2⟩ : ∃ c, cn 2 xs = c := ⟨_, rfl⟩
  rw [e5, e3, e4, e1, e2] at HRF HOF
  have HX := (Aside.intro (And.intro hn (And.intro hx (And.intro hR (And.intro hB (And.intro e1 (And.intro e2 (And.intro e3 (And.intro e4 e5)))))))))
  clear hm hn hx hR hB hbd hee e1 e2 e3 e4 e5
  go_enter Try.func14, Try.ntmps14
  go_wp2_with fail
  refine (H.out _).mono ?_
  rintro r w1 ⟨rfl, hb⟩
  have hsz := hb.size
  simp at hsz
  have hbw1 : Below w.heap.size w w1 := (((Below.refl _ w).alloc (Nat.le_refl _) _).alloc (by simp) _).trans (hb.mono (by simp; omega))
  have hZ1 : SpB w1 (w.heap.size + 1) 0 0 0 0 0 0 := by
    have h1 := SpB.made (w.alloc (.cells #[.int .i64 a, .int .i64 b] 23)) 0 0 0 0 0 0
    simp only [World.size_alloc] at h1
    exact h1.below hb (by simp)
  have hp : w1.heap[w.heap.size]? = some (.cells #[.int .i64 a, .int .i64 b] 23 (0, 0)) := by
    rw [hb.block w.heap.size (by simp; omega), Below.heap_alloc _ _ _ (by simp)]
    exact heap_alloc_new w _
  have HP := (Aside.intro (And.intro hbw1 (And.intro hZ1 hp)))
  have HRW := hid ((HX.out.2.2.1.mono HX.out.2.2.2.1).below hbw1)
  clear hb hbw1 hZ1 hp
  go_wp2_with fail
  refine (HOF.out _ _ HRW.out (by omega)).mono ?_
  rintro r w2 ⟨rfl, hb2⟩
  have hsz2 := hb2.size
  obtain ⟨W3, hW3⟩ : ∃ W, W = w2.alloc (.cells #[.int .i64 (c5 : Nat), .int .i64 (c3 : Nat), .int .i64 (c4 : Nat), .int .i64 (c1 : Nat), .int .i64 (c2 : Nat), .int .i64 (n : Nat)] 30) := ⟨_, rfl⟩
  have hT3 : SpB W3 w2.heap.size (c5 : Nat) (c3 : Nat) (c4 : Nat) (c1 : Nat) (c2 : Nat) (n : Nat) := by rw [hW3]; exact SpB.made _ _ _ _ _ _ _
  have hb3 : Below w1.heap.size w1 W3 := by rw [hW3]; exact hb2.alloc (by omega) _
  have hs3 : W3.heap.size = w2.heap.size + 1 := by rw [hW3]; simp
  have hp3 : W3.heap[w.heap.size]? = some (.cells #[.int .i64 a, .int .i64 b] 23 (0, 0)) := by rw [hb3.block _ (by omega)]; exact HP.out.2.2
  have hq0 : W3.cell? ⟨w.heap.size, 0, none⟩ = some (.int .i64 a) := by simp [World.cell?, hp3]
  have hq1 : W3.cell? ⟨w.heap.size, 1, none⟩ = some (.int .i64 b) := by simp [World.cell?, hp3]
  have hcw0 : w2.cell? ⟨w.heap.size, 0, none⟩ = some (.int .i64 a) := by rw [hb2.cell (p := ⟨w.heap.size, 0, none⟩) (by simp; omega)]; have := HP.out.2.2; simp [World.cell?, this]
  have hcw1 : w2.cell? ⟨w.heap.size, 1, none⟩ = some (.int .i64 b) := by rw [hb2.cell (p := ⟨w.heap.size, 1, none⟩) (by simp; omega)]; have := HP.out.2.2; simp [World.cell?, this]
  have hlt2 : w.heap.size < w2.heap.size := by omega
  have HQ := (Aside.intro (And.intro hT3 (And.intro hb3 hW3)))
  clear hb2 hT3 hb3 hp3 hq0 hq1 hW3
  go_wp2_with fail
  refine (HRF.out _).mono ?_
  rintro r w4 ⟨rfl, hb4⟩
  have hb4' : Below W3.heap.size W3 w4 := by rw [HQ.out.2.2]; exact hb4
  have hT4 := HQ.out.1.below hb4' HQ.out.1.lt
  have hZ4 := (HP.out.2.1.below HQ.out.2.1 HP.out.2.1.lt).below hb4' (by have := HP.out.2.1.lt; omega)
  have hsz4 := hb4'.size
  have hbw4 : Below w.heap.size w w4 := HP.out.1.trans ((HQ.out.2.1.mono (by omega)).trans (hb4'.mono (by omega)))
  have hzf := hZ4.frozen
  have hz0 := hZ4.c0
  have hz1 := hZ4.c1
  have hz2 := hZ4.c2
  have hz3 := hZ4.c3
  have hz4 := hZ4.c4
  have hz5 := hZ4.c5
  have HV := (Aside.intro (And.intro hbw4 (And.intro hT4 hZ4)))
  clear hb4 hb4' hT4 hZ4 hbw4 hcw0 hcw1
  by_cases h0 : ee = 0
  · subst h0
    clear hzf hz0 hz1 hz2 hz3 hz4 hz5
    go_wp2
    go_loopg [10, 11] n (fun gk lv cv wr => ∃ (i : Nat), gk + i = n ∧ cv = .int .i64 (i : Nat) ∧ Aside (Rw w4.heap.size wr lv (fin (xs.take i)).length ((fin (xs.take i)).map U) ∧ Below w4.heap.size w4 wr ∧ w4.heap.size ≤ wr.heap.size))
    case atStart => exact ⟨0, by omega, rfl, World.ownsRow_nil _ _ _ _, Below.refl _ _, Nat.le_refl _⟩
    case round =>
      obtain ⟨i, hi, rfl, HA⟩ := hrel
      obtain ⟨hrow, hbel, hwl⟩ := HA.out
      obtain ⟨hbw4, hT4, hZ4⟩ := HV.out
      obtain ⟨hn, hx, hR, hB, e1, e2, e3, e4, e5⟩ := HX.out
      have hZ5 := hZ4.below hbel hZ4.lt
      have hT5 := hT4.below hbel hT4.lt
      by_cases hin : i = n
      · obtain rfl : gk = 0 := by omega
        have e : xs.take i = xs := List.take_of_length_le (by omega)
        have hZf := hZ5.frozen
        have hz0 := hZ5.c0
        have hz1 := hZ5.c1
        have hz2 := hZ5.c2
        have hz3 := hZ5.c3
        have hz4 := hZ5.c4
        have hz5 := hZ5.c5
        have ht0 := hT5.c0
        have ht1 := hT5.c1
        have ht2 := hT5.c2
        have ht3 := hT5.c3
        have ht4 := hT5.c4
        have ht5 := hT5.c5
        have hzl := hZ5.lt
        have hbel5 : Below w.heap.size w wr := hbw4.trans (hbel.mono (by omega))
        have HV2 := (Aside.intro (And.intro hbel5 (And.intro hrow (And.intro hZ5 e))))
        clear hn hx hR hB hbw4 hT4 hZ4 hrow hbel hZ5 hT5 hbel5 e e1 e2 e3 e4 e5
        subst hin
        go_wp2
        go_region
        all_goals
          go_wp2
          refine bodyPost_ret (v := .tuple #[u10, .agg #[.int .i64 (c5 : Nat), .int .i64 (c3 : Nat), .int .i64 (c4 : Nat), .int .i64 (c1 : Nat), .int .i64 (c2 : Nat), .int .i64 (i : Nat)], .int .i64 0]) (by simp [results, Try.results14, go_sem, csetm, hz0, hz1, hz2, hz3, hz4, hz5]) rfl ?_
          obtain ⟨hbel5, hr5, hZ5, e⟩ := HV2.out
          obtain ⟨hn, hx, hR, hB, e1, e2, e3, e4, e5⟩ := HX.out
          have hbut : But (w.heap.size + 1) wr _ := (But.set6 (But.refl (w.heap.size + 1) wr) (.int .i64 (c5 : Nat)) (.int .i64 (c3 : Nat)) (.int .i64 (c4 : Nat)) (.int .i64 (c1 : Nat)) (.int .i64 (c2 : Nat)) (.int .i64 (i : Nat))).drew
          have hR6 := Rw.mono (Rw.but hr5 hbut (by decide) hZ5) (show w.heap.size ≤ w4.heap.size by omega)
          rw [e] at hR6
          have hans := SiftAns.yes HE.out hR6 (But.below hbel5 hbut (by omega) (by omega))
          rw [← hn, e1, e2, e3, e4, e5] at hans
          exact hans
      · have hil : i < n := by omega
        have hbel5 : Below w.heap.size w wr := hbw4.trans (hbel.mono (by omega))
        have hRw : Rd w.heap.size wr ao xs := (hR.mono hB).below hbel5
        obtain ⟨bb, off, hlt2, rfl, hcell⟩ := hRw (by intro e; rw [e] at hn; simp at hn; omega)
        have hxc := hcell i (by omega)
        have hxw := hx.get i
        obtain ⟨x, hxx⟩ : ∃ x, xs.getD i 0 = x := ⟨_, rfl⟩
        rw [hxx] at hxc hxw
        have HK := hid (Kind_any x hxw)
        obtain ⟨kk, hkk⟩ : ∃ kk, kd x = kk := ⟨_, rfl⟩
        rw [hkk] at HK
        by_cases hk2 : kk ≤ 2
        · have hle : (kk : Int) ≤ 2 := by omega
          obtain ⟨v', w6, hap, hrow6, hb6, hkeep6, hsz6⟩ := push w4.heap.size wr u10 (fin (xs.take i)) x hrow (by have h1 := fin_le (xs.take i); rw [List.length_take] at h1; omega) hwl
          have HI : Aside (Rw w4.heap.size w6 v' (fin (xs.take (i + 1))).length ((fin (xs.take (i + 1))).map U) ∧ Below w4.heap.size w4 w6 ∧ w4.heap.size ≤ w6.heap.size) := by
            rw [fin_in xs i (by omega) (by rw [hxx, hkk]; exact hk2), hxx]
            exact ⟨hrow6, hbel.trans hb6, by omega⟩
          have HAP := hid hap
          clear hn hx hR hB hbw4 hT4 hZ4 hrow hbel hZ5 hT5 hbel5 e1 e2 e3 e4 e5 hRw hcell hxw hxx hkk hap hrow6 hb6 hkeep6 hsz6 hk2 hin
          go_wp2_with fail
          refine (HK.out _).mono ?_
          rintro r w5 ⟨rfl, rfl⟩
          go_wp2_with (at_builtin; refine wpList_append_run2 rfl (.tmp 44) (.tmp 49) 27 rfl _ _ rfl rfl _ _ HAP.out ?_)
          go_roundg (n - (i + 1))
          case measure => omega
          case rel => exact ⟨i + 1, by omega, by first | go_num | (congr 1; omega), HI⟩
        · have hle : decide ((kk : Int) ≤ 2) = false := decide_eq_false (by omega)
          have HI : Aside (Rw w4.heap.size wr u10 (fin (xs.take (i + 1))).length ((fin (xs.take (i + 1))).map U) ∧ Below w4.heap.size w4 wr ∧ w4.heap.size ≤ wr.heap.size) := by
            rw [fin_out xs i (by omega) (by rw [hxx, hkk]; exact hk2)]
            exact ⟨hrow, hbel, hwl⟩
          clear hn hx hR hB hbw4 hT4 hZ4 hrow hbel hZ5 hT5 hbel5 e1 e2 e3 e4 e5 hRw hcell hxw hxx hkk hk2 hin
          go_wp2_with fail
          refine (HK.out _).mono ?_
          rintro r w5 ⟨rfl, rfl⟩
          go_wp2
          go_roundg (n - (i + 1))
          case measure => omega
          case rel => exact ⟨i + 1, by omega, by first | go_num | (congr 1; omega), HI⟩
  · have h0' : (ee == 0) = false := by rw [beq_eq_false_iff_ne]; exact h0
    go_wp2
    refine bodyPost_ret (v := .tuple #[.slice none 0 0, .agg #[.int .i64 0, .int .i64 0, .int .i64 0, .int .i64 0, .int .i64 0, .int .i64 0], .int .i64 ee]) (by simp [results, Try.results14, go_sem, csetm, hz0, hz1, hz2, hz3, hz4, hz5]) rfl (SiftAns.no ee HE.out h0 ?_)
    exact But.below HV.out.1 (But.set6 (But.refl (w.heap.size + 1) _) _ _ _ _ _ _) (by omega) (by omega)

theorem rSift_any (xs : List Nat) (ao : Option Addr) (n cap B : Nat) (a b : Int) (w : World) (hn : n = xs.length) (hm : n ≤ 35184372088832) (hx : Wf xs) (hR : Rd B w ao xs) (hB : B ≤ w.heap.size) :
    Calls Try.prog 14 #[.slice ao n cap, .agg #[.int .i64 a, .int .i64 b]] w (SiftAns w a b xs) := by
  rcases h : may a b with _ | _
  · exact rSift_arg xs ao n cap a b w h
  · by_cases hl : 65536 < n
    · exact rSift_long xs ao n cap a b w hn h hl hm
    · exact rSift_rest xs ao n cap B a b w hn h (by omega) hx hR hB
end Go.Proofs.Ytfocdjfnlbendaa

