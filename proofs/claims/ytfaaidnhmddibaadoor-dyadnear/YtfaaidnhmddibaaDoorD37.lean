/- dyad's Sign, cmpFromTop, cmpSizes, Cmp. -/
import Derived.Test.YtfaaidnhmddibaaDoorD33
import Derived.Test.YtfaaidnhmddibaaDoorD34
import Derived.BigQuiet
import Derived.Deep.RegionHeld3
namespace Go.Proofs.YtfaaidnhmddibaaDoor
open Go.RowKit
set_option linter.unusedVariables false
set_option maxRecDepth 20000
set_option linter.unusedSimpArgs false

theorem isNaN_w (x : Int) (w : World) : Calls Tryd.prog 102 #[.int .u64 x] w fun r w' => r = .returned (.bool false) ∧ w' = w := by
  go_enter Tryd.func102, Tryd.ntmps102
  go_wp2
  go_ret
  exact ⟨rfl, rfl⟩
def cmpZ (x y : Int) : Int := if x < y then -1 else if y < x then 1 else 0
theorem cmpZ_nat (x y : Nat) : cmpZ (x : Int) (y : Int) = cmpI x y := by
  unfold cmpZ cmpI
  simp only [Int.ofNat_lt]
theorem compare_w (x y : Int) (w : World) : Calls Tryd.prog 90 #[.int .u64 x, .int .u64 y] w fun r w' => r = .returned (.int .i64 (cmpZ x y)) ∧ w' = w := by
  have H : Hid (∀ x w, _) := isNaN_w
  rcases Int.lt_trichotomy x y with h | h | h
  · have e : cmpZ x y = -1 := by simp [cmpZ, h]
    rw [e]; clear e
    go_enter Tryd.func90, Tryd.ntmps90
    go_wp2_with fail
    refine (H.out _ _).mono ?_
    rintro r w1 ⟨rfl, rfl⟩
    go_wp2_with fail
    refine (H.out _ _).mono ?_
    rintro r w1 ⟨rfl, rfl⟩
    go_wp2
    go_ret
    exact ⟨rfl, rfl⟩
  · have e : cmpZ x y = 0 := by simp [cmpZ, h]
    rw [e]; clear e
    subst h
    go_enter Tryd.func90, Tryd.ntmps90
    go_wp2_with fail
    refine (H.out _ _).mono ?_
    rintro r w1 ⟨rfl, rfl⟩
    go_wp2_with fail
    refine (H.out _ _).mono ?_
    rintro r w1 ⟨rfl, rfl⟩
    go_wp2
    go_ret
    exact ⟨rfl, rfl⟩
  · have e : cmpZ x y = 1 := by unfold cmpZ; rw [if_neg (by omega), if_pos h]
    rw [e]; clear e
    have h0 : decide (x < y) = false := decide_eq_false (by omega)
    go_enter Tryd.func90, Tryd.ntmps90
    go_wp2_with fail
    refine (H.out _ _).mono ?_
    rintro r w1 ⟨rfl, rfl⟩
    go_wp2_with fail
    refine (H.out _ _).mono ?_
    rintro r w1 ⟨rfl, rfl⟩
    go_wp2
    go_ret
    exact ⟨rfl, rfl⟩

theorem compare_z (x y : Int) (w : World) : Calls Tryd.prog 60 #[.int .i64 x, .int .i64 y] w fun r w' => r = .returned (.int .i64 (cmpZ x y)) ∧ w' = w := by
  have H : Hid (∀ x w, _) := isNaN_i
  rcases Int.lt_trichotomy x y with h | h | h
  · have e : cmpZ x y = -1 := by simp [cmpZ, h]
    rw [e]; clear e
    go_enter Tryd.func60, Tryd.ntmps60
    go_wp2_with fail
    refine (H.out _ _).mono ?_
    rintro r w1 ⟨rfl, rfl⟩
    go_wp2_with fail
    refine (H.out _ _).mono ?_
    rintro r w1 ⟨rfl, rfl⟩
    go_wp2
    go_ret
    exact ⟨rfl, rfl⟩
  · have e : cmpZ x y = 0 := by simp [cmpZ, h]
    rw [e]; clear e
    subst h
    go_enter Tryd.func60, Tryd.ntmps60
    go_wp2_with fail
    refine (H.out _ _).mono ?_
    rintro r w1 ⟨rfl, rfl⟩
    go_wp2_with fail
    refine (H.out _ _).mono ?_
    rintro r w1 ⟨rfl, rfl⟩
    go_wp2
    go_ret
    exact ⟨rfl, rfl⟩
  · have e : cmpZ x y = 1 := by unfold cmpZ; rw [if_neg (by omega), if_pos h]
    rw [e]; clear e
    have h0 : decide (x < y) = false := decide_eq_false (by omega)
    go_enter Tryd.func60, Tryd.ntmps60
    go_wp2_with fail
    refine (H.out _ _).mono ?_
    rintro r w1 ⟨rfl, rfl⟩
    go_wp2_with fail
    refine (H.out _ _).mono ?_
    rintro r w1 ⟨rfl, rfl⟩
    go_wp2
    go_ret
    exact ⟨rfl, rfl⟩

set_option maxHeartbeats 2000000 in
theorem Sign_any3 {w : World} {a : Option Addr} {n c : Nat} {xs : List Nat} (h1 : Arg w a n c xs) (ng : Bool) (e : Int) :
    Calls Tryd.prog 59 #[.agg #[.bool ng, .slice a n c, .int .i64 e]] w fun r w' => r = .returned (.int .i64 (sgn ng (val xs))) ∧ Below w.heap.size w w' := by
  have hB : Below w.heap.size w (w.alloc (.cells #[.bool ng, .slice a n c, .int .i64 e] 27)) := below_alloc w _
  have A1 := h1.below hB
  have hbig := h1.big
  have H1 := hid (len_any xs a n c _ _ A1.len A1.cap (by omega) A1.wf A1.rd)
  obtain ⟨X, hX⟩ : ∃ X, val xs = X := ⟨_, rfl⟩
  rw [hX] at H1 ⊢
  have SB := Aside.intro hB
  clear hB A1 h1 hX hbig
  unfold sgn
  by_cases h0 : X = 0
  · rw [if_pos h0]
    have hb : bl X = 0 := by rw [h0, bl_zero]
    rw [hb] at H1
    clear h0 hb
    go_enter Tryd.func59, Tryd.ntmps59
    go_wp2_with fail
    refine (Calls.mono H1.out) ?_
    rintro r w1 ⟨rfl, rfl⟩
    go_wp2
    go_ret
    exact ⟨rfl, SB.out⟩
  · rw [if_neg h0]
    obtain ⟨b, hb⟩ : ∃ b, bl X = b := ⟨_, rfl⟩
    have hb0 : ((b : Int) == 0) = false := by have := bl_pos X h0; simp; omega
    rw [hb] at H1
    clear h0 hb
    cases ng
    · simp only [Bool.false_eq_true, if_false]
      go_enter Tryd.func59, Tryd.ntmps59
      go_wp2_with fail
      refine (Calls.mono H1.out) ?_
      rintro r w1 ⟨rfl, rfl⟩
      go_wp2
      go_ret
      exact ⟨rfl, SB.out⟩
    · simp only [if_true]
      go_enter Tryd.func59, Tryd.ntmps59
      go_wp2_with fail
      refine (Calls.mono H1.out) ?_
      rintro r w1 ⟨rfl, rfl⟩
      go_wp2
      go_ret
      exact ⟨rfl, SB.out⟩


set_option maxHeartbeats 4000000 in
theorem cmpFromTop_any {w : World} {a b : Option Addr} {n c m d : Nat} {xs ys : List Nat} (h1 : Arg w a n c xs) (h2 : Arg w b m d ys) (dd : Nat) (hd : bl (val xs) + dd = bl (val ys)) :
    Calls Tryd.prog 91 #[.slice a n c, .slice b m d] w fun r w' => r = .returned (.int .i64 (cmpI (val xs * 2 ^ dd) (val ys))) ∧ w' = w := by
  have hb1 := h1.big
  have hb2 := h2.big
  have H1 := hid (len_any xs a n c w.heap.size w h1.len h1.cap (by omega) h1.wf h1.rd)
  have H2 := hid (len_any ys b m d w.heap.size w h2.len h2.cap (by omega) h2.wf h2.rd)
  have b1 : bl (val xs) ≤ 32 * n := by have := val_lt xs h1.wf; rw [← h1.len] at this; exact bl_pw _ _ this
  have b2 : bl (val ys) ≤ 32 * m := by have := val_lt ys h2.wf; rw [← h2.len] at this; exact bl_pw _ _ this
  have WX : Hid (∀ i : Int, -9223372036854775808 ≤ i → i ≤ 9223372036854000000 → Calls Tryd.prog 68 #[.slice a n c, .int .i64 i] w fun r w' => r = .returned (.int .u32 ((win (val xs) i : Nat) : Int)) ∧ w' = w) := fun i h0 h3 => window_any xs a n c w.heap.size i w h1.len (by omega) h1.wf h1.rd h0 (by omega)
  have WY : Hid (∀ i : Int, -9223372036854775808 ≤ i → i ≤ 9223372036854000000 → Calls Tryd.prog 68 #[.slice b m d, .int .i64 i] w fun r w' => r = .returned (.int .u32 ((win (val ys) i : Nat) : Int)) ∧ w' = w) := fun i h0 h3 => window_any ys b m d w.heap.size i w h2.len (by omega) h2.wf h2.rd h0 (by omega)
  obtain ⟨X, hX⟩ : ∃ X, val xs = X := ⟨_, rfl⟩
  obtain ⟨Y, hY⟩ : ∃ Y, val ys = Y := ⟨_, rfl⟩
  rw [hX] at H1 b1 hd WX ⊢
  rw [hY] at H2 b2 hd WY ⊢
  have st : top X (bl X : Int) = top Y (bl Y : Int) := by rw [top_bl, top_bl]
  obtain ⟨i0, hi0⟩ : ∃ i, bl X = i := ⟨_, rfl⟩
  obtain ⟨j0, hj0⟩ : ∃ j, bl Y = j := ⟨_, rfl⟩
  rw [hi0] at H1 b1 hd st
  rw [hj0] at H2 b2 hd st
  obtain ⟨R, hR⟩ : ∃ R, cmpI (X * 2 ^ dd) Y = R := ⟨_, rfl⟩
  rw [hR]
  have HR := Aside.intro hR
  have ST := Aside.intro st
  have HD := Aside.intro hd
  have bi : (i0 : Int) ≤ 1125899906842624 := by omega
  have bj : (j0 : Int) ≤ 1125899906842624 := by omega
  clear h1 h2 hX hY hi0 hj0 st hR hd b1 b2 hb1 hb2
  go_enter Tryd.func91, Tryd.ntmps91
  go_wp2_with fail
  refine (Calls.mono H1.out) ?_
  rintro r w1 ⟨rfl, rfl⟩
  go_wp2_with fail
  refine (Calls.mono H2.out) ?_
  rintro r w1 ⟨rfl, rfl⟩
  go_wp2
  go_loopg [5, 6] (j0 + 32) (fun gk iv jv wr => ∃ i j : Int, (gk : Int) = j + 32 ∧ iv = .int .i64 i ∧ jv = .int .i64 j ∧ wr = w1 ∧ -32 ≤ j ∧ j ≤ 1125899906842624 ∧ i ≤ j ∧ -1125899906842656 ≤ i ∧ Aside (i = j - dd ∧ top X i = top Y j))
  case atStart => exact ⟨i0, j0, by omega, rfl, rfl, rfl, by omega, by omega, by have := HD.out; omega, by omega, by have := HD.out; omega, ST.out⟩
  case round =>
    obtain ⟨i, j, hgk, rfl, rfl, rfl, hj0', hj1, hij, hi0', HA⟩ := hrel
    by_cases hj : 0 < j
    · have hi2 : i - 32 ≤ 9223372036854000000 := by omega
      have hj2 : j - 32 ≤ 9223372036854000000 := by omega
      have G1 := hid (WX.out (i - 32) (by omega) hi2)
      have G2 := hid (WY.out (j - 32) (by omega) hj2)
      obtain ⟨x, hx⟩ : ∃ x, win X (i - 32) = x := ⟨_, rfl⟩
      obtain ⟨y, hy⟩ : ∃ y, win Y (j - 32) = y := ⟨_, rfl⟩
      rw [hx] at G1
      rw [hy] at G2
      have HXY := (Aside.intro (And.intro hx hy))
      have hlo : -1125899906842656 ≤ i := hi0'
      clear hx hy
      have CM := hid (compare_u x y wr)
      obtain ⟨z, hz⟩ : ∃ z, cmpI x y = z := ⟨_, rfl⟩
      rw [hz] at CM
      have HZ := Aside.intro hz
      clear hz
      by_cases hpi : 0 < i
      · by_cases h0 : z = 0
        · subst h0
          go_wp2_with fail
          refine (Calls.mono G1.out) ?_
          rintro r w2 ⟨rfl, rfl⟩
          go_wp2_with fail
          refine (Calls.mono G2.out) ?_
          rintro r w2 ⟨rfl, rfl⟩
          go_wp2_with fail
          refine (Calls.mono CM.out) ?_
          rintro r w2 ⟨rfl, rfl⟩
          go_wp2
          go_roundg (gk - 32)
          case measure => omega
          case rel =>
            refine ⟨i - 32, j - 32, by omega, by first | rfl | go_num, by first | rfl | go_num, rfl, by omega, by omega, by omega, ?_, ?_, ?_⟩
            · have := HA.out.1; have := HD.out; omega
            · have := HA.out.1; omega
            · exact top_alike HA.out.2 (by rw [HXY.out.1, HXY.out.2]; exact HZ.out)
        · have h0' : (z == 0) = false := by simpa using h0
          go_wp2_with fail
          refine (Calls.mono G1.out) ?_
          rintro r w2 ⟨rfl, rfl⟩
          go_wp2_with fail
          refine (Calls.mono G2.out) ?_
          rintro r w2 ⟨rfl, rfl⟩
          go_wp2_with fail
          refine (Calls.mono CM.out) ?_
          rintro r w2 ⟨rfl, rfl⟩
          go_wp2
          have e : z = R := by
            have h := top_differ dd HA.out.1 HA.out.2 (by rw [HXY.out.1, HXY.out.2, HZ.out]; exact h0)
            rw [HXY.out.1, HXY.out.2, HZ.out, HR.out] at h
            exact h
          subst e
          go_ret
          exact ⟨rfl, rfl⟩
      · have hpi' : decide (0 < i) = false := decide_eq_false hpi
        by_cases h0 : z = 0
        · subst h0
          go_wp2_with fail
          refine (Calls.mono G1.out) ?_
          rintro r w2 ⟨rfl, rfl⟩
          go_wp2_with fail
          refine (Calls.mono G2.out) ?_
          rintro r w2 ⟨rfl, rfl⟩
          go_wp2_with fail
          refine (Calls.mono CM.out) ?_
          rintro r w2 ⟨rfl, rfl⟩
          go_wp2
          go_roundg (gk - 32)
          case measure => omega
          case rel =>
            refine ⟨i - 32, j - 32, by omega, by first | rfl | go_num, by first | rfl | go_num, rfl, by omega, by omega, by omega, ?_, ?_, ?_⟩
            · have := HA.out.1; have := HD.out; omega
            · have := HA.out.1; omega
            · exact top_alike HA.out.2 (by rw [HXY.out.1, HXY.out.2]; exact HZ.out)
        · have h0' : (z == 0) = false := by simpa using h0
          go_wp2_with fail
          refine (Calls.mono G1.out) ?_
          rintro r w2 ⟨rfl, rfl⟩
          go_wp2_with fail
          refine (Calls.mono G2.out) ?_
          rintro r w2 ⟨rfl, rfl⟩
          go_wp2_with fail
          refine (Calls.mono CM.out) ?_
          rintro r w2 ⟨rfl, rfl⟩
          go_wp2
          have e : z = R := by
            have h := top_differ dd HA.out.1 HA.out.2 (by rw [HXY.out.1, HXY.out.2, HZ.out]; exact h0)
            rw [HXY.out.1, HXY.out.2, HZ.out, HR.out] at h
            exact h
          subst e
          go_ret
          exact ⟨rfl, rfl⟩
    · have hpi' : decide (0 < i) = false := decide_eq_false (by omega)
      have hpj' : decide (0 < j) = false := decide_eq_false (by omega)
      have e : R = 0 := by rw [← HR.out]; exact top_end dd HA.out.1 HA.out.2 (by omega)
      subst e
      go_wp2
      go_ret
      exact ⟨rfl, rfl⟩


set_option maxHeartbeats 4000000 in
theorem cmpSizes_go {w : World} {a b : Option Addr} {n c m d : Nat} (ng mg : Bool) (e f : Int) (x y dd : Nat) (R : Int) (bx : x ≤ 1125899906842624) (by' : y ≤ 1125899906842624)
    (hge : decide (e < f) = false) (hap : IntKind.u64.wrap (IntKind.u64.wrap e - IntKind.u64.wrap f) = (dd : Int))
    (H1 : Hid (∀ u, Below w.heap.size w u → Calls Tryd.prog 36 #[.slice a n c] u fun r w' => r = .returned (.int .i64 (x : Nat)) ∧ w' = u))
    (H2 : Hid (∀ u, Below w.heap.size w u → Calls Tryd.prog 36 #[.slice b m d] u fun r w' => r = .returned (.int .i64 (y : Nat)) ∧ w' = u))
    (H3 : Hid (∀ u, Below w.heap.size w u → dd + x = y → Calls Tryd.prog 91 #[.slice a n c, .slice b m d] u fun r w' => r = .returned (.int .i64 R) ∧ w' = u)) :
    Calls Tryd.prog 61 #[.agg #[.bool ng, .slice a n c, .int .i64 e], .agg #[.bool mg, .slice b m d, .int .i64 f]] w fun r w' => r = .returned (.int .i64 (if y < dd then 1 else if dd + x = y then R else cmpI (dd + x) y)) ∧ Below w.heap.size w w' := by
  obtain ⟨W1, hW1⟩ : ∃ W, W = (w.alloc (.cells #[.bool ng, .slice a n c, .int .i64 e] 27)).alloc (.cells #[.bool mg, .slice b m d, .int .i64 f] 27) := ⟨_, rfl⟩
  have hB : Below w.heap.size w W1 := by rw [hW1]; exact (below_alloc w _).alloc (by simp) _
  have DA : Dk W1 w.heap.size ng (.slice a n c) e := by rw [hW1]; exact (Dk.new w ng (.slice a n c) e).alloc _
  have DB : Dk W1 (w.heap.size + 1) mg (.slice b m d) f := by
    rw [hW1]
    have := Dk.new (w.alloc (.cells #[.bool ng, .slice a n c, .int .i64 e] 27)) mg (.slice b m d) f
    simpa using this
  obtain ⟨x0, x1, x2, xf0, xf1, xf2⟩ := DA.facts
  obtain ⟨y0, y1, y2, yf0, yf1, yf2⟩ := DB.facts
  have SB := Aside.intro hB
  clear DA DB hB
  have T1 := hid (H1.out W1 SB.out)
  have T2 := hid (H2.out W1 SB.out)
  have T1' := hid (H1.out W1.drew SB.out.drew)
  have T2' := hid (H2.out W1.drew SB.out.drew)
  have ex : IntKind.u64.wrap (x : Int) = (x : Int) := by rw [IntKind.wrap_u64]; omega
  have ey : IntKind.u64.wrap (y : Int) = (y : Int) := by rw [IntKind.wrap_u64]; omega
  by_cases h1 : y < dd
  · rw [if_pos h1]
    have h1' : (y : Int) < (dd : Int) := by omega
    go_enter Tryd.func61, Tryd.ntmps61
    go_upto_region 1 with fail
    rw [← hW1]
    clear hW1
    go_upto_region 4 with fail
    go_region_held3 (fun w' => w'.cell? ⟨w.heap.size, 1, none⟩ = some (.slice a n c) ∧ w'.cell? ⟨w.heap.size + 1, 1, none⟩ = some (.slice b m d)) (go_keep) (first
      | (go_at_call 36
         first | with_reducible refine T1.out.mono ?_ | with_reducible refine T1'.out.mono ?_ | with_reducible refine T2.out.mono ?_ | with_reducible refine T2'.out.mono ?_
         rintro r w' ⟨rfl, rfl⟩))
    all_goals (
      go_wp2
      go_ret
      first | exact ⟨rfl, SB.out⟩ | exact ⟨rfl, SB.out.drew⟩)
  · rw [if_neg h1]
    have h1' : decide ((y : Int) < (dd : Int)) = false := decide_eq_false (by omega)
    have es : IntKind.u64.wrap ((dd : Int) + (x : Int)) = (dd : Int) + (x : Int) := by rw [IntKind.wrap_u64]; omega
    by_cases h2 : dd + x = y
    · rw [if_pos h2]
      have T3 := hid (H3.out W1 SB.out h2)
      have T3' := hid (H3.out W1.drew SB.out.drew h2)
      have h2' : ((dd : Int) + (x : Int) == (y : Int)) = true := by simp; omega
      have h2'' : (dd : Int) + (x : Int) = (y : Int) := by omega
      go_enter Tryd.func61, Tryd.ntmps61
      go_upto_region 1 with fail
      rw [← hW1]
      clear hW1
      go_upto_region 4 with fail
      go_region_held3 (fun w' => w'.cell? ⟨w.heap.size, 1, none⟩ = some (.slice a n c) ∧ w'.cell? ⟨w.heap.size + 1, 1, none⟩ = some (.slice b m d)) (go_keep) (first
        | (go_at_call 36
           first | with_reducible refine T1.out.mono ?_ | with_reducible refine T1'.out.mono ?_ | with_reducible refine T2.out.mono ?_ | with_reducible refine T2'.out.mono ?_
           rintro r w' ⟨rfl, rfl⟩))
      all_goals (
        go_wp2_with fail
        first | with_reducible refine T3.out.mono ?_ | with_reducible refine T3'.out.mono ?_
        rintro r w' ⟨rfl, rfl⟩
        go_wp2
        go_ret
        first | exact ⟨rfl, SB.out⟩ | exact ⟨rfl, SB.out.drew⟩)
    · rw [if_neg h2]
      have h2' : ((dd : Int) + (x : Int) == (y : Int)) = false := by simp; omega
      have CW : Hid (∀ u, Calls Tryd.prog 90 #[.int .u64 ((dd : Int) + (x : Int)), .int .u64 (y : Int)] u fun r w' => r = .returned (.int .i64 (cmpI (dd + x) y)) ∧ w' = u) := fun u => by
        have := compare_w ((dd : Int) + (x : Int)) (y : Int) u
        rw [show (dd : Int) + (x : Int) = ((dd + x : Nat) : Int) by omega, cmpZ_nat] at this
        rw [show (dd : Int) + (x : Int) = ((dd + x : Nat) : Int) by omega]
        exact this
      obtain ⟨z, hz⟩ : ∃ z, cmpI (dd + x) y = z := ⟨_, rfl⟩
      rw [hz] at CW ⊢
      clear hz
      go_enter Tryd.func61, Tryd.ntmps61
      go_upto_region 1 with fail
      rw [← hW1]
      clear hW1
      go_upto_region 4 with fail
      go_region_held3 (fun w' => w'.cell? ⟨w.heap.size, 1, none⟩ = some (.slice a n c) ∧ w'.cell? ⟨w.heap.size + 1, 1, none⟩ = some (.slice b m d)) (go_keep) (first
        | (go_at_call 36
           first | with_reducible refine T1.out.mono ?_ | with_reducible refine T1'.out.mono ?_ | with_reducible refine T2.out.mono ?_ | with_reducible refine T2'.out.mono ?_
           rintro r w' ⟨rfl, rfl⟩))
      all_goals (
        go_wp2_with fail
        refine (CW.out _).mono ?_
        rintro r w' ⟨rfl, rfl⟩
        go_wp2
        go_ret
        first | exact ⟨rfl, SB.out⟩ | exact ⟨rfl, SB.out.drew⟩)
end Go.Proofs.YtfaaidnhmddibaaDoor
