/- The document's Sign, Against, Cmp. -/
import Derived.Test.YthilnddhehbjiabD32cx
import Derived.Test.YthilnddhehbjiabJ10x
import Derived.Test.YthilnddhehbjiabJ8x
namespace Go.Proofs.Ythilnddhehbjiab
open Go.RowKit
set_option linter.unusedVariables false
set_option maxRecDepth 20000
set_option linter.unusedSimpArgs false

set_option maxHeartbeats 2000000 in
theorem rSign_any3 {w : World} {a : Option Addr} {n c : Nat} {xs : List Nat} (h1 : Arg w a n c xs) (ng : Bool) (e : Int) :
    Calls Try.prog 69 #[.agg #[.bool ng, .slice a n c, .int .i64 e]] w fun r w' => r = .returned (.int .i64 (sgn ng (val xs))) ∧ Below w.heap.size w w' := by
  have hB : Below w.heap.size w (w.alloc (.cells #[.bool ng, .slice a n c, .int .i64 e] 43)) := below_alloc w _
  have A1 := h1.below hB
  have hbig := h1.big
  have H1 := hid (rLen_any xs a n c _ _ A1.len (by omega) A1.wf A1.rd)
  obtain ⟨X, hX⟩ : ∃ X, val xs = X := ⟨_, rfl⟩
  rw [hX] at H1 ⊢
  have SB := Aside.intro hB
  clear hB A1 h1 hX hbig
  unfold sgn
  by_cases h0 : X = 0
  · rw [if_pos h0]
    have hb : bl X = 0 := by rw [h0, bl_zero]
    rw [hb] at H1
    clear h0 hb
    go_enter Try.func69, Try.ntmps69
    go_wp2_with fail
    refine (Calls.mono H1.out) ?_
    rintro r w1 ⟨rfl, rfl⟩
    go_wp2
    go_ret
    exact ⟨rfl, SB.out⟩
  · rw [if_neg h0]
    obtain ⟨b, hb⟩ : ∃ b, bl X = b := ⟨_, rfl⟩
    have hb0 : ((b : Int) == 0) = false := by have := bl_pos X h0; simp; omega
    rw [hb] at H1
    clear h0 hb
    cases ng
    · simp only [Bool.false_eq_true, if_false]
      go_enter Try.func69, Try.ntmps69
      go_wp2_with fail
      refine (Calls.mono H1.out) ?_
      rintro r w1 ⟨rfl, rfl⟩
      go_wp2
      go_ret
      exact ⟨rfl, SB.out⟩
    · simp only [if_true]
      go_enter Try.func69, Try.ntmps69
      go_wp2_with fail
      refine (Calls.mono H1.out) ?_
      rintro r w1 ⟨rfl, rfl⟩
      go_wp2
      go_ret
      exact ⟨rfl, SB.out⟩

set_option maxHeartbeats 4000000 in
theorem moved_raw {w : World} {a : Option Addr} {l c : Nat} {xs : List Nat} {X : Nat} (k : Nat) (h1 : Arg w a l c xs) (hX : val xs = X) (hl : l ≤ 2000000) (hk : k ≤ 64000000) :
    Calls Try.prog 54 #[.slice a l c, .int .i64 (k : Nat)] w fun r w' => ∃ v, r = .returned v ∧ Nt w.heap.size w' v (X * 2 ^ k) ∧ Below w.heap.size w w' := by
  obtain ⟨q, hq⟩ : ∃ q, q = k / 32 := ⟨_, rfl⟩
  obtain ⟨s, hs⟩ : ∃ s, s = k % 32 := ⟨_, rfl⟩
  have e1 : (k : Int) / 32 = (q : Int) := by omega
  have e2 : (k : Int) % 32 = (s : Int) := by omega
  have hqb : q ≤ 2000000 := by omega
  have hs32 : s < 32 := by omega
  obtain ⟨W1, hW1⟩ : ∃ W, W = w.alloc (.cells (madeCells #[.int .u32 0] q) 67) := ⟨_, rfl⟩
  have hO1 : Own W1 w.heap.size (List.replicate q 0) := by rw [hW1]; exact Own.made w q
  have hB1 : Below w.heap.size w W1 := by rw [hW1]; exact (Below.refl _ _).alloc (Nat.le_refl _) _
  have hmk := make_words (q : Int) q rfl (by omega) w
  rw [← hW1] at hmk
  have hR := own_row_made hO1 (by simp; omega)
  simp only [List.length_replicate] at hR
  have A1 := h1.below hB1
  obtain ⟨v', w2, hap, hown, hgrow⟩ := append_words W1 w.heap.size _ q (List.replicate q 0) xs a l c W1.heap.size 41 hR A1.len A1.rd A1.nil (by omega) hB1.size
  have hB2 : Below w.heap.size w w2 := hB1.grown hgrow hB1.size (fun k hk => by simp [Value.ownBlock] at hk; omega)
  obtain ⟨a2, c2, rfl, hc2, hl2, hnil2, hRd2⟩ := Rw.words hown
  have AO : Arg w2 a2 (q + l) c2 (List.replicate q 0 ++ xs) := ⟨hl2, hc2, by omega, (Wf.zeros q).append h1.wf, hRd2, hnil2⟩
  have hval : val (List.replicate q 0 ++ xs) = X * pw q := by
    rw [val_append, val_zeros, hX, List.length_replicate, Nat.zero_add, Nat.mul_comm]
  have hpw : pw q * 2 ^ s = 2 ^ k := by
    have : pw q = 2 ^ (32 * q) := by unfold pw; rw [Nat.pow_mul]
    rw [this, ← Nat.pow_add]
    congr 1
    omega
  have hps := pow_small s hs32
  obtain ⟨p, hp⟩ : ∃ p, p = 2 ^ s := ⟨_, rfl⟩
  have e3 : (2 : Int) ^ s = (p : Int) := by
    have h5 : ((2 ^ s : Nat) : Int) = (2 : Int) ^ s := by simp
    rw [← h5, ← hp]
  have hpl : p < 4294967296 := by omega
  have T1 := hid (rTimes_arg (V := X * 2 ^ k) (AO.below (below_alloc w2 _)) (lit_arg w2 p (by omega)) (by omega) (by rw [hval]; simp only [val]; rw [← hpw, hp, Nat.mul_assoc]; simp))
  have HAP := hid hap
  have hs2 := hB2.size
  have S1 := Aside.intro hB2
  clear hap hown hgrow hB2 hl2 hnil2 hRd2 AO hval hpw A1 hR hO1 hB1 h1 hW1 hq hs hps hp hX
  go_enter Try.func54, Try.ntmps54
  go_wp2_with (at_builtin; refine wpList_append_run2 rfl (.tmp 39) (.tmp 40) 41 rfl _ _ rfl rfl _ _ HAP.out ?_)
  refine (Calls.mono T1.out) ?_
  rintro r u3 ⟨v3, rfl, hN3, hb3⟩
  have S2 := (Aside.intro (And.intro hN3 hb3))
  clear hN3 hb3
  go_wp2
  go_ret
  obtain ⟨hN3, hb3⟩ := S2.out
  exact ⟨v3, rfl, hN3.mono (by simp; omega), S1.out.trans (((below_alloc w2 _).trans (hb3.mono (by simp))).mono hs2)⟩

set_option maxHeartbeats 4000000 in
theorem ag_zero1 {w : World} {a b : Option Addr} {n c m d : Nat} (e f : Int) (x y : Nat) (bx : x ≤ 1125899906842624) (by' : y ≤ 1125899906842624) (hx : x = 0) (z : Int)
    (H1 : Hid (Calls Try.prog 51 #[.slice a n c] w fun r w' => r = .returned (.int .i64 (x : Nat)) ∧ w' = w))
    (H2 : Hid (Calls Try.prog 51 #[.slice b m d] w fun r w' => r = .returned (.int .i64 (y : Nat)) ∧ w' = w))
    (HC : Hid (Calls Try.prog 57 #[.slice a n c, .slice b m d] w fun r w' => r = .returned (.int .i64 z) ∧ Below w.heap.size w w')) : Calls Try.prog 70 #[.slice a n c, .int .i64 e, .slice b m d, .int .i64 f] w fun r w' => r = .returned (.int .i64 z) ∧ Below w.heap.size w w' := by
  have ex : IntKind.u64.wrap (x : Int) = (x : Int) := by rw [IntKind.wrap_u64]; omega
  have ey : IntKind.u64.wrap (y : Int) = (y : Int) := by rw [IntKind.wrap_u64]; omega
  subst hx
  go_enter Try.func70, Try.ntmps70
  go_wp2_with fail
  refine (Calls.mono H1.out) ?_
  rintro r ww ⟨rfl, hw⟩
  rw [hw]
  clear hw ww
  go_wp2_with fail
  refine (Calls.mono H2.out) ?_
  rintro r ww ⟨rfl, hw⟩
  rw [hw]
  clear hw ww
  go_wp2_with fail
  refine (Calls.mono HC.out) ?_
  rintro r u1 ⟨rfl, hb⟩
  have S1 := Aside.intro hb
  clear hb
  go_wp2
  go_ret
  exact ⟨rfl, S1.out⟩

set_option maxHeartbeats 4000000 in
theorem ag_zero2 {w : World} {a b : Option Addr} {n c m d : Nat} (e f : Int) (x y : Nat) (bx : x ≤ 1125899906842624) (by' : y ≤ 1125899906842624) (hx : ((x : Int) == 0) = false) (hy : y = 0) (z : Int)
    (H1 : Hid (Calls Try.prog 51 #[.slice a n c] w fun r w' => r = .returned (.int .i64 (x : Nat)) ∧ w' = w))
    (H2 : Hid (Calls Try.prog 51 #[.slice b m d] w fun r w' => r = .returned (.int .i64 (y : Nat)) ∧ w' = w))
    (HC : Hid (Calls Try.prog 57 #[.slice a n c, .slice b m d] w fun r w' => r = .returned (.int .i64 z) ∧ Below w.heap.size w w')) : Calls Try.prog 70 #[.slice a n c, .int .i64 e, .slice b m d, .int .i64 f] w fun r w' => r = .returned (.int .i64 z) ∧ Below w.heap.size w w' := by
  have ex : IntKind.u64.wrap (x : Int) = (x : Int) := by rw [IntKind.wrap_u64]; omega
  have ey : IntKind.u64.wrap (y : Int) = (y : Int) := by rw [IntKind.wrap_u64]; omega
  subst hy
  go_enter Try.func70, Try.ntmps70
  go_wp2_with fail
  refine (Calls.mono H1.out) ?_
  rintro r ww ⟨rfl, hw⟩
  rw [hw]
  clear hw ww
  go_wp2_with fail
  refine (Calls.mono H2.out) ?_
  rintro r ww ⟨rfl, hw⟩
  rw [hw]
  clear hw ww
  go_wp2_with fail
  refine (Calls.mono HC.out) ?_
  rintro r u1 ⟨rfl, hb⟩
  have S1 := Aside.intro hb
  clear hb
  go_wp2
  go_ret
  exact ⟨rfl, S1.out⟩

set_option maxHeartbeats 4000000 in
theorem ag_turn {w : World} {a b : Option Addr} {n c m d : Nat} (e f : Int) (x y : Nat) (bx : x ≤ 1125899906842624) (by' : y ≤ 1125899906842624) (hx : ((x : Int) == 0) = false) (hy : ((y : Int) == 0) = false) (hlt : e < f) (z : Int) (hz0 : -1 ≤ z) (hz1 : z ≤ 1)
    (H1 : Hid (Calls Try.prog 51 #[.slice a n c] w fun r w' => r = .returned (.int .i64 (x : Nat)) ∧ w' = w))
    (H2 : Hid (Calls Try.prog 51 #[.slice b m d] w fun r w' => r = .returned (.int .i64 (y : Nat)) ∧ w' = w))
    (HR : Hid (Calls Try.prog 70 #[.slice b m d, .int .i64 f, .slice a n c, .int .i64 e] w fun r w' => r = .returned (.int .i64 z) ∧ Below w.heap.size w w')) : Calls Try.prog 70 #[.slice a n c, .int .i64 e, .slice b m d, .int .i64 f] w fun r w' => r = .returned (.int .i64 (-z)) ∧ Below w.heap.size w w' := by
  have ex : IntKind.u64.wrap (x : Int) = (x : Int) := by rw [IntKind.wrap_u64]; omega
  have ey : IntKind.u64.wrap (y : Int) = (y : Int) := by rw [IntKind.wrap_u64]; omega
  go_enter Try.func70, Try.ntmps70
  go_wp2_with fail
  refine (Calls.mono H1.out) ?_
  rintro r ww ⟨rfl, hw⟩
  rw [hw]
  clear hw ww
  go_wp2_with fail
  refine (Calls.mono H2.out) ?_
  rintro r ww ⟨rfl, hw⟩
  rw [hw]
  clear hw ww
  go_wp2_with fail
  refine (Calls.mono HR.out) ?_
  rintro r u1 ⟨rfl, hb⟩
  have S1 := Aside.intro hb
  clear hb
  go_wp2
  go_ret
  exact ⟨rfl, S1.out⟩

set_option maxHeartbeats 4000000 in
theorem ag_far {w : World} {a b : Option Addr} {n c m d : Nat} (e f : Int) (x y : Nat) (bx : x ≤ 1125899906842624) (by' : y ≤ 1125899906842624) (hx : ((x : Int) == 0) = false) (hy : ((y : Int) == 0) = false) (hge : decide (e < f) = false) (dd : Nat) (hap : IntKind.u64.wrap (IntKind.u64.wrap e - IntKind.u64.wrap f) = (dd : Int)) (hd : 1099511627776 < dd)
    (H1 : Hid (Calls Try.prog 51 #[.slice a n c] w fun r w' => r = .returned (.int .i64 (x : Nat)) ∧ w' = w))
    (H2 : Hid (Calls Try.prog 51 #[.slice b m d] w fun r w' => r = .returned (.int .i64 (y : Nat)) ∧ w' = w)) : Calls Try.prog 70 #[.slice a n c, .int .i64 e, .slice b m d, .int .i64 f] w fun r w' => r = .returned (.int .i64 1) ∧ Below w.heap.size w w' := by
  have hd2 : (1099511627776 : Int) < (dd : Int) := by omega
  have ex : IntKind.u64.wrap (x : Int) = (x : Int) := by rw [IntKind.wrap_u64]; omega
  have ey : IntKind.u64.wrap (y : Int) = (y : Int) := by rw [IntKind.wrap_u64]; omega
  go_enter Try.func70, Try.ntmps70
  go_wp2_with fail
  refine (Calls.mono H1.out) ?_
  rintro r ww ⟨rfl, hw⟩
  rw [hw]
  clear hw ww
  go_wp2_with fail
  refine (Calls.mono H2.out) ?_
  rintro r ww ⟨rfl, hw⟩
  rw [hw]
  clear hw ww
  go_wp2
  go_ret
  exact ⟨rfl, Below.refl _ _⟩

set_option maxHeartbeats 4000000 in
theorem ag_more {w : World} {a b : Option Addr} {n c m d : Nat} (e f : Int) (x y : Nat) (bx : x ≤ 1125899906842624) (by' : y ≤ 1125899906842624) (hx : ((x : Int) == 0) = false) (hy : ((y : Int) == 0) = false) (hge : decide (e < f) = false) (dd : Nat) (hap : IntKind.u64.wrap (IntKind.u64.wrap e - IntKind.u64.wrap f) = (dd : Int)) (hd : dd ≤ 1099511627776) (h1 : y < x + dd)
    (H1 : Hid (Calls Try.prog 51 #[.slice a n c] w fun r w' => r = .returned (.int .i64 (x : Nat)) ∧ w' = w))
    (H2 : Hid (Calls Try.prog 51 #[.slice b m d] w fun r w' => r = .returned (.int .i64 (y : Nat)) ∧ w' = w)) : Calls Try.prog 70 #[.slice a n c, .int .i64 e, .slice b m d, .int .i64 f] w fun r w' => r = .returned (.int .i64 1) ∧ Below w.heap.size w w' := by
  have hd2 : decide ((1099511627776 : Int) < (dd : Int)) = false := decide_eq_false (by omega)
  have hd3 : decide (1099511627776 < dd) = false := decide_eq_false (by omega)
  have es : IntKind.u64.wrap ((x : Int) + (dd : Int)) = (x : Int) + (dd : Int) := by rw [IntKind.wrap_u64]; omega
  have h2 : (y : Int) < (x : Int) + (dd : Int) := by omega
  have ex : IntKind.u64.wrap (x : Int) = (x : Int) := by rw [IntKind.wrap_u64]; omega
  have ey : IntKind.u64.wrap (y : Int) = (y : Int) := by rw [IntKind.wrap_u64]; omega
  go_enter Try.func70, Try.ntmps70
  go_wp2_with fail
  refine (Calls.mono H1.out) ?_
  rintro r ww ⟨rfl, hw⟩
  rw [hw]
  clear hw ww
  go_wp2_with fail
  refine (Calls.mono H2.out) ?_
  rintro r ww ⟨rfl, hw⟩
  rw [hw]
  clear hw ww
  go_wp2
  go_ret
  exact ⟨rfl, Below.refl _ _⟩

set_option maxHeartbeats 4000000 in
theorem ag_less {w : World} {a b : Option Addr} {n c m d : Nat} (e f : Int) (x y : Nat) (bx : x ≤ 1125899906842624) (by' : y ≤ 1125899906842624) (hx : ((x : Int) == 0) = false) (hy : ((y : Int) == 0) = false) (hge : decide (e < f) = false) (dd : Nat) (hap : IntKind.u64.wrap (IntKind.u64.wrap e - IntKind.u64.wrap f) = (dd : Int)) (hd : dd ≤ 1099511627776) (h1 : x + dd < y)
    (H1 : Hid (Calls Try.prog 51 #[.slice a n c] w fun r w' => r = .returned (.int .i64 (x : Nat)) ∧ w' = w))
    (H2 : Hid (Calls Try.prog 51 #[.slice b m d] w fun r w' => r = .returned (.int .i64 (y : Nat)) ∧ w' = w)) : Calls Try.prog 70 #[.slice a n c, .int .i64 e, .slice b m d, .int .i64 f] w fun r w' => r = .returned (.int .i64 (-1)) ∧ Below w.heap.size w w' := by
  have hd2 : decide ((1099511627776 : Int) < (dd : Int)) = false := decide_eq_false (by omega)
  have hd3 : decide (1099511627776 < dd) = false := decide_eq_false (by omega)
  have es : IntKind.u64.wrap ((x : Int) + (dd : Int)) = (x : Int) + (dd : Int) := by rw [IntKind.wrap_u64]; omega
  have h2 : (x : Int) + (dd : Int) < (y : Int) := by omega
  have h3 : decide ((y : Int) < (x : Int) + (dd : Int)) = false := decide_eq_false (by omega)
  have h4 : decide (y < x + dd) = false := decide_eq_false (by omega)
  have ex : IntKind.u64.wrap (x : Int) = (x : Int) := by rw [IntKind.wrap_u64]; omega
  have ey : IntKind.u64.wrap (y : Int) = (y : Int) := by rw [IntKind.wrap_u64]; omega
  go_enter Try.func70, Try.ntmps70
  go_wp2_with fail
  refine (Calls.mono H1.out) ?_
  rintro r ww ⟨rfl, hw⟩
  rw [hw]
  clear hw ww
  go_wp2_with fail
  refine (Calls.mono H2.out) ?_
  rintro r ww ⟨rfl, hw⟩
  rw [hw]
  clear hw ww
  go_wp2
  go_ret
  exact ⟨rfl, Below.refl _ _⟩

set_option maxHeartbeats 4000000 in
theorem ag_even {w : World} {a b : Option Addr} {n c m d : Nat} (e f : Int) (x y : Nat) (bx : x ≤ 1125899906842624) (by' : y ≤ 1125899906842624) (hx : ((x : Int) == 0) = false) (hy : ((y : Int) == 0) = false) (hge : decide (e < f) = false) (dd : Nat) (hap : IntKind.u64.wrap (IntKind.u64.wrap e - IntKind.u64.wrap f) = (dd : Int)) (hd : dd ≤ 64000000) (h1 : x + dd = y) (P : Nat) (lP : (ws P).length ≤ 35184372088832) (z : Int)
    (H1 : Hid (Calls Try.prog 51 #[.slice a n c] w fun r w' => r = .returned (.int .i64 (x : Nat)) ∧ w' = w))
    (H2 : Hid (Calls Try.prog 51 #[.slice b m d] w fun r w' => r = .returned (.int .i64 (y : Nat)) ∧ w' = w))
    (HM : Hid (Calls Try.prog 54 #[.slice a n c, .int .i64 (dd : Nat)] w fun r w' => ∃ v, r = .returned v ∧ Nt w.heap.size w' v P ∧ Below w.heap.size w w'))
    (HC : Hid (∀ u p q, Below w.heap.size w u → Arg u p (ws P).length q (ws P) → Calls Try.prog 57 #[.slice p (ws P).length q, .slice b m d] u fun r w' => r = .returned (.int .i64 z) ∧ Below u.heap.size u w')) : Calls Try.prog 70 #[.slice a n c, .int .i64 e, .slice b m d, .int .i64 f] w fun r w' => r = .returned (.int .i64 z) ∧ Below w.heap.size w w' := by
  have hd2 : decide ((1099511627776 : Int) < (dd : Int)) = false := decide_eq_false (by omega)
  have hd3 : decide (1099511627776 < dd) = false := decide_eq_false (by omega)
  have es : IntKind.u64.wrap ((x : Int) + (dd : Int)) = (x : Int) + (dd : Int) := by rw [IntKind.wrap_u64]; omega
  have h2 : decide ((x : Int) + (dd : Int) < (y : Int)) = false := decide_eq_false (by omega)
  have h3 : decide ((y : Int) < (x : Int) + (dd : Int)) = false := decide_eq_false (by omega)
  have h4 : decide (y < x + dd) = false := decide_eq_false (by omega)
  have h5 : decide (x + dd < y) = false := decide_eq_false (by omega)
  have ed : IntKind.i64.wrap (dd : Int) = (dd : Int) := by rw [IntKind.wrap_i64]; omega
  clear h1
  have ex : IntKind.u64.wrap (x : Int) = (x : Int) := by rw [IntKind.wrap_u64]; omega
  have ey : IntKind.u64.wrap (y : Int) = (y : Int) := by rw [IntKind.wrap_u64]; omega
  go_enter Try.func70, Try.ntmps70
  go_wp2_with fail
  refine (Calls.mono H1.out) ?_
  rintro r ww ⟨rfl, hw⟩
  rw [hw]
  clear hw ww
  go_wp2_with fail
  refine (Calls.mono H2.out) ?_
  rintro r ww ⟨rfl, hw⟩
  rw [hw]
  clear hw ww
  go_wp2_with fail
  refine (Calls.mono HM.out) ?_
  rintro r u1 ⟨v, rfl, hN, hb⟩
  obtain ⟨a1, c1, rfl, A1⟩ := hN.arg lP
  have HC1 := hid (HC.out u1 a1 c1 hb A1)
  have hs1 := hb.size
  have S1 := Aside.intro hb
  clear hN hb A1
  go_wp2_with fail
  refine (Calls.mono HC1.out) ?_
  rintro r u2 ⟨rfl, hb⟩
  have S2 := Aside.intro (S1.out.trans (hb.mono hs1))
  clear hb
  go_wp2
  go_ret
  exact ⟨rfl, S2.out⟩

/-- What Against answers. -/
def agV (X : Nat) (e : Int) (Y : Nat) (f : Int) : Int := if X = 0 ∨ Y = 0 then cmpI X Y else cmpP X e Y f

theorem against_ge {w : World} {a b : Option Addr} {n c m d : Nat} {xs ys : List Nat} (h1 : Arg w a n c xs) (h2 : Arg w b m d ys) (hn : n ≤ 2000000) (hm : m ≤ 2000000) (e f : Int) (he0 : -9223372036854775808 ≤ e) (he1 : e ≤ 9223372036854775807) (hf0 : -9223372036854775808 ≤ f) (hf1 : f ≤ 9223372036854775807) (h : f ≤ e) (hX : val xs ≠ 0) (hY : val ys ≠ 0) :
    Calls Try.prog 70 #[.slice a n c, .int .i64 e, .slice b m d, .int .i64 f] w fun r w' => r = .returned (.int .i64 (cmpP (val xs) e (val ys) f)) ∧ Below w.heap.size w w' := by
  have b1 := h1.big
  have b2 := h2.big
  have L1 := hid (rLen_any xs a n c w.heap.size w h1.len (by omega) h1.wf h1.rd)
  have L2 := hid (rLen_any ys b m d w.heap.size w h2.len (by omega) h2.wf h2.rd)
  have x0 : (((bl (val xs) : Nat) : Int) == 0) = false := by have := bl_pos _ hX; simp; omega
  have y0 : (((bl (val ys) : Nat) : Int) == 0) = false := by have := bl_pos _ hY; simp; omega
  have hap := u64_apart e f he0 he1 hf0 hf1 h
  have hge : decide (e < f) = false := decide_eq_false (by omega)
  have c1 := bl_arg h1
  have c2 : bl (val ys) ≤ 64000000 := by
    have := val_lt ys h2.wf
    rw [← h2.len] at this
    have := bl_pw _ _ this
    omega
  unfold cmpP
  rw [if_neg (by omega)]
  obtain ⟨dd, hdd⟩ : ∃ dd, (e - f).toNat = dd := ⟨_, rfl⟩
  rw [hdd] at hap ⊢
  have hb := bl_up (val xs) dd hX
  by_cases k1 : 1099511627776 < dd
  · have : cmpI (val xs * 2 ^ dd) (val ys) = 1 := by
      rw [cmpI_bl (by omega), hb]; unfold cmpI; rw [if_neg (by omega), if_pos (by omega)]
    rw [this]
    exact ag_far e f _ _ c1 (by omega) x0 y0 hge dd hap k1 L1 L2
  · by_cases k2 : bl (val ys) < bl (val xs) + dd
    · have : cmpI (val xs * 2 ^ dd) (val ys) = 1 := by
        rw [cmpI_bl (by omega), hb]; unfold cmpI; rw [if_neg (by omega), if_pos (by omega)]
      rw [this]
      exact ag_more e f _ _ c1 (by omega) x0 y0 hge dd hap (by omega) k2 L1 L2
    · by_cases k3 : bl (val xs) + dd < bl (val ys)
      · have : cmpI (val xs * 2 ^ dd) (val ys) = -1 := by
          rw [cmpI_bl (by omega), hb]; unfold cmpI; rw [if_pos (by omega)]
        rw [this]
        exact ag_less e f _ _ c1 (by omega) x0 y0 hge dd hap (by omega) k3 L1 L2
      · have lP : (ws (val xs * 2 ^ dd)).length ≤ 35184372088832 := by rw [ws_len_bl, hb]; omega
        obtain ⟨P, hP⟩ : ∃ P, val xs * 2 ^ dd = P := ⟨_, rfl⟩
        have HM := hid (moved_raw (X := val xs) dd h1 rfl hn (by omega))
        rw [hP] at HM lP ⊢
        exact ag_even e f _ _ c1 (by omega) x0 y0 hge dd hap (by omega) (by omega) P lP _ L1 L2 HM (hid fun u p q hu hA => rCmp_arg hA (h2.below hu) _ (by rw [val_ws]))
theorem against_any {w : World} {a b : Option Addr} {n c m d : Nat} {xs ys : List Nat} (h1 : Arg w a n c xs) (h2 : Arg w b m d ys) (hn : n ≤ 2000000) (hm : m ≤ 2000000) (e f : Int) (he0 : -9223372036854775808 ≤ e) (he1 : e ≤ 9223372036854775807) (hf0 : -9223372036854775808 ≤ f) (hf1 : f ≤ 9223372036854775807) :
    Calls Try.prog 70 #[.slice a n c, .int .i64 e, .slice b m d, .int .i64 f] w fun r w' => r = .returned (.int .i64 (agV (val xs) e (val ys) f)) ∧ Below w.heap.size w w' := by
  have b1 := h1.big
  have b2 := h2.big
  have L1 := hid (rLen_any xs a n c w.heap.size w h1.len (by omega) h1.wf h1.rd)
  have L2 := hid (rLen_any ys b m d w.heap.size w h2.len (by omega) h2.wf h2.rd)
  have c1 := bl_arg h1
  have c2 := bl_arg h2
  unfold agV
  by_cases hX : val xs = 0
  · rw [if_pos (.inl hX)]
    exact ag_zero1 e f _ _ c1 c2 (by rw [hX, bl_zero]) _ L1 L2 (hid (rCmp_arg h1 h2 _ rfl))
  · have x0 : (((bl (val xs) : Nat) : Int) == 0) = false := by have := bl_pos _ hX; simp; omega
    by_cases hY : val ys = 0
    · rw [if_pos (.inr hY)]
      exact ag_zero2 e f _ _ c1 c2 x0 (by rw [hY, bl_zero]) _ L1 L2 (hid (rCmp_arg h1 h2 _ rfl))
    · have y0 : (((bl (val ys) : Nat) : Int) == 0) = false := by have := bl_pos _ hY; simp; omega
      rw [if_neg (fun h => h.elim hX hY)]
      by_cases h : e < f
      · have hr := cmpP_range (val ys) f (val xs) e
        have := ag_turn e f _ _ c1 c2 x0 y0 h (cmpP (val ys) f (val xs) e) (by omega) (by omega) L1 L2 (hid (against_ge h2 h1 hm hn f e hf0 hf1 he0 he1 (by omega) hY hX))
        rw [cmpP_neg] at this
        exact this
      · exact against_ge h1 h2 hn hm e f he0 he1 hf0 hf1 (by omega) hX hY

set_option maxHeartbeats 4000000 in
theorem rcmp_lt {w : World} {a b : Option Addr} {n c m d : Nat} (ng mg : Bool) (e f : Int) (s t : Int) (h : s < t)
    (HA : Hid (∀ u, Below w.heap.size w u → Calls Try.prog 69 #[.agg #[.bool ng, .slice a n c, .int .i64 e]] u fun r w' => r = .returned (.int .i64 s) ∧ Below u.heap.size u w'))
    (HB : Hid (∀ u, Below w.heap.size w u → Calls Try.prog 69 #[.agg #[.bool mg, .slice b m d, .int .i64 f]] u fun r w' => r = .returned (.int .i64 t) ∧ Below u.heap.size u w')) :
    Calls Try.prog 49 #[.agg #[.bool ng, .slice a n c, .int .i64 e], .agg #[.bool mg, .slice b m d, .int .i64 f]] w fun r w' => r = .returned (.int .i64 (-1)) ∧ Below w.heap.size w w' := by
  obtain ⟨W1, hW1⟩ : ∃ W, W = (w.alloc (.cells #[.bool ng, .slice a n c, .int .i64 e] 43)).alloc (.cells #[.bool mg, .slice b m d, .int .i64 f] 43) := ⟨_, rfl⟩
  have hB : Below w.heap.size w W1 := by rw [hW1]; exact (below_alloc w _).alloc (by simp) _
  have hz : W1.heap.size = w.heap.size + 2 := by rw [hW1]; simp
  have DA : Dk W1 w.heap.size ng (.slice a n c) e := by rw [hW1]; exact (Dk.new w ng (.slice a n c) e).alloc _
  have DB : Dk W1 (w.heap.size + 1) mg (.slice b m d) f := by
    rw [hW1]
    have := Dk.new (w.alloc (.cells #[.bool ng, .slice a n c, .int .i64 e] 43)) mg (.slice b m d) f
    simpa using this
  have hs : w.heap.size ≤ W1.heap.size := by omega
  have S0 := (Aside.intro (And.intro hB (And.intro DA DB)))
  clear hz
  clear hB DA DB
  go_enter Try.func49, Try.ntmps49
  go_upto_region 1 with fail
  rw [← hW1]
  clear hW1
  obtain ⟨hB, DA, DB⟩ := S0.out
  obtain ⟨x0, x1, x2, xf0, xf1, xf2⟩ := DA.facts
  obtain ⟨y0, y1, y2, yf0, yf1, yf2⟩ := DB.facts
  have HH := hid (HA.out W1 hB)
  clear hB DA DB
  go_wp2_with fail
  clear x0 x1 x2 xf0 xf1 xf2 y0 y1 y2 yf0 yf1 yf2
  refine (Calls.mono HH.out) ?_
  rintro r u1 ⟨rfl, hb⟩
  obtain ⟨hB, DA, DB⟩ := S0.out
  have hs1 := hb.size
  have S1 := (Aside.intro (And.intro (hB.trans (hb.mono (by omega))) (And.intro (DA.below hb) (DB.below hb))))
  clear hB DA DB hb HH S0
  obtain ⟨hB, DA, DB⟩ := S1.out
  obtain ⟨x0, x1, x2, xf0, xf1, xf2⟩ := DA.facts
  obtain ⟨y0, y1, y2, yf0, yf1, yf2⟩ := DB.facts
  have HH := hid (HB.out u1 hB)
  clear hB DA DB
  go_wp2_with fail
  clear x0 x1 x2 xf0 xf1 xf2 y0 y1 y2 yf0 yf1 yf2
  refine (Calls.mono HH.out) ?_
  rintro r u2 ⟨rfl, hb⟩
  obtain ⟨hB, DA, DB⟩ := S1.out
  have hs2 := hb.size
  have S2 := (Aside.intro (And.intro (hB.trans (hb.mono (by omega))) (And.intro (DA.below hb) (DB.below hb))))
  clear hB DA DB hb HH S1
  obtain ⟨x0, x1, x2, xf0, xf1, xf2⟩ := S2.out.2.1.facts
  go_wp2
  go_ret
  exact ⟨rfl, S2.out.1⟩

set_option maxHeartbeats 4000000 in
theorem rcmp_gt {w : World} {a b : Option Addr} {n c m d : Nat} (ng mg : Bool) (e f : Int) (s t : Int) (h : t < s)
    (HA : Hid (∀ u, Below w.heap.size w u → Calls Try.prog 69 #[.agg #[.bool ng, .slice a n c, .int .i64 e]] u fun r w' => r = .returned (.int .i64 s) ∧ Below u.heap.size u w'))
    (HB : Hid (∀ u, Below w.heap.size w u → Calls Try.prog 69 #[.agg #[.bool mg, .slice b m d, .int .i64 f]] u fun r w' => r = .returned (.int .i64 t) ∧ Below u.heap.size u w')) :
    Calls Try.prog 49 #[.agg #[.bool ng, .slice a n c, .int .i64 e], .agg #[.bool mg, .slice b m d, .int .i64 f]] w fun r w' => r = .returned (.int .i64 1) ∧ Below w.heap.size w w' := by
  obtain ⟨W1, hW1⟩ : ∃ W, W = (w.alloc (.cells #[.bool ng, .slice a n c, .int .i64 e] 43)).alloc (.cells #[.bool mg, .slice b m d, .int .i64 f] 43) := ⟨_, rfl⟩
  have hB : Below w.heap.size w W1 := by rw [hW1]; exact (below_alloc w _).alloc (by simp) _
  have hz : W1.heap.size = w.heap.size + 2 := by rw [hW1]; simp
  have DA : Dk W1 w.heap.size ng (.slice a n c) e := by rw [hW1]; exact (Dk.new w ng (.slice a n c) e).alloc _
  have DB : Dk W1 (w.heap.size + 1) mg (.slice b m d) f := by
    rw [hW1]
    have := Dk.new (w.alloc (.cells #[.bool ng, .slice a n c, .int .i64 e] 43)) mg (.slice b m d) f
    simpa using this
  have hs : w.heap.size ≤ W1.heap.size := by omega
  have S0 := (Aside.intro (And.intro hB (And.intro DA DB)))
  clear hz
  clear hB DA DB
  have h0 : decide (s < t) = false := decide_eq_false (by omega)
  go_enter Try.func49, Try.ntmps49
  go_upto_region 1 with fail
  rw [← hW1]
  clear hW1
  obtain ⟨hB, DA, DB⟩ := S0.out
  obtain ⟨x0, x1, x2, xf0, xf1, xf2⟩ := DA.facts
  obtain ⟨y0, y1, y2, yf0, yf1, yf2⟩ := DB.facts
  have HH := hid (HA.out W1 hB)
  clear hB DA DB
  go_wp2_with fail
  clear x0 x1 x2 xf0 xf1 xf2 y0 y1 y2 yf0 yf1 yf2
  refine (Calls.mono HH.out) ?_
  rintro r u1 ⟨rfl, hb⟩
  obtain ⟨hB, DA, DB⟩ := S0.out
  have hs1 := hb.size
  have S1 := (Aside.intro (And.intro (hB.trans (hb.mono (by omega))) (And.intro (DA.below hb) (DB.below hb))))
  clear hB DA DB hb HH S0
  obtain ⟨hB, DA, DB⟩ := S1.out
  obtain ⟨x0, x1, x2, xf0, xf1, xf2⟩ := DA.facts
  obtain ⟨y0, y1, y2, yf0, yf1, yf2⟩ := DB.facts
  have HH := hid (HB.out u1 hB)
  clear hB DA DB
  go_wp2_with fail
  clear x0 x1 x2 xf0 xf1 xf2 y0 y1 y2 yf0 yf1 yf2
  refine (Calls.mono HH.out) ?_
  rintro r u2 ⟨rfl, hb⟩
  obtain ⟨hB, DA, DB⟩ := S1.out
  have hs2 := hb.size
  have S2 := (Aside.intro (And.intro (hB.trans (hb.mono (by omega))) (And.intro (DA.below hb) (DB.below hb))))
  clear hB DA DB hb HH S1
  obtain ⟨x0, x1, x2, xf0, xf1, xf2⟩ := S2.out.2.1.facts
  go_wp2
  go_ret
  exact ⟨rfl, S2.out.1⟩

set_option maxHeartbeats 4000000 in
theorem rcmp_neg {w : World} {a b : Option Addr} {n c m d : Nat} (ng mg : Bool) (e f : Int) (s t : Int) (h : s = t) (h2 : s < 0) (z : Int)
    (HA : Hid (∀ u, Below w.heap.size w u → Calls Try.prog 69 #[.agg #[.bool ng, .slice a n c, .int .i64 e]] u fun r w' => r = .returned (.int .i64 s) ∧ Below u.heap.size u w'))
    (HB : Hid (∀ u, Below w.heap.size w u → Calls Try.prog 69 #[.agg #[.bool mg, .slice b m d, .int .i64 f]] u fun r w' => r = .returned (.int .i64 t) ∧ Below u.heap.size u w'))
    (HG : Hid (∀ u, Below w.heap.size w u → Calls Try.prog 70 #[.slice b m d, .int .i64 f, .slice a n c, .int .i64 e] u fun r w' => r = .returned (.int .i64 z) ∧ Below u.heap.size u w')) :
    Calls Try.prog 49 #[.agg #[.bool ng, .slice a n c, .int .i64 e], .agg #[.bool mg, .slice b m d, .int .i64 f]] w fun r w' => r = .returned (.int .i64 z) ∧ Below w.heap.size w w' := by
  obtain ⟨W1, hW1⟩ : ∃ W, W = (w.alloc (.cells #[.bool ng, .slice a n c, .int .i64 e] 43)).alloc (.cells #[.bool mg, .slice b m d, .int .i64 f] 43) := ⟨_, rfl⟩
  have hB : Below w.heap.size w W1 := by rw [hW1]; exact (below_alloc w _).alloc (by simp) _
  have hz : W1.heap.size = w.heap.size + 2 := by rw [hW1]; simp
  have DA : Dk W1 w.heap.size ng (.slice a n c) e := by rw [hW1]; exact (Dk.new w ng (.slice a n c) e).alloc _
  have DB : Dk W1 (w.heap.size + 1) mg (.slice b m d) f := by
    rw [hW1]
    have := Dk.new (w.alloc (.cells #[.bool ng, .slice a n c, .int .i64 e] 43)) mg (.slice b m d) f
    simpa using this
  have hs : w.heap.size ≤ W1.heap.size := by omega
  have S0 := (Aside.intro (And.intro hB (And.intro DA DB)))
  clear hz
  clear hB DA DB
  subst h
  go_enter Try.func49, Try.ntmps49
  go_upto_region 1 with fail
  rw [← hW1]
  clear hW1
  obtain ⟨hB, DA, DB⟩ := S0.out
  obtain ⟨x0, x1, x2, xf0, xf1, xf2⟩ := DA.facts
  obtain ⟨y0, y1, y2, yf0, yf1, yf2⟩ := DB.facts
  have HH := hid (HA.out W1 hB)
  clear hB DA DB
  go_wp2_with fail
  clear x0 x1 x2 xf0 xf1 xf2 y0 y1 y2 yf0 yf1 yf2
  refine (Calls.mono HH.out) ?_
  rintro r u1 ⟨rfl, hb⟩
  obtain ⟨hB, DA, DB⟩ := S0.out
  have hs1 := hb.size
  have S1 := (Aside.intro (And.intro (hB.trans (hb.mono (by omega))) (And.intro (DA.below hb) (DB.below hb))))
  clear hB DA DB hb HH S0
  obtain ⟨hB, DA, DB⟩ := S1.out
  obtain ⟨x0, x1, x2, xf0, xf1, xf2⟩ := DA.facts
  obtain ⟨y0, y1, y2, yf0, yf1, yf2⟩ := DB.facts
  have HH := hid (HB.out u1 hB)
  clear hB DA DB
  go_wp2_with fail
  clear x0 x1 x2 xf0 xf1 xf2 y0 y1 y2 yf0 yf1 yf2
  refine (Calls.mono HH.out) ?_
  rintro r u2 ⟨rfl, hb⟩
  obtain ⟨hB, DA, DB⟩ := S1.out
  have hs2 := hb.size
  have S2 := (Aside.intro (And.intro (hB.trans (hb.mono (by omega))) (And.intro (DA.below hb) (DB.below hb))))
  clear hB DA DB hb HH S1
  obtain ⟨hB, DA, DB⟩ := S2.out
  obtain ⟨x0, x1, x2, xf0, xf1, xf2⟩ := DA.facts
  obtain ⟨y0, y1, y2, yf0, yf1, yf2⟩ := DB.facts
  have HH := hid (HG.out u2 hB)
  clear hB DA DB
  go_wp2_with fail
  clear x0 x1 x2 xf0 xf1 xf2 y0 y1 y2 yf0 yf1 yf2
  refine (Calls.mono HH.out) ?_
  rintro r u3 ⟨rfl, hb⟩
  obtain ⟨hB, DA, DB⟩ := S2.out
  have hs3 := hb.size
  have S3 := (Aside.intro (And.intro (hB.trans (hb.mono (by omega))) (And.intro (DA.below hb) (DB.below hb))))
  clear hB DA DB hb HH S2
  go_wp2
  go_ret
  exact ⟨rfl, S3.out.1⟩

set_option maxHeartbeats 4000000 in
theorem rcmp_pos {w : World} {a b : Option Addr} {n c m d : Nat} (ng mg : Bool) (e f : Int) (s t : Int) (h : s = t) (h2 : 0 ≤ s) (z : Int)
    (HA : Hid (∀ u, Below w.heap.size w u → Calls Try.prog 69 #[.agg #[.bool ng, .slice a n c, .int .i64 e]] u fun r w' => r = .returned (.int .i64 s) ∧ Below u.heap.size u w'))
    (HB : Hid (∀ u, Below w.heap.size w u → Calls Try.prog 69 #[.agg #[.bool mg, .slice b m d, .int .i64 f]] u fun r w' => r = .returned (.int .i64 t) ∧ Below u.heap.size u w'))
    (HG : Hid (∀ u, Below w.heap.size w u → Calls Try.prog 70 #[.slice a n c, .int .i64 e, .slice b m d, .int .i64 f] u fun r w' => r = .returned (.int .i64 z) ∧ Below u.heap.size u w')) :
    Calls Try.prog 49 #[.agg #[.bool ng, .slice a n c, .int .i64 e], .agg #[.bool mg, .slice b m d, .int .i64 f]] w fun r w' => r = .returned (.int .i64 z) ∧ Below w.heap.size w w' := by
  obtain ⟨W1, hW1⟩ : ∃ W, W = (w.alloc (.cells #[.bool ng, .slice a n c, .int .i64 e] 43)).alloc (.cells #[.bool mg, .slice b m d, .int .i64 f] 43) := ⟨_, rfl⟩
  have hB : Below w.heap.size w W1 := by rw [hW1]; exact (below_alloc w _).alloc (by simp) _
  have hz : W1.heap.size = w.heap.size + 2 := by rw [hW1]; simp
  have DA : Dk W1 w.heap.size ng (.slice a n c) e := by rw [hW1]; exact (Dk.new w ng (.slice a n c) e).alloc _
  have DB : Dk W1 (w.heap.size + 1) mg (.slice b m d) f := by
    rw [hW1]
    have := Dk.new (w.alloc (.cells #[.bool ng, .slice a n c, .int .i64 e] 43)) mg (.slice b m d) f
    simpa using this
  have hs : w.heap.size ≤ W1.heap.size := by omega
  have S0 := (Aside.intro (And.intro hB (And.intro DA DB)))
  clear hz
  clear hB DA DB
  subst h
  have h0 : decide (s < 0) = false := decide_eq_false (by omega)
  go_enter Try.func49, Try.ntmps49
  go_upto_region 1 with fail
  rw [← hW1]
  clear hW1
  obtain ⟨hB, DA, DB⟩ := S0.out
  obtain ⟨x0, x1, x2, xf0, xf1, xf2⟩ := DA.facts
  obtain ⟨y0, y1, y2, yf0, yf1, yf2⟩ := DB.facts
  have HH := hid (HA.out W1 hB)
  clear hB DA DB
  go_wp2_with fail
  clear x0 x1 x2 xf0 xf1 xf2 y0 y1 y2 yf0 yf1 yf2
  refine (Calls.mono HH.out) ?_
  rintro r u1 ⟨rfl, hb⟩
  obtain ⟨hB, DA, DB⟩ := S0.out
  have hs1 := hb.size
  have S1 := (Aside.intro (And.intro (hB.trans (hb.mono (by omega))) (And.intro (DA.below hb) (DB.below hb))))
  clear hB DA DB hb HH S0
  obtain ⟨hB, DA, DB⟩ := S1.out
  obtain ⟨x0, x1, x2, xf0, xf1, xf2⟩ := DA.facts
  obtain ⟨y0, y1, y2, yf0, yf1, yf2⟩ := DB.facts
  have HH := hid (HB.out u1 hB)
  clear hB DA DB
  go_wp2_with fail
  clear x0 x1 x2 xf0 xf1 xf2 y0 y1 y2 yf0 yf1 yf2
  refine (Calls.mono HH.out) ?_
  rintro r u2 ⟨rfl, hb⟩
  obtain ⟨hB, DA, DB⟩ := S1.out
  have hs2 := hb.size
  have S2 := (Aside.intro (And.intro (hB.trans (hb.mono (by omega))) (And.intro (DA.below hb) (DB.below hb))))
  clear hB DA DB hb HH S1
  obtain ⟨hB, DA, DB⟩ := S2.out
  obtain ⟨x0, x1, x2, xf0, xf1, xf2⟩ := DA.facts
  obtain ⟨y0, y1, y2, yf0, yf1, yf2⟩ := DB.facts
  have HH := hid (HG.out u2 hB)
  clear hB DA DB
  go_wp2_with fail
  clear x0 x1 x2 xf0 xf1 xf2 y0 y1 y2 yf0 yf1 yf2
  refine (Calls.mono HH.out) ?_
  rintro r u3 ⟨rfl, hb⟩
  obtain ⟨hB, DA, DB⟩ := S2.out
  have hs3 := hb.size
  have S3 := (Aside.intro (And.intro (hB.trans (hb.mono (by omega))) (And.intro (DA.below hb) (DB.below hb))))
  clear hB DA DB hb HH S2
  go_wp2
  go_ret
  exact ⟨rfl, S3.out.1⟩


theorem rCmp_any3 {w : World} {a b : Option Addr} {n c m d : Nat} {xs ys : List Nat} (h1 : Arg w a n c xs) (h2 : Arg w b m d ys) (hn : n ≤ 2000000) (hm : m ≤ 2000000) (ng mg : Bool) (e f : Int) (he0 : -9223372036854775808 ≤ e) (he1 : e ≤ 9223372036854775807) (hf0 : -9223372036854775808 ≤ f) (hf1 : f ≤ 9223372036854775807) :
    Calls Try.prog 49 #[.agg #[.bool ng, .slice a n c, .int .i64 e], .agg #[.bool mg, .slice b m d, .int .i64 f]] w fun r w' => r = .returned (.int .i64 (cmpV ng (val xs) e mg (val ys) f)) ∧ Below w.heap.size w w' := by
  have SA := hid fun u (hu : Below w.heap.size w u) => rSign_any3 (h1.below hu) ng e
  have SB := hid fun u (hu : Below w.heap.size w u) => rSign_any3 (h2.below hu) mg f
  have hA := sgn_range ng (val xs)
  unfold cmpV
  by_cases k1 : sgn ng (val xs) < sgn mg (val ys)
  · rw [if_pos k1]; exact rcmp_lt ng mg e f _ _ k1 SA SB
  · rw [if_neg k1]
    by_cases k2 : sgn mg (val ys) < sgn ng (val xs)
    · rw [if_pos k2]; exact rcmp_gt ng mg e f _ _ k2 SA SB
    · rw [if_neg k2]
      have k3 : sgn ng (val xs) = sgn mg (val ys) := by omega
      by_cases hX : val xs = 0
      · rw [if_pos hX]
        have hs := sgn_zero (n := ng).2 hX
        have hY : val ys = 0 := sgn_zero.1 (k3 ▸ hs)
        have e1 : agV (val xs) e (val ys) f = 0 := by unfold agV; rw [if_pos (.inl hX), hX, hY]; rfl
        have HG := hid fun u (hu : Below w.heap.size w u) => against_any (h1.below hu) (h2.below hu) hn hm e f he0 he1 hf0 hf1
        rw [e1] at HG
        exact rcmp_pos ng mg e f _ _ k3 (by omega) 0 SA SB HG
      · rw [if_neg hX]
        have hY : val ys ≠ 0 := fun h => hX (sgn_zero.1 (k3.trans (sgn_zero.2 h)))
        by_cases hng : ng = true
        · rw [if_pos hng]
          have hs : sgn ng (val xs) < 0 := by unfold sgn; rw [if_neg hX, if_pos hng]; omega
          have HG := hid fun u (hu : Below w.heap.size w u) => against_any (h2.below hu) (h1.below hu) hm hn f e hf0 hf1 he0 he1
          have e1 : agV (val ys) f (val xs) e = cmpP (val ys) f (val xs) e := by unfold agV; rw [if_neg (fun h => h.elim hY hX)]
          rw [e1] at HG
          exact rcmp_neg ng mg e f _ _ k3 hs _ SA SB HG
        · rw [if_neg hng]
          have hs : 0 ≤ sgn ng (val xs) := by unfold sgn; rw [if_neg hX, if_neg hng]; omega
          have HG := hid fun u (hu : Below w.heap.size w u) => against_any (h1.below hu) (h2.below hu) hn hm e f he0 he1 hf0 hf1
          have e1 : agV (val xs) e (val ys) f = cmpP (val xs) e (val ys) f := by unfold agV; rw [if_neg (fun h => h.elim hX hY)]
          rw [e1] at HG
          exact rcmp_pos ng mg e f _ _ k3 hs _ SA SB HG
end Go.Proofs.Ythilnddhehbjiab

/- DyadRounds: the document's Nearby at 64 bits. -/
namespace Go.Proofs.Ythilnddhehbjiab
open Go.RowKit
set_option linter.unusedVariables false
set_option maxRecDepth 20000

theorem agV_z (X : Nat) (e : Int) (Y : Nat) (f B : Int) (h1 : B ≤ e) (h2 : B ≤ f) : agV X e Y f = cmpZ ((X * 2 ^ (e - B).toNat : Nat) : Int) ((Y * 2 ^ (f - B).toNat : Nat) : Int) := by
  rw [cmpZ_nat]
  unfold agV
  by_cases h : X = 0 ∨ Y = 0
  · rw [if_pos h]
    have p1 := pos_iff X (e - B).toNat
    have p2 := pos_iff Y (f - B).toNat
    generalize X * 2 ^ (e - B).toNat = P at p1 ⊢
    generalize Y * 2 ^ (f - B).toNat = Q at p2 ⊢
    have q1 : X = 0 ∧ P = 0 ∨ X ≠ 0 ∧ P ≠ 0 := by
      by_cases h : X = 0
      · exact .inl ⟨h, p1.2 h⟩
      · exact .inr ⟨h, fun k => h (p1.1 k)⟩
    have q2 : Y = 0 ∧ Q = 0 ∨ Y ≠ 0 ∧ Q ≠ 0 := by
      by_cases h : Y = 0
      · exact .inl ⟨h, p2.2 h⟩
      · exact .inr ⟨h, fun k => h (p2.1 k)⟩
    clear p1 p2
    unfold cmpI
    rcases h with h | h
    · rcases q1 with ⟨a, b⟩ | ⟨a, b⟩
      · rcases q2 with ⟨c, d⟩ | ⟨c, d⟩
        · rw [a, b, c, d]
        · rw [a, b, if_pos (by omega), if_pos (by omega)]
      · exact absurd h a
    · rcases q2 with ⟨c, d⟩ | ⟨c, d⟩
      · rcases q1 with ⟨a, b⟩ | ⟨a, b⟩
        · rw [a, b, c, d]
        · rw [c, d, if_neg (by omega), if_pos (by omega), if_neg (by omega), if_pos (by omega)]
      · exact absurd h c
  · rw [if_neg h]
    exact cmpP_base X e Y f B h1 h2

theorem num64_vK (k : Nat) (B : Int) (hB : B ≤ -1074) : (num64 k).1 * 2 ^ ((num64 k).2 - B).toNat = vK k * 2 ^ (-1074 - B).toNat ∧ (num64 k).1 < 9007199254740992 ∧ B ≤ (num64 k).2 ∧ ((num64 k).1 = 0 ↔ k = 0) := by
  unfold num64
  by_cases h : k / 4503599627370496 = 0
  · rw [if_pos h]
    refine ⟨?_, by simp only; omega, by simp only; omega, by simp only; omega⟩
    simp only
    have := vK_word 0 k (.inl rfl) (by omega)
    rw [Nat.zero_mul, Nat.zero_add, Nat.pow_zero, Nat.mul_one] at this
    rw [this, show k % 4503599627370496 = k by omega]
  · rw [if_neg h]
    obtain ⟨q, hq⟩ : ∃ q, k / 4503599627370496 = q := ⟨_, rfl⟩
    obtain ⟨f, hf⟩ : ∃ f, k % 4503599627370496 = f := ⟨_, rfl⟩
    rw [hq, hf]
    refine ⟨?_, by simp only; omega, by simp only; omega, by simp only; omega⟩
    simp only
    have := vK_word (q - 1) (4503599627370496 + f) (.inr (by omega)) (by omega)
    rw [show (q - 1) * 4503599627370496 + (4503599627370496 + f) = k by omega] at this
    rw [this, Nat.mul_assoc, ← Nat.pow_add, show (-1074 + (q : Int) - 1 - B).toNat = q - 1 + (-1074 - B).toNat by omega]
theorem num64_len (k : Nat) : (ws (num64 k).1).length ≤ 8192 := len8 (by have := bl_le53 _ (num64_vK k (-1074) (Int.le_refl _)).2.1; omega)
theorem num64_step (k : Nat) : (num64 k).2 ≤ (num64 (k + 1)).2 ∧ (num64 (k + 1)).2 ≤ (num64 k).2 + 1 ∧ -1074 ≤ (num64 k).2 := by
  unfold num64
  by_cases h : k / 4503599627370496 = 0
  · rw [if_pos h]
    by_cases h' : (k + 1) / 4503599627370496 = 0
    · rw [if_pos h']; simp only; omega
    · rw [if_neg h']; simp only; omega
  · rw [if_neg h, if_neg (by omega)]
    simp only; omega
end Go.Proofs.Ythilnddhehbjiab

/- DyadRounds: the document's Nearby at 64 bits, of a form. -/
namespace Go.Proofs.Ythilnddhehbjiab
open Go.RowKit
set_option linter.unusedVariables false
set_option maxRecDepth 20000

theorem cmpZ_range (x y : Int) : cmpZ x y = -1 ∨ cmpZ x y = 0 ∨ cmpZ x y = 1 := by
  unfold cmpZ
  split
  · exact .inl rfl
  · split
    · exact .inr (.inr rfl)
    · exact .inr (.inl rfl)
theorem cmpZ_eq {x y : Int} : cmpZ x y = 0 ↔ x = y := by
  unfold cmpZ
  split
  · omega
  · split
    · omega
    · omega
theorem cmpZ_pos {x y : Int} : 0 < cmpZ x y ↔ y < x := by
  unfold cmpZ
  split
  · omega
  · split
    · omega
    · omega

/-- Where the search ends. -/
def endK (X : Nat) (e : Int) : Nat := if X = 0 then 0 else flK X e
/-- How the number there stands to the value. -/
def endZ (X : Nat) (e : Int) (k : Nat) : Int := agV (num64 k).1 (num64 k).2 X e
def endH (X : Nat) (e : Int) (k : Nat) : Int := agV (X * 2) e ((num64 k).1 + (num64 (k + 1)).1 * 2 ^ ((num64 (k + 1)).2 - (num64 k).2).toNat) (num64 k).2
theorem endZ_z (X : Nat) (e : Int) (he : -1048576 ≤ e) (k : Nat) : endZ X e k = cmpZ ((vK k * 2 ^ (-1074 - -1048576 : Int).toNat : Nat) : Int) ((X * 2 ^ (e - -1048576).toNat : Nat) : Int) := by
  have h := num64_vK k (-1048576) (by omega)
  unfold endZ
  rw [agV_z _ _ _ _ (-1048576) h.2.2.1 he, h.1]
theorem endH_z (X : Nat) (e : Int) (he : -1048576 ≤ e) (k : Nat) : endH X e k = cmpZ ((2 * (X * 2 ^ (e - -1048576).toNat) : Nat) : Int) ((vK k * 2 ^ (-1074 - -1048576 : Int).toNat + vK (k + 1) * 2 ^ (-1074 - -1048576 : Int).toNat : Nat) : Int) := by
  have h := num64_vK k (-1048576) (by omega)
  have h1 := num64_vK (k + 1) (-1048576) (by omega)
  have hs := num64_step k
  unfold endH
  rw [agV_z _ _ _ _ (-1048576) he h.2.2.1, ← h.1, ← h1.1, Nat.add_mul, Nat.mul_assoc (num64 (k + 1)).1, ← Nat.pow_add, show ((num64 (k + 1)).2 - (num64 k).2).toNat + ((num64 k).2 - -1048576).toNat = ((num64 (k + 1)).2 - -1048576).toNat by omega, Nat.mul_comm X 2, Nat.mul_assoc 2]
theorem end_uniq {n : Bool} {X : Nat} {e : Int} (F : Frm n X e) (k : Nat) (hk : k < 9218868437227405312) (h1 : k = 0 ∨ endZ X e k ≤ 0) (h2 : k + 1 = 9218868437227405312 ∨ 0 < endZ X e (k + 1)) : k = endK X e := by
  have a1 : vK k * 2 ^ (-1074 - -1048576 : Int).toNat ≤ X * 2 ^ (e - -1048576).toNat := by
    rcases h1 with rfl | h1
    · rw [show vK 0 = 0 from B.val_zero _, Nat.zero_mul]; exact Nat.zero_le _
    · rw [endZ_z X e F.down, cmpZ_le] at h1
      exact Int.ofNat_le.1 h1
  unfold endK
  by_cases hX : X = 0
  · rw [if_pos hX]
    rw [hX, Nat.zero_mul] at a1
    by_cases h0 : k = 0
    · exact h0
    · have := vS_lt (K := 0) (L := k) (Nat.two_pow_pos (-1074 - -1048576 : Int).toNat) (by omega)
      omega
  · rw [if_neg hX]
    have L := lies X e (frm_odd F hX) F.down F.up (-1048576) F.down (by omega)
    refine (L.doc k hk a1 ?_).1
    rcases h2 with h2 | h2
    · exact .inl h2
    · rw [endZ_z X e F.down, cmpZ_pos] at h2
      exact .inr (Int.ofNat_lt.1 h2)
theorem endK_lt {n : Bool} {X : Nat} {e : Int} (F : Frm n X e) : endK X e < 9218868437227405312 := by
  unfold endK
  split
  · omega
  · rename_i hX
    exact (lies X e (frm_odd F hX) F.down F.up (-1048576) F.down (by omega)).fin
theorem end_rW (mode : Int) {n : Bool} {X : Nat} {e : Int} (F : Frm n X e) : nbyD mode n (endK X e) (endZ X e (endK X e)) (endH X e (endK X e)) = rW mode n X e := by
  unfold nbyD rW
  rw [endZ_z X e F.down, endH_z X e F.down]
  by_cases hX : X = 0
  · rw [if_pos hX]
    have hk : endK X e = 0 := by unfold endK; rw [if_pos hX]
    rw [hk, if_pos]
    rw [cmpZ_eq, hX, show vK 0 = 0 from B.val_zero _, Nat.zero_mul, Nat.zero_mul]
  · rw [if_neg hX]
    have L := lies X e (frm_odd F hX) F.down F.up (-1048576) F.down (by omega)
    have hk : endK X e = flK X e := by unfold endK; rw [if_neg hX]
    rw [hk, rndK_eq]
    have hd := L.doc (flK X e) L.fin L.ge (by
      cases ht : (plc 53 (-1074) 1024 X e).2.2.1 with
      | true =>
        have := L.one ht
        right
        rw [this]
        exact vS_lt L.pos (by omega)
      | false =>
        rcases L.high ht with h | h
        · exact .inr h
        · exact .inl (by omega))
    unfold rK
    cases ht : (plc 53 (-1074) 1024 X e).2.2.1 with
    | true =>
      have := L.one ht
      rw [if_pos (cmpZ_eq.2 (by rw [this])), if_pos rfl]
    | false =>
      have h1 := L.low ht
      have h2 := hd.2.2 ht
      rw [if_neg (fun q => by have := Int.ofNat.inj (cmpZ_eq.1 q); omega), ← h2]
      rfl

theorem nearby64 {u : World} {p : Option Addr} {s : Nat} {n : Bool} {X : Nat} {e : Int} (A : Arg u p (ws X).length s (ws X)) (F : Frm n X e) (mode : Int) (hm0 : 0 ≤ mode) (hm4 : mode ≤ 4) :
    Calls Try.prog 77 #[.agg #[.int .i64 53, .int .i64 (-1074), .int .u64 9218868437227405312], .bool n, .slice p (ws X).length s, .int .i64 e, .int .i64 mode] u fun r w' => r = .returned (.int .u64 (rW mode n X e : Nat)) ∧ Below u.heap.size u w' := by
  have hd := F.down
  have hu := F.up
  have lX := frm_len F
  have hsz := F.size
  have hK := endK_lt F
  rw [← end_rW mode F]
  obtain ⟨K, hKK⟩ : ∃ K, endK X e = K := ⟨_, rfl⟩
  rw [hKK] at hK ⊢
  have b0 := num64_vK K (-1074) (Int.le_refl _)
  have b1 := num64_vK (K + 1) (-1074) (Int.le_refl _)
  have st := num64_step K
  have fr : (num64 K).2 ≤ 1000 := by unfold num64; split <;> simp only <;> omega
  have t2 : (ws (X * 2)).length ≤ 8193 := by
    rw [ws_len_bl]
    have h := bl_le (X := X * 2) (k := bl X + 1) (by have := bl_lt X; rw [Nat.pow_succ]; omega)
    omega
  have hMV : (num64 (K + 1)).1 * 2 ^ ((num64 (K + 1)).2 - (num64 K).2).toNat < 2 ^ 54 := by
    have hp : 2 ^ ((num64 (K + 1)).2 - (num64 K).2).toNat ≤ 2 := by
      have : ((num64 (K + 1)).2 - (num64 K).2).toNat ≤ 1 := by omega
      exact Nat.le_trans (Nat.pow_le_pow_right (by omega) this) (by omega)
    have := Nat.mul_le_mul_left (num64 (K + 1)).1 hp
    have := b1.2.1
    omega
  have lM := len8 (X := (num64 (K + 1)).1 * 2 ^ ((num64 (K + 1)).2 - (num64 K).2).toNat) (by have := bl_le hMV; omega)
  have lS := len8 (X := (num64 K).1 + (num64 (K + 1)).1 * 2 ^ ((num64 (K + 1)).2 - (num64 K).2).toNat) (by have := bl_le (X := (num64 K).1 + (num64 (K + 1)).1 * 2 ^ ((num64 (K + 1)).2 - (num64 K).2).toNat) (k := 55) (by have := b0.2.1; omega); omega)
  have hv3 : endH X e K = -1 ∨ endH X e K = 0 ∨ endH X e K = 1 := by rw [endH_z X e hd]; exact cmpZ_range _ _
  have HAg : ∀ (k : Nat) (v : World) (q : Option Addr) (t : Nat), k < 9218868437227405312 → Below u.heap.size u v → Arg v q (ws (num64 k).1).length t (ws (num64 k).1) → Calls Try.prog 70 #[.slice q (ws (num64 k).1).length t, .int .i64 (num64 k).2, .slice p (ws X).length s, .int .i64 e] v fun r w' => r = .returned (.int .i64 (endZ X e k)) ∧ Below v.heap.size v w' := fun k v q t hk hb hA => by
    have hl := num64_len k
    have hr : -1074 ≤ (num64 k).2 ∧ (num64 k).2 ≤ 1000 := by unfold num64; split <;> simp only <;> omega
    have := against_any hA (A.below hb) (by omega) (by omega) (num64 k).2 e (by omega) (by omega) (by omega) (by omega)
    rw [val_ws, val_ws] at this
    exact this
  refine nearby_core 53 (-1074) 9218868437227405312 n K e (num64 K).2 mode (num64 K).1 _ _ (num64_len K) (by omega) hm0 hm4 hv3 ?_ (hid fun v => rNumber64 K (by omega) v) (hid fun v q t hb hA => HAg K v q t hK hb hA) ?_
  · refine hid fun v hb => ?_
    refine (below_core 53 (-1074) 9218868437227405312 e (by omega) (by omega) num64 (endZ X e) num64_len (hid fun k v hk => rNumber64 k (by omega) v) (hid fun k v' q t hk hb' hA => HAg k v' q t hk (hb.trans (hb'.mono hb.size)) hA)).mono ?_
    rintro r w' ⟨⟨k, rfl, hk, h1, h2⟩, hb2⟩
    rw [end_uniq F k hk h1 h2, hKK]
    exact ⟨rfl, hb2⟩
  · refine hid fun v hb => ?_
    refine half_core 53 (-1074) 9218868437227405312 (K : Int) ((K + 1 : Nat) : Int) e (num64 K).2 (num64 (K + 1)).2 ((num64 (K + 1)).2 - (num64 K).2) (num64 K).1 (num64 (K + 1)).1 ((num64 (K + 1)).1 * 2 ^ ((num64 (K + 1)).2 - (num64 K).2).toNat) ((num64 K).1 + (num64 (K + 1)).1 * 2 ^ ((num64 (K + 1)).2 - (num64 K).2).toNat) (X * 2) (endH X e K) (num64_len K) (num64_len _) lM lS (by omega) ?_ (decide_eq_false (by omega)) ?_ (hid fun v => rNumber64 K (by omega) v) (hid fun v => rNumber64 (K + 1) (by omega) v) ?_ ?_ ?_ ?_
    · simp [IntKind.wrap, IntKind.bits, IntKind.signed]; omega
    · simp [IntKind.wrap, IntKind.bits, IntKind.signed]; omega
    · refine hid fun v' q t lo hN => ?_
      have := moved_any hN ((num64 (K + 1)).2 - (num64 K).2) (by omega) (by omega) (fun h => by have := b1.2.2.2.1 h; omega) (by have := num64_len (K + 1); omega)
      rw [if_neg (by omega)] at this
      exact this
    · exact hid fun v' q t q2 t2 h1 h2 => rPlus_arg h1 h2 (by have := num64_len K; omega) (by omega) (by rw [val_ws, val_ws])
    · exact hid fun v' q hb' hA => rTimes_arg (A.below (hb.trans (hb'.mono hb.size))) hA (by omega) (by rw [val_ws]; rfl)
    · refine hid fun v' q t q2 t3 h1 h2 => ?_
      have := against_any h1 h2 (by omega) (by omega) e (num64 K).2 (by omega) (by omega) (by omega) (by omega)
      rw [val_ws, val_ws] at this
      exact this
end Go.Proofs.Ythilnddhehbjiab

/- DyadRounds: the document's Round at 64 bits, whole. -/
namespace Go.Proofs.Ythilnddhehbjiab
open Go.RowKit
set_option linter.unusedVariables false
set_option maxRecDepth 20000

theorem rRound_any {w : World} {a : Option Addr} {l c : Nat} {xs : List Nat} (h1 : Arg w a l c xs) (hl : l ≤ 2000000) (n : Bool) (e mode : Int) (he0 : -9223372036854775808 ≤ e) (he1 : e ≤ 9223372036854775807) :
    Calls Try.prog 66 #[.agg #[.bool n, .slice a l c, .int .i64 e], .int .i64 mode] w fun r w' => r = .returned (.tuple #[.float .f64 (rndS (mkS n (val xs) e) mode).1, .int .i64 (rndS (mkS n (val xs) e) mode).2]) ∧ Below w.heap.size w w' := by
  have HM := hid fun u (hu : Below w.heap.size w u) => rMade_any (h1.below hu) hl n e he0 he1
  by_cases hm0 : mode < 0
  · have hr : rndS (mkS n (val xs) e) mode = (0, 1) := by unfold rndS; rw [if_pos (.inl hm0)]
    rw [hr]
    exact rRound_lo n e mode hm0
  · by_cases hm4 : 4 < mode
    · have hr : rndS (mkS n (val xs) e) mode = (0, 1) := by unfold rndS; rw [if_pos (.inr hm4)]
      rw [hr]
      exact rRound_hi n e mode (decide_eq_false hm0) hm4
    · have lX := mkS_len n (val xs) e
      cases ho : mkS n (val xs) e with
      | none =>
        rw [ho] at HM lX
        have hr : rndS none mode = (0, 2) := by unfold rndS; rw [if_neg (by omega)]
        rw [hr]
        exact rRound_no n e mode (dN none) (dE none) (dX none) (by omega) (by omega) lX HM
      | some x =>
        obtain ⟨nD, XD, eD⟩ := x
        have F := mkS_frm ho
        rw [ho] at HM lX
        rw [rndS_form mode nD XD eD (by omega) (by omega)]
        have hle := rW_le mode nD XD eD F
        have HB := hid fun (u : World) (p : Option Addr) (s : Nat) (hA : Arg u p (ws XD).length s (ws XD)) => nearby64 hA F mode (by omega) (by omega)
        cases nD with
        | false =>
          refine rRound_p n e mode eD XD _ _ 0 (by omega) (by omega) lX (by omega) ?_ HM (hid fun u => of64_any u) HB
          unfold wd64 rS
          split <;> simp
        | true =>
          have hX : XD ≠ 0 := fun h => by rcases F.odd with k | ⟨_, k, _⟩; omega; cases k
          refine rRound_n n e mode eD XD _ _ ((rW mode true XD eD : Nat) + 9223372036854775808) (by omega) (by omega) lX (by omega) ?_ ?_ HM (hid fun u => of64_any u) HB
          · simp [IntKind.wrap, IntKind.bits, IntKind.signed]; omega
          · unfold wd64 rS
            rw [if_neg hX, if_pos rfl]
            omega
end Go.Proofs.Ythilnddhehbjiab

/- The document's Plus, Minus, Times of any two numbers are the model's own steps. -/
namespace Go.Proofs.Ythilnddhehbjiab
open Go.RowKit J
set_option linter.unusedVariables false
set_option maxRecDepth 20000

theorem sg1_sg (s : Bool) (v : Nat) : sg1 s * (v : Int) = B.sg s v := by unfold sg1 B.sg; cases s <;> simp
theorem top_v (K : Nat) (hK : K < 9218868437227405312) (a : Nat) (ha : a = 2045) : vK K < 9007199254740992 * 2 ^ a := by
  have h := vK_word a 9007199254740992 (.inr (by omega)) (by omega)
  have h2 : a * 4503599627370496 + 9007199254740992 = 9218868437227405312 := by rw [ha]
  rw [← h, h2]
  exact vK_lt.2 hK
theorem blk {X m : Nat} (h : X < 2 ^ m) : bl X ≤ m := blLe h

/-- A number's form. -/
theorem of_fo (s : Bool) (K : Nat) (hK : K < 9218868437227405312) : ∃ n X e, ofK s K = some (n, X, e) ∧ Fo (some (n, X, e)) (B.sg s (vK K) * (UU : Int)) (-1074) 1024 ∧ (X = 0 ↔ K = 0) := by
  obtain ⟨n, X, e, h1, F, h2, h3, h4⟩ := ofK_val s K hK
  refine ⟨n, X, e, h1, ⟨n, X, e, rfl, F, ?_, ?_⟩, h3⟩
  · obtain ⟨a, ha⟩ : ∃ a : Nat, (-1074 - -2097152 : Int).toNat = a := ⟨_, rfl⟩
    have h5 := h4 (-2097152) (by omega)
    rw [ha] at h5
    rw [h5, US a (by omega), Int.natCast_mul, Int.natCast_mul, ← Int.mul_assoc, ← Int.mul_assoc, sg1_sg]
  · by_cases hX : X = 0
    · exact .inl hX
    · right
      have ho := frm_odd F hX
      have hd := F.down
      -- in units of the form's own place
      have h5 := h4 (min e (-1074)) (by omega)
      unfold zv at h5
      simp only at h5
      rw [h2 hX] at h5
      have h6 : X * 2 ^ (e - min e (-1074)).toNat = vK K * 2 ^ (-1074 - min e (-1074)).toNat := by
        unfold sg1 at h5
        cases s
        · simp only [Bool.false_eq_true, if_false, Int.one_mul] at h5; exact_mod_cast h5
        · simp only [if_true] at h5; have := Int.eq_of_mul_eq_mul_left (by decide) h5; exact_mod_cast this
      have he : -1074 ≤ e := by
        apply Int.le_of_not_gt; intro hlt
        rw [show (e - min e (-1074)).toNat = 0 by omega, Nat.pow_zero, Nat.mul_one] at h6
        obtain ⟨q, hq⟩ : ∃ q, (-1074 - min e (-1074)).toNat = q + 1 := ⟨(-1074 - min e (-1074)).toNat - 1, by omega⟩
        rw [hq, Nat.pow_succ, ← Nat.mul_assoc] at h6
        omega
      refine ⟨he, ?_⟩
      rw [show (-1074 - min e (-1074)).toNat = 0 by omega, Nat.pow_zero, Nat.mul_one] at h6
      obtain ⟨q, hq⟩ : ∃ q, (e - min e (-1074)).toNat = q := ⟨_, rfl⟩
      rw [hq] at h6
      obtain ⟨c, hc⟩ : ∃ c : Nat, c = 2045 := ⟨_, rfl⟩
      have h7 := top_v K hK c hc
      have h8 := bl_ge X hX
      have h9 := bl_pos X hX
      obtain ⟨b, hb⟩ : ∃ b, bl X = b + 1 := ⟨bl X - 1, by omega⟩
      rw [hb, Nat.add_sub_cancel] at h8
      have h10 : 2 ^ b * 2 ^ q < 9007199254740992 * 2 ^ c := Nat.lt_of_le_of_lt (Nat.mul_le_mul_right _ h8) (by rw [h6]; exact h7)
      rw [← Nat.pow_add, show (9007199254740992 : Nat) = 2 ^ 53 from rfl, ← Nat.pow_add] at h10
      have h11 := (Nat.pow_lt_pow_iff_right (by decide : 1 < 2)).1 h10
      omega

/-- A form's sign, and what it is rounded to. -/
theorem round_fo {n : Bool} {X : Nat} {e T L H : Int} (h : Fo (some (n, X, e)) T L H) (hT : T ≠ 0) : X ≠ 0 ∧ n = decide (T < 0) ∧ ∀ R, NE R T.natAbs UU → rW 0 n X e = min R 9218868437227405312 := by
  obtain ⟨F, hv, _⟩ := h.frm
  have hS := S_pos
  unfold zv at hv
  simp only at hv
  have hX : X ≠ 0 := by
    intro h0
    rw [h0, Nat.zero_mul] at hv
    have : T * (SS : Int) = 0 := by rw [← hv]; simp
    rcases Int.mul_eq_zero.1 this with h | h <;> omega
  obtain ⟨q, hq⟩ : ∃ q, X * 2 ^ (e - -2097152).toNat = q := ⟨_, rfl⟩
  have hq0 : 0 < q := by rw [← hq]; exact Nat.mul_pos (by omega) (Nat.two_pow_pos _)
  rw [hq] at hv
  have hab : q = T.natAbs * SS := by
    have := congrArg Int.natAbs hv
    rw [Int.natAbs_mul, Int.natAbs_mul, Int.natAbs_natCast, Int.natAbs_natCast] at this
    rw [← this]
    unfold sg1; cases n <;> simp
  refine ⟨hX, ?_, fun R hR => ?_⟩
  · have hTS : T < 0 → T * (SS : Int) < 0 := fun h => Int.mul_neg_of_neg_of_pos h (by omega)
    have hTP : 0 < T → 0 < T * (SS : Int) := fun h => Int.mul_pos h (by omega)
    unfold sg1 at hv
    cases n
    · simp only [Bool.false_eq_true, if_false, Int.one_mul] at hv
      rw [decide_eq_false (by intro h; have := hTS h; omega)]
    · simp only [if_true] at hv
      rw [decide_eq_true (by apply Int.lt_of_not_ge; intro h; have := hTP (by omega); omega)]
  · exact rW_ne F hX (-2097152) (by omega) (V := T.natAbs) (U := UU) (S := SS) (by rw [hq, hab]) (US _ (by omega)) hR

/-- Of, at a finite word. -/
theorem of_wd (s : Bool) (K : Nat) (hK : K < 9218868437227405312) {n : Bool} {X : Nat} {e : Int} (h : ofK s K = some (n, X, e)) (u : World) :
    Calls Try.prog 46 #[.float .f64 (wd64 s K)] u fun r w' => (∃ v, r = .returned (.tuple #[.agg #[.bool n, v, .int .i64 e], .int .i64 0]) ∧ Nt u.heap.size w' v X) ∧ Below u.heap.size u w' := by
  obtain ⟨a1, a2, a3, _, _⟩ := wd64_bw s K (by omega)
  rw [a1]
  refine (rOf3_any s _ _ a2 a3 u).mono ?_
  rintro r w' ⟨⟨v, hr, hN⟩, hb⟩
  have h' : ofR s (K / 4503599627370496) (K % 4503599627370496) = some (n, X, e) := h
  rw [h'] at hr hN
  refine ⟨⟨v, ?_, hN⟩, hb⟩
  rw [hr]
  unfold ofE
  rw [if_neg (by omega)]
  rfl
theorem frmLen {n : Bool} {X : Nat} {e : Int} (F : Frm n X e) : (ws X).length ≤ 8192 := by
  have := mkS_len n X e
  rw [mkS_idem F] at this
  exact this
theorem add_fm {n m : Bool} {X Y : Nat} {e f : Int} (F : Frm n X e) (G : Frm m Y f) {o : Option (Bool × Nat × Int)} (ho : addD (some (n, X, e)) (some (m, Y, f)) = o) (hs : o.isSome = true) (u : World) (a b : Option Addr) (c d : Nat) (A : Arg u a (ws X).length c (ws X)) (C : Arg u b (ws Y).length d (ws Y)) :
    Calls Try.prog 35 #[.agg #[.bool n, .slice a (ws X).length c, .int .i64 e], .agg #[.bool m, .slice b (ws Y).length d, .int .i64 f]] u fun r w' => (∃ v, r = .returned (.tuple #[.agg #[.bool (dN o), v, .int .i64 (dE o)], .int .i64 0]) ∧ Nt u.heap.size w' v (dX o)) ∧ Below u.heap.size u w' := by
  have l1 := frmLen F
  have l2 := frmLen G
  have := F.down; have := F.up; have := G.down; have := G.up
  refine (rAdd_any3 A C (by omega) (by omega) n m e f (by omega) (by omega) (by omega) (by omega)).mono ?_
  rintro r w' ⟨⟨v, hr, hN⟩, hb⟩
  rw [val_ws, val_ws, mkS_idem F, mkS_idem G, ho] at hr hN
  refine ⟨⟨v, ?_, hN⟩, hb⟩
  rw [hr]
  unfold erS
  rw [if_pos hs]
theorem mul_fm {n m : Bool} {X Y : Nat} {e f : Int} (F : Frm n X e) (G : Frm m Y f) {o : Option (Bool × Nat × Int)} (ho : mulD (some (n, X, e)) (some (m, Y, f)) = o) (hs : o.isSome = true) (u : World) (a b : Option Addr) (c d : Nat) (A : Arg u a (ws X).length c (ws X)) (C : Arg u b (ws Y).length d (ws Y)) :
    Calls Try.prog 36 #[.agg #[.bool n, .slice a (ws X).length c, .int .i64 e], .agg #[.bool m, .slice b (ws Y).length d, .int .i64 f]] u fun r w' => (∃ v, r = .returned (.tuple #[.agg #[.bool (dN o), v, .int .i64 (dE o)], .int .i64 0]) ∧ Nt u.heap.size w' v (dX o)) ∧ Below u.heap.size u w' := by
  have l1 := frmLen F
  have l2 := frmLen G
  have := F.down; have := F.up; have := G.down; have := G.up
  refine (rMul_any3 A C (by omega) (by omega) n m e f (by omega) (by omega) (by omega) (by omega)).mono ?_
  rintro r w' ⟨⟨v, hr, hN⟩, hb⟩
  rw [val_ws, val_ws, mkS_idem F, mkS_idem G, ho] at hr hN
  refine ⟨⟨v, ?_, hN⟩, hb⟩
  rw [hr]
  unfold erS
  rw [if_pos hs]
theorem round_fm {n : Bool} {X : Nat} {e : Int} (F : Frm n X e) {z : Nat} (hz : wd64 (rS n X) (rW 0 n X e) = z) (u : World) (a : Option Addr) (c : Nat) (A : Arg u a (ws X).length c (ws X)) :
    Calls Try.prog 66 #[.agg #[.bool n, .slice a (ws X).length c, .int .i64 e], .int .i64 0] u fun r w' => r = .returned (.tuple #[.float .f64 z, .int .i64 0]) ∧ Below u.heap.size u w' := by
  have l1 := frmLen F
  have := F.down; have := F.up
  have h := rRound_any A (by omega) n e 0 (by omega) (by omega)
  rw [val_ws, mkS_idem F, rndS_form 0 n X e (by omega) (by omega), hz] at h
  exact h

/-- What a word is: a NaN, an infinity, or finite. -/
theorem kinds (x : Nat) (hx : x < 18446744073709551616) : (nanW x = true ∧ (magW x == 9218868437227405312) = false ∧ (magW x == 0) = false ∧ 9218868437227405312 < magW x) ∨ (nanW x = false ∧ (magW x == 9218868437227405312) = true ∧ (magW x == 0) = false ∧ magW x = 9218868437227405312) ∨ (nanW x = false ∧ (magW x == 9218868437227405312) = false ∧ magW x < 9218868437227405312) := by
  have e : nanW x = decide (9218868437227405312 < magW x) := rfl
  rcases Nat.lt_trichotomy (magW x) 9218868437227405312 with h | h | h
  · refine .inr (.inr ⟨?_, ?_, h⟩)
    · rw [e]; simp; omega
    · simp; omega
  · refine .inr (.inl ⟨?_, ?_, ?_, h⟩)
    · rw [e]; simp; omega
    · simp; omega
    · simp; omega
  · refine .inl ⟨?_, ?_, ?_, h⟩
    · rw [e]; simp; omega
    · simp; omega
    · simp; omega
theorem read_nanW (x : Nat) (h : 9218868437227405312 < magW x) : ∃ s t, Ieee.double.read x = .nan s t := ⟨_, _, B.read_nan Ieee.double x (by rw [B.dInf, B.dSign]; exact h) hBin⟩
theorem read_infW (x : Nat) (hx : x < 18446744073709551616) (h : magW x = 9218868437227405312) : Ieee.double.read x = .infinity (negW x) := by
  have e := wd_of x hx
  rw [h, wd_word, ← B.dInf] at e
  rw [e, B.read_inf Ieee.double _ hInf hBin, ← e]
theorem read_finW (x : Nat) (hx : x < 18446744073709551616) (h : magW x < 9218868437227405312) : ∃ m k, Ieee.double.read x = .number (negW x) m (Ieee.double.leastPlace + (k : Nat)) ∧ m * 2 ^ k = vK (magW x) := by
  have e := wd_of x hx
  rw [wd_word] at e
  obtain ⟨m, k, h1, h2⟩ := B.read_word Ieee.double (negW x) (magW x) (by rw [B.dInf]; exact h) hInf
  rw [← e] at h1
  exact ⟨m, k, h1, h2⟩
theorem write_infW (s : Bool) : Ieee.double.write (.infinity s) = wd64 s 9218868437227405312 := by
  rw [wd_word, ← B.dInf]; rfl
end Go.Proofs.Ythilnddhehbjiab

/- The document's Plus, Minus, Times: whole. -/
namespace Go.Proofs.Ythilnddhehbjiab
open Go.RowKit J
set_option linter.unusedVariables false
set_option maxRecDepth 20000
set_option linter.unusedSimpArgs false

theorem arW_add (x y : Nat) : arW .add x y = (((Ieee.double.read x).sum (Ieee.double.read y)).map Ieee.double.write).getD oddW := rfl
theorem arW_sub (x y : Nat) : arW .sub x y = (((Ieee.double.read x).sum (Ieee.double.read y).opposite).map Ieee.double.write).getD oddW := rfl
theorem arW_mul (x y : Nat) : arW .mul x y = (((Ieee.double.read x).product (Ieee.double.read y)).map Ieee.double.write).getD oddW := rfl

theorem sPlus_any (x y : Nat) (hx : x < 18446744073709551616) (hy : y < 18446744073709551616) (w : World) :
    Calls Try.prog 43 #[.float .f64 x, .float .f64 y] w fun r w' => r = .returned (.float .f64 (arW .add x y)) ∧ Below w.heap.size w w' := by
  have P1 := fun u => rIsOdd_any x hx u
  have P2 := fun u => rIsOdd_any y hy u
  have P3 := fun u => rIsEndless_any x hx u
  have P4 := fun u => rIsEndless_any y hy u
  have P5 := fun u => rNegW_any x hx u
  have P6 := fun u => rNegW_any y hy u
  rcases kinds x hx with ⟨a1, a2, a3, a4⟩ | ⟨a1, a2, a3, a4⟩ | ⟨a1, a2, a4⟩
  · obtain ⟨s, t, hr⟩ := read_nanW x a4
    have e : arW .add x y = oddW := by rw [arW_add, hr]; rfl
    rw [e]
    rcases kinds y hy with ⟨b1, b2, b3, b4⟩ | ⟨b1, b2, b3, b4⟩ | ⟨b1, b2, b4⟩ <;> simp only [a1, a2, b1, b2] at P1 P2 P3 P4
    · exact rPlus_ttff x y w (hid P1) (hid P2) (hid P3) (hid P4)
    · exact rPlus_tfft x y w (hid P1) (hid P2) (hid P3) (hid P4)
    · exact rPlus_tfff x y w (hid P1) (hid P2) (hid P3) (hid P4)
  · have hr := read_infW x hx a4
    rcases kinds y hy with ⟨b1, b2, b3, b4⟩ | ⟨b1, b2, b3, b4⟩ | ⟨b1, b2, b4⟩ <;> simp only [a1, a2, b1, b2] at P1 P2 P3 P4
    · obtain ⟨s, t, hr2⟩ := read_nanW y b4
      have e : arW .add x y = oddW := by rw [arW_add, hr, hr2]; rfl
      rw [e]
      exact rPlus_fttf x y w (hid P1) (hid P2) (hid P3) (hid P4)
    · have hr2 := read_infW y hy b4
      have e : arW .add x y = if negW x = negW y then x else oddW := by
        rw [arW_add, hr, hr2]
        unfold Ieee.Datum.sum
        simp only
        split
        · rw [Option.map_some, write_infW, ← a4, ← wd_of x hx]; rfl
        · rfl
      rw [e]
      cases hn : negW x <;> cases hm : negW y <;> simp only [hn, hm] at P5 P6
      · rw [if_pos rfl]; exact rPlus_fftt_ff x y w (hid P1) (hid P2) (hid P3) (hid P4) (hid P5) (hid P6)
      · rw [if_neg (by simp)]; exact rPlus_fftt_ft x y w (hid P1) (hid P2) (hid P3) (hid P4) (hid P5) (hid P6)
      · rw [if_neg (by simp)]; exact rPlus_fftt_tf x y w (hid P1) (hid P2) (hid P3) (hid P4) (hid P5) (hid P6)
      · rw [if_pos rfl]; exact rPlus_fftt_tt x y w (hid P1) (hid P2) (hid P3) (hid P4) (hid P5) (hid P6)
    · obtain ⟨m, k, hr2, _⟩ := read_finW y hy b4
      have e : arW .add x y = x := by
        rw [arW_add, hr, hr2]
        show Ieee.double.write (.infinity (negW x)) = x
        rw [write_infW, ← a4, ← wd_of x hx]
      rw [e]
      exact rPlus_fftf x y w (hid P1) (hid P2) (hid P3) (hid P4)
  · rcases kinds y hy with ⟨b1, b2, b3, b4⟩ | ⟨b1, b2, b3, b4⟩ | ⟨b1, b2, b4⟩ <;> simp only [a1, a2, b1, b2] at P1 P2 P3 P4
    · obtain ⟨s, t, hr2⟩ := read_nanW y b4
      obtain ⟨m, k, hr, _⟩ := read_finW x hx a4
      have e : arW .add x y = oddW := by rw [arW_add, hr, hr2]; rfl
      rw [e]
      exact rPlus_ftff x y w (hid P1) (hid P2) (hid P3) (hid P4)
    · obtain ⟨m, k, hr, _⟩ := read_finW x hx a4
      have hr2 := read_infW y hy b4
      have e : arW .add x y = y := by
        rw [arW_add, hr, hr2]
        show Ieee.double.write (.infinity (negW y)) = y
        rw [write_infW, ← b4, ← wd_of y hy]
      rw [e]
      exact rPlus_ffft x y w (hid P1) (hid P2) (hid P3) (hid P4)
    · have ex := wd_of x hx
      have ey := wd_of y hy
      obtain ⟨nX, X, eX, o1, F1, _⟩ := of_fo (negW x) (magW x) a4
      obtain ⟨nY, Y, eY, o2, F2, _⟩ := of_fo (negW y) (magW y) b4
      have FA := F1.add F2 (by omega) (by omega) (by omega)
      obtain ⟨R, hR, hA⟩ := add_wd (negW x) (negW y) (magW x) (magW y) a4 b4
      rw [← ex, ← ey] at hA
      obtain ⟨T, hT⟩ : ∃ T, B.sg (negW x) (vK (magW x)) + B.sg (negW y) (vK (magW y)) = T := ⟨_, rfl⟩
      rw [← Int.add_mul, hT] at FA
      rw [hT] at hR hA
      obtain ⟨nS, S, eS, hS, _⟩ := FA.ex
      have HA := hid fun u a b c d A C => add_fm F1.frm.1 F2.frm.1 hS rfl u a b c d A C
      have HX := hid fun u => of_wd (negW x) (magW x) a4 o1 u
      have HY := hid fun u => of_wd (negW y) (magW y) b4 o2 u
      rw [hS] at FA
      rw [← ex] at HX
      rw [← ey] at HY
      have e : arW .add x y = wd64 (if T = 0 then negW x && negW y else decide (T < 0)) (min R 9218868437227405312) := by
        show (Ieee.double.add x y).getD oddW = _
        rw [hA]; rfl
      rw [e]
      by_cases h0 : T = 0
      · have hR0 : R = 0 := by
          have : NE 0 T.natAbs 1 := NEf.own (by decide) (by rw [h0, B.val_zero]; rfl)
          exact hR.one this (by decide)
        have hS0 : S = 0 := by
          have hv := FA.frm.2.1
          rw [h0, Int.zero_mul, Int.zero_mul] at hv
          unfold zv at hv
          simp only at hv
          rcases Int.mul_eq_zero.1 hv with h | h
          · unfold sg1 at h; cases nS <;> exact absurd h (by decide)
          · have h2 : S * 2 ^ (eS - -2097152).toNat = 0 := Int.ofNat_eq_zero.1 h
            rcases Nat.mul_eq_zero.1 h2 with h3 | h3
            · exact h3
            · have := Nat.two_pow_pos (eS - -2097152).toNat; omega
        rw [if_pos h0, hR0, Nat.zero_min]
        exact rPlus_zero x y _ (negW x) (negW y) nX nY nS X Y S eX eY eS w (frmLen F1.frm.1) (frmLen F2.frm.1) (frmLen FA.frm.1) (by rw [hS0, ws_zero]; rfl) (hid P1) (hid P2) (hid P3) (hid P4) HX HY HA (hid P5) (hid P6) (hid fun u => rsigned_any 0 (by decide) (negW x && negW y) u)
      · have hTU : T * (UU : Int) ≠ 0 := by
          intro h
          have := U_pos
          rcases Int.mul_eq_zero.1 h with h | h <;> omega
        obtain ⟨k1, k2, k3⟩ := round_fo FA hTU
        have hUp := U_pos
        have k4 := k3 R (by
          have := hR.scale UU U_pos
          rw [Nat.one_mul] at this
          rw [Int.natAbs_mul, Int.natAbs_natCast]; exact this)
        have k5 : decide (T * (UU : Int) < 0) = decide (T < 0) := by
          rw [decide_eq_decide]
          constructor
          · intro h; apply Int.lt_of_not_ge; intro h2; have := Int.mul_nonneg h2 (show (0 : Int) ≤ UU by omega); omega
          · intro h; exact Int.mul_neg_of_neg_of_pos h (by omega)
        have hz : wd64 (rS nS S) (rW 0 nS S eS) = wd64 (decide (T < 0)) (min R 9218868437227405312) := by
          unfold rS
          rw [if_neg k1, k4, k2, k5]
        rw [if_neg h0]
        exact rPlus_num x y _ (negW x) (negW y) nX nY nS X Y S eX eY eS w (frmLen F1.frm.1) (frmLen F2.frm.1) (frmLen FA.frm.1) (len_ne k1) (hid P1) (hid P2) (hid P3) (hid P4) HX HY HA (hid fun u a c A => round_fm FA.frm.1 hz u a c A)

theorem turn_wd (s : Bool) (K : Nat) (h : K < 9223372036854775808) : turnW (wd64 s K) = wd64 (!s) K := by
  unfold turnW wd64
  cases s <;> simp <;> omega
theorem turn_lt (y : Nat) (hy : y < 18446744073709551616) : turnW y < 18446744073709551616 := by unfold turnW; split <;> omega
theorem readOpp (f : Ieee.Format) (hs : f.infRung < f.signWeight) (t : Bool) (u : Nat) (hu : u < f.infRung) : (f.read (f.word t u)).opposite = f.read (f.word (!t) u) := by
  have key : ∀ b : Bool, (f.word b u / f.signWeight % 2 == 1) = b ∧ f.word b u % f.signWeight = u := by
    intro b
    unfold Ieee.Format.word
    cases b
    · simp only [Bool.false_eq_true, if_false]
      rw [Nat.div_eq_of_lt (by omega)]; exact ⟨rfl, Nat.mod_eq_of_lt (by omega)⟩
    · simp only [if_true]
      rw [Nat.add_div_left _ (by omega), Nat.div_eq_of_lt (by omega), Nat.add_mod_left]; exact ⟨rfl, Nat.mod_eq_of_lt (by omega)⟩
  unfold Ieee.Format.read
  simp only [(key t).1, (key t).2, (key (!t)).1, (key (!t)).2]
  by_cases h : u < f.binade
  · rw [if_pos h, if_pos h]; rfl
  · rw [if_neg h, if_neg h, if_pos hu, if_pos hu]; rfl

theorem sub_turn (x y : Nat) (hy : y < 18446744073709551616) : arW .sub x y = arW .add x (turnW y) := by
  rw [arW_sub, arW_add]
  have ey := wd_of y hy
  have hm : magW y < 9223372036854775808 := Nat.mod_lt _ (by decide)
  have et : turnW y = wd64 (!negW y) (magW y) := by rw [← turn_wd _ _ hm, ← ey]
  obtain ⟨m1, m2, m3⟩ := magW_wd (!negW y) (magW y) hm
  rcases kinds y hy with ⟨b1, b2, b3, b4⟩ | ⟨b1, b2, b3, b4⟩ | ⟨b1, b2, b4⟩
  · obtain ⟨s, t, hr⟩ := read_nanW y b4
    obtain ⟨s2, t2, hr2⟩ := read_nanW (turnW y) (by rw [et, m1]; exact b4)
    rw [hr, hr2]
    cases Ieee.double.read x <;> rfl
  · have hr := read_infW y hy b4
    have hr2 := read_infW (turnW y) (turn_lt y hy) (by rw [et, m1]; exact b4)
    rw [hr, hr2, et, m2]
    rfl
  · have hr := readOpp Ieee.double hInf (negW y) (magW y) (by rw [B.dInf]; exact b4)
    rw [← wd_word, ← ey, ← wd_word, ← et] at hr
    rw [hr]
set_option maxHeartbeats 1000000 in
theorem sMinus_core (x y t z : Nat) (w : World) (H1 : Hid (∀ u, Calls Try.prog 10 #[.float .f64 y] u fun r w' => r = .returned (.float .f64 t) ∧ w' = u)) (H2 : Hid (∀ u, Calls Try.prog 43 #[.float .f64 x, .float .f64 t] u fun r w' => r = .returned (.float .f64 z) ∧ Below u.heap.size u w')) :
    Calls Try.prog 44 #[.float .f64 x, .float .f64 y] w fun r w' => r = .returned (.float .f64 z) ∧ Below w.heap.size w w' := by
  go_enter Try.func44, Try.ntmps44
  go_wp2_with fail
  refine (Calls.mono (H1.out _)) ?_
  rintro r wx ⟨rfl, hw⟩
  rw [hw]
  clear hw wx H1
  go_wp2_with fail
  refine (Calls.mono (H2.out _)) ?_
  rintro r w1 ⟨rfl, hb⟩
  clear H2
  go_wp2
  exact bodyPost_ret (v := .float .f64 z) (by simp [results, Try.results44, go_sem]) rfl ⟨rfl, hb⟩
theorem sMinus_any (x y : Nat) (hx : x < 18446744073709551616) (hy : y < 18446744073709551616) (w : World) :
    Calls Try.prog 44 #[.float .f64 x, .float .f64 y] w fun r w' => r = .returned (.float .f64 (arW .sub x y)) ∧ Below w.heap.size w w' := by
  rw [sub_turn x y hy]
  exact sMinus_core x y (turnW y) _ w (hid fun u => rTurned_any y hy u) (hid fun u => sPlus_any x (turnW y) hx (turn_lt y hy) u)
end Go.Proofs.Ythilnddhehbjiab

/- The document's Times: whole. -/
namespace Go.Proofs.Ythilnddhehbjiab
open Go.RowKit J
set_option linter.unusedVariables false
set_option maxRecDepth 20000
set_option linter.unusedSimpArgs false

theorem absSg (s : Bool) (v : Nat) : (B.sg s v).natAbs = v := by unfold B.sg; cases s <;> simp
theorem sTimes_any (x y : Nat) (hx : x < 18446744073709551616) (hy : y < 18446744073709551616) (w : World) :
    Calls Try.prog 45 #[.float .f64 x, .float .f64 y] w fun r w' => r = .returned (.float .f64 (arW .mul x y)) ∧ Below w.heap.size w w' := by
  have P1 := fun u => rNegW_any x hx u
  have P2 := fun u => rNegW_any y hy u
  have P3 := fun u => rIsOdd_any x hx u
  have P4 := fun u => rIsOdd_any y hy u
  have P5 := fun u => rIsEndless_any x hx u
  have P6 := fun u => rIsEndless_any y hy u
  have P7 := fun u => rIsNought_any x hx u
  have P8 := fun u => rIsNought_any y hy u
  have bx : ∀ a b : Bool, (a ^^ b) = (a != b) := by intro a b; cases a <;> cases b <;> rfl
  have kx : ((nanW x = true ∧ (magW x == 9218868437227405312) = false ∧ (magW x == 0) = false) ∧ 9218868437227405312 < magW x) ∨ ((nanW x = false ∧ (magW x == 9218868437227405312) = true ∧ (magW x == 0) = false) ∧ magW x = 9218868437227405312) ∨ ((nanW x = false ∧ (magW x == 9218868437227405312) = false ∧ (magW x == 0) = true) ∧ magW x = 0) ∨ ((nanW x = false ∧ (magW x == 9218868437227405312) = false ∧ (magW x == 0) = false) ∧ magW x < 9218868437227405312 ∧ magW x ≠ 0) := by
    rcases kinds x hx with ⟨a1, a2, a3, a4⟩ | ⟨a1, a2, a3, a4⟩ | ⟨a1, a2, a4⟩
    · exact .inl ⟨⟨a1, a2, a3⟩, a4⟩
    · exact .inr (.inl ⟨⟨a1, a2, a3⟩, a4⟩)
    · by_cases h0 : magW x = 0
      · exact .inr (.inr (.inl ⟨⟨a1, a2, by simp [h0]⟩, h0⟩))
      · exact .inr (.inr (.inr ⟨⟨a1, a2, by simp [h0]⟩, a4, h0⟩))
  have ky : ((nanW y = true ∧ (magW y == 9218868437227405312) = false ∧ (magW y == 0) = false) ∧ 9218868437227405312 < magW y) ∨ ((nanW y = false ∧ (magW y == 9218868437227405312) = true ∧ (magW y == 0) = false) ∧ magW y = 9218868437227405312) ∨ ((nanW y = false ∧ (magW y == 9218868437227405312) = false ∧ (magW y == 0) = true) ∧ magW y = 0) ∨ ((nanW y = false ∧ (magW y == 9218868437227405312) = false ∧ (magW y == 0) = false) ∧ magW y < 9218868437227405312 ∧ magW y ≠ 0) := by
    rcases kinds y hy with ⟨a1, a2, a3, a4⟩ | ⟨a1, a2, a3, a4⟩ | ⟨a1, a2, a4⟩
    · exact .inl ⟨⟨a1, a2, a3⟩, a4⟩
    · exact .inr (.inl ⟨⟨a1, a2, a3⟩, a4⟩)
    · by_cases h0 : magW y = 0
      · exact .inr (.inr (.inl ⟨⟨a1, a2, by simp [h0]⟩, h0⟩))
      · exact .inr (.inr (.inr ⟨⟨a1, a2, by simp [h0]⟩, a4, h0⟩))
  -- numbers: mantissas
  have nz : ∀ m k K : Nat, m * 2 ^ k = vK K → (m = 0 ↔ K = 0) := by
    intro m k K h
    constructor
    · intro h0
      rw [h0, Nat.zero_mul] at h
      apply Nat.eq_zero_of_not_pos; intro hp
      have : vK 0 < vK K := vK_lt.2 hp
      rw [show vK 0 = 0 from B.val_zero _] at this
      omega
    · intro h0
      rw [h0, show vK 0 = 0 from B.val_zero _] at h
      rcases Nat.mul_eq_zero.1 h with h | h
      · exact h
      · have := Nat.two_pow_pos k; omega
  rcases kx with ⟨⟨a1, a2, a3⟩, a4⟩ | ⟨⟨a1, a2, a3⟩, a4⟩ | ⟨⟨a1, a2, a3⟩, a4⟩ | ⟨⟨a1, a2, a3⟩, a4, a5⟩ <;> rcases ky with ⟨⟨b1, b2, b3⟩, b4⟩ | ⟨⟨b1, b2, b3⟩, b4⟩ | ⟨⟨b1, b2, b3⟩, b4⟩ | ⟨⟨b1, b2, b3⟩, b4, b5⟩ <;> simp only [a1, a2, a3, b1, b2, b3] at P3 P4 P5 P6 P7 P8
  · obtain ⟨sx, tx, qx⟩ := read_nanW x a4
    obtain ⟨sy, ty, qy⟩ := read_nanW y b4
    have e : arW .mul x y = oddW := by rw [arW_mul, qx, qy]; rfl
    rw [e]
    exact rTimes_nn x y (negW x) (negW y) w (hid P1) (hid P2) (hid P3) (hid P4) (hid P5) (hid P6) (hid P7) (hid P8)
  · obtain ⟨sx, tx, qx⟩ := read_nanW x a4
    have qy := read_infW y hy b4
    have e : arW .mul x y = oddW := by rw [arW_mul, qx, qy]; rfl
    rw [e]
    exact rTimes_ni x y (negW x) (negW y) w (hid P1) (hid P2) (hid P3) (hid P4) (hid P5) (hid P6) (hid P7) (hid P8)
  · obtain ⟨sx, tx, qx⟩ := read_nanW x a4
    obtain ⟨my, ky, qy, vy⟩ := read_finW y hy (by omega)
    have e : arW .mul x y = oddW := by rw [arW_mul, qx, qy]; rfl
    rw [e]
    exact rTimes_nz x y (negW x) (negW y) w (hid P1) (hid P2) (hid P3) (hid P4) (hid P5) (hid P6) (hid P7) (hid P8)
  · obtain ⟨sx, tx, qx⟩ := read_nanW x a4
    obtain ⟨my, ky, qy, vy⟩ := read_finW y hy b4
    have e : arW .mul x y = oddW := by rw [arW_mul, qx, qy]; rfl
    rw [e]
    exact rTimes_nf x y (negW x) (negW y) w (hid P1) (hid P2) (hid P3) (hid P4) (hid P5) (hid P6) (hid P7) (hid P8)
  · have qx := read_infW x hx a4
    obtain ⟨sy, ty, qy⟩ := read_nanW y b4
    have e : arW .mul x y = oddW := by rw [arW_mul, qx, qy]; rfl
    rw [e]
    exact rTimes_in x y (negW x) (negW y) w (hid P1) (hid P2) (hid P3) (hid P4) (hid P5) (hid P6) (hid P7) (hid P8)
  · have qx := read_infW x hx a4
    have qy := read_infW y hy b4
    have e : arW .mul x y = wd64 (negW x != negW y) 9218868437227405312 := by
      rw [arW_mul, qx, qy]
      show Ieee.double.write (.infinity (negW x ^^ negW y)) = _
      rw [write_infW, bx]
    rw [e]
    exact rTimes_ii x y (negW x) (negW y) w (hid P1) (hid P2) (hid P3) (hid P4) (hid P5) (hid P6) (hid P7) (hid P8)
  · have qx := read_infW x hx a4
    obtain ⟨my, ky, qy, vy⟩ := read_finW y hy (by omega)
    have e : arW .mul x y = oddW := by
      rw [arW_mul, qx, qy]
      unfold Ieee.Datum.product
      simp only
      rw [if_pos ((nz my ky _ vy).2 b4)]; rfl
    rw [e]
    exact rTimes_iz x y (negW x) (negW y) w (hid P1) (hid P2) (hid P3) (hid P4) (hid P5) (hid P6) (hid P7) (hid P8)
  · have qx := read_infW x hx a4
    obtain ⟨my, ky, qy, vy⟩ := read_finW y hy b4
    have e : arW .mul x y = wd64 (negW x != negW y) 9218868437227405312 := by
      rw [arW_mul, qx, qy]
      unfold Ieee.Datum.product
      simp only
      rw [if_neg (fun h => b5 ((nz my ky _ vy).1 h))]
      show Ieee.double.write (.infinity (negW x ^^ negW y)) = _
      rw [write_infW, bx]
    rw [e]
    exact rTimes_if x y (negW x) (negW y) w (hid P1) (hid P2) (hid P3) (hid P4) (hid P5) (hid P6) (hid P7) (hid P8)
  · obtain ⟨mx, kx, qx, vx⟩ := read_finW x hx (by omega)
    obtain ⟨sy, ty, qy⟩ := read_nanW y b4
    have e : arW .mul x y = oddW := by rw [arW_mul, qx, qy]; rfl
    rw [e]
    exact rTimes_zn x y (negW x) (negW y) w (hid P1) (hid P2) (hid P3) (hid P4) (hid P5) (hid P6) (hid P7) (hid P8)
  · obtain ⟨mx, kx, qx, vx⟩ := read_finW x hx (by omega)
    have qy := read_infW y hy b4
    have e : arW .mul x y = oddW := by
      rw [arW_mul, qx, qy]
      unfold Ieee.Datum.product
      simp only
      rw [if_pos ((nz mx kx _ vx).2 a4)]; rfl
    rw [e]
    exact rTimes_zi x y (negW x) (negW y) w (hid P1) (hid P2) (hid P3) (hid P4) (hid P5) (hid P6) (hid P7) (hid P8)
  · obtain ⟨mx, kx, qx, vx⟩ := read_finW x hx (by omega)
    obtain ⟨my, ky, qy, vy⟩ := read_finW y hy (by omega)
    have e : arW .mul x y = wd64 (negW x != negW y) 0 := by
      rw [arW_mul, qx, qy]
      show Ieee.double.nearest (negW x ^^ negW y) (mx * my) _ = _
      unfold Ieee.Format.nearest
      rw [if_pos (by rw [(nz mx kx _ vx).2 a4]; exact Nat.zero_mul _), bx, wd_word]
    rw [e]
    exact rTimes_zz x y (negW x) (negW y) w (hid P1) (hid P2) (hid P3) (hid P4) (hid P5) (hid P6) (hid P7) (hid P8)
  · obtain ⟨mx, kx, qx, vx⟩ := read_finW x hx (by omega)
    obtain ⟨my, ky, qy, vy⟩ := read_finW y hy b4
    have e : arW .mul x y = wd64 (negW x != negW y) 0 := by
      rw [arW_mul, qx, qy]
      show Ieee.double.nearest (negW x ^^ negW y) (mx * my) _ = _
      unfold Ieee.Format.nearest
      rw [if_pos (by rw [(nz mx kx _ vx).2 a4]; exact Nat.zero_mul _), bx, wd_word]
    rw [e]
    exact rTimes_zf x y (negW x) (negW y) w (hid P1) (hid P2) (hid P3) (hid P4) (hid P5) (hid P6) (hid P7) (hid P8)
  · obtain ⟨mx, kx, qx, vx⟩ := read_finW x hx a4
    obtain ⟨sy, ty, qy⟩ := read_nanW y b4
    have e : arW .mul x y = oddW := by rw [arW_mul, qx, qy]; rfl
    rw [e]
    exact rTimes_fn x y (negW x) (negW y) w (hid P1) (hid P2) (hid P3) (hid P4) (hid P5) (hid P6) (hid P7) (hid P8)
  · obtain ⟨mx, kx, qx, vx⟩ := read_finW x hx a4
    have qy := read_infW y hy b4
    have e : arW .mul x y = wd64 (negW x != negW y) 9218868437227405312 := by
      rw [arW_mul, qx, qy]
      unfold Ieee.Datum.product
      simp only
      rw [if_neg (fun h => a5 ((nz mx kx _ vx).1 h))]
      show Ieee.double.write (.infinity (negW y ^^ negW x)) = _
      rw [write_infW, bx, show (negW y != negW x) = (negW x != negW y) by cases negW x <;> cases negW y <;> rfl]
    rw [e]
    exact rTimes_fi x y (negW x) (negW y) w (hid P1) (hid P2) (hid P3) (hid P4) (hid P5) (hid P6) (hid P7) (hid P8)
  · obtain ⟨mx, kx, qx, vx⟩ := read_finW x hx a4
    obtain ⟨my, ky, qy, vy⟩ := read_finW y hy (by omega)
    have e : arW .mul x y = wd64 (negW x != negW y) 0 := by
      rw [arW_mul, qx, qy]
      show Ieee.double.nearest (negW x ^^ negW y) (mx * my) _ = _
      unfold Ieee.Format.nearest
      rw [if_pos (by rw [(nz my ky _ vy).2 b4]; exact Nat.mul_zero _), bx, wd_word]
    rw [e]
    exact rTimes_fz x y (negW x) (negW y) w (hid P1) (hid P2) (hid P3) (hid P4) (hid P5) (hid P6) (hid P7) (hid P8)
  · have ex := wd_of x hx
    have ey := wd_of y hy
    obtain ⟨nX, X, eX, o1, F1, _⟩ := of_fo (negW x) (magW x) a4
    obtain ⟨nY, Y, eY, o2, F2, _⟩ := of_fo (negW y) (magW y) b4
    have FA := F1.mul F2 (by omega) (by omega) (by omega)
    obtain ⟨R, hR, hA⟩ := mul_wd EU rfl (negW x) (negW y) (magW x) (magW y) a4 b4
    rw [← ex, ← ey] at hA
    rw [← U_eq] at hR
    obtain ⟨T, hT⟩ : ∃ T, B.sg (negW x) (vK (magW x)) * B.sg (negW y) (vK (magW y)) = T := ⟨_, rfl⟩
    rw [hT] at FA
    have hTa : T.natAbs = vK (magW x) * vK (magW y) := by rw [← hT, Int.natAbs_mul, absSg, absSg]
    have p1 : 0 < vK (magW x) := by have : vK 0 < vK (magW x) := vK_lt.2 (by omega); rw [show vK 0 = 0 from B.val_zero _] at this; exact this
    have p2 : 0 < vK (magW y) := by have : vK 0 < vK (magW y) := vK_lt.2 (by omega); rw [show vK 0 = 0 from B.val_zero _] at this; exact this
    have p3 := Nat.mul_pos p1 p2
    have hTn : T ≠ 0 := by intro h; rw [h] at hTa; simp at hTa; omega
    have hsg : decide (T < 0) = (negW x != negW y) := by
      have q : (0 : Int) < (vK (magW x) : Int) * (vK (magW y) : Int) := by rw [← Int.natCast_mul]; omega
      rw [← hT]
      unfold B.sg
      cases negW x <;> cases negW y <;> simp [Int.neg_mul, Int.mul_neg] <;> omega
    obtain ⟨nS, S, eS, hS, _⟩ := FA.ex
    have HA := hid fun u a b c d A C => mul_fm F1.frm.1 F2.frm.1 hS rfl u a b c d A C
    have HX := hid fun u => of_wd (negW x) (magW x) a4 o1 u
    have HY := hid fun u => of_wd (negW y) (magW y) b4 o2 u
    rw [hS] at FA
    rw [← ex] at HX
    rw [← ey] at HY
    have e : arW .mul x y = wd64 (negW x != negW y) (min R 9218868437227405312) := by
      show (Ieee.double.mul x y).getD oddW = _
      rw [hA]; rfl
    rw [e]
    obtain ⟨k1, k2, k3⟩ := round_fo FA hTn
    have k4 := k3 R (by rw [hTa]; exact hR)
    have hz : wd64 (rS nS S) (rW 0 nS S eS) = wd64 (negW x != negW y) (min R 9218868437227405312) := by
      unfold rS
      rw [if_neg k1, k4, k2, hsg]
    exact rTimes_num x y _ (negW x) (negW y) nX nY nS X Y S eX eY eS w (frmLen F1.frm.1) (frmLen F2.frm.1) (frmLen FA.frm.1) (hid P1) (hid P2) (hid P3) (hid P4) (hid P5) (hid P6) (hid P7) (hid P8) HX HY HA (hid fun u a c A => round_fm FA.frm.1 hz u a c A)
end Go.Proofs.Ythilnddhehbjiab

