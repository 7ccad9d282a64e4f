/- The document's Sign, Against, Cmp. -/
import Derived.Test.YthilnddhehbjiaaDoorD33x
namespace Go.Proofs.YthilnddhehbjiaaDoor
open Go.RowKit
set_option linter.unusedVariables false
set_option maxRecDepth 20000
set_option linter.unusedSimpArgs false

set_option maxHeartbeats 2000000 in
theorem rSign_any3 {w : World} {a : Option Addr} {n c : Nat} {xs : List Nat} (h1 : Arg w a n c xs) (ng : Bool) (e : Int) :
    Calls Tryd.prog 39 #[.agg #[.bool ng, .slice a n c, .int .i64 e]] w fun r w' => r = .returned (.int .i64 (sgn ng (val xs))) ∧ Below w.heap.size w w' := by
  have hB : Below w.heap.size w (w.alloc (.cells #[.bool ng, .slice a n c, .int .i64 e] 39)) := below_alloc w _
  have A1 := h1.below hB
  have hbig := h1.big
  have H1 := hid (rLen_any xs a n c _ _ A1.len (by omega) A1.wf A1.rd)
  obtain ⟨X, hX⟩ : ∃ X, val xs = X := ⟨_, rfl⟩
  rw [hX] at H1 ⊢
  have SB := Aside.intro hB
  clear hB A1 h1 hX hbig
  unfold sgn
  by_cases h0 : X = 0
  · rw [if_pos h0]
    have hb : bl X = 0 := by rw [h0, bl_zero]
    rw [hb] at H1
    clear h0 hb
    go_enter Tryd.func39, Tryd.ntmps39
    go_wp2_with fail
    refine (Calls.mono H1.out) ?_
    rintro r w1 ⟨rfl, rfl⟩
    go_wp2
    go_ret
    exact ⟨rfl, SB.out⟩
  · rw [if_neg h0]
    obtain ⟨b, hb⟩ : ∃ b, bl X = b := ⟨_, rfl⟩
    have hb0 : ((b : Int) == 0) = false := by have := bl_pos X h0; simp; omega
    rw [hb] at H1
    clear h0 hb
    cases ng
    · simp only [Bool.false_eq_true, if_false]
      go_enter Tryd.func39, Tryd.ntmps39
      go_wp2_with fail
      refine (Calls.mono H1.out) ?_
      rintro r w1 ⟨rfl, rfl⟩
      go_wp2
      go_ret
      exact ⟨rfl, SB.out⟩
    · simp only [if_true]
      go_enter Tryd.func39, Tryd.ntmps39
      go_wp2_with fail
      refine (Calls.mono H1.out) ?_
      rintro r w1 ⟨rfl, rfl⟩
      go_wp2
      go_ret
      exact ⟨rfl, SB.out⟩

set_option maxHeartbeats 4000000 in
theorem moved_raw {w : World} {a : Option Addr} {l c : Nat} {xs : List Nat} {X : Nat} (k : Nat) (h1 : Arg w a l c xs) (hX : val xs = X) (hl : l ≤ 2000000) (hk : k ≤ 64000000) :
    Calls Tryd.prog 83 #[.slice a l c, .int .i64 (k : Nat)] w fun r w' => ∃ v, r = .returned v ∧ Nt w.heap.size w' v (X * 2 ^ k) ∧ Below w.heap.size w w' := by
  obtain ⟨q, hq⟩ : ∃ q, q = k / 32 := ⟨_, rfl⟩
  obtain ⟨s, hs⟩ : ∃ s, s = k % 32 := ⟨_, rfl⟩
  have e1 : (k : Int) / 32 = (q : Int) := by omega
  have e2 : (k : Int) % 32 = (s : Int) := by omega
  have hqb : q ≤ 2000000 := by omega
  have hs32 : s < 32 := by omega
  obtain ⟨W1, hW1⟩ : ∃ W, W = w.alloc (.cells (madeCells #[.int .u32 0] q) 61) := ⟨_, rfl⟩
  have hO1 : Own W1 w.heap.size (List.replicate q 0) := by rw [hW1]; exact Own.made w q
  have hB1 : Below w.heap.size w W1 := by rw [hW1]; exact (Below.refl _ _).alloc (Nat.le_refl _) _
  have hmk := make_words (q : Int) q rfl (by omega) w
  rw [← hW1] at hmk
  have hR := own_row_made hO1 (by simp; omega)
  simp only [List.length_replicate] at hR
  have A1 := h1.below hB1
  obtain ⟨v', w2, hap, hown, hgrow⟩ := append_words W1 w.heap.size _ q (List.replicate q 0) xs a l c W1.heap.size 23 hR A1.len A1.rd A1.nil (by omega) hB1.size
  have hB2 : Below w.heap.size w w2 := hB1.grown hgrow hB1.size (fun k hk => by simp [Value.ownBlock] at hk; omega)
  obtain ⟨a2, c2, rfl, hc2, hl2, hnil2, hRd2⟩ := Rw.words hown
  have AO : Arg w2 a2 (q + l) c2 (List.replicate q 0 ++ xs) := ⟨hl2, hc2, by omega, (Wf.zeros q).append h1.wf, hRd2, hnil2⟩
  have hval : val (List.replicate q 0 ++ xs) = X * pw q := by
    rw [val_append, val_zeros, hX, List.length_replicate, Nat.zero_add, Nat.mul_comm]
  have hpw : pw q * 2 ^ s = 2 ^ k := by
    have : pw q = 2 ^ (32 * q) := by unfold pw; rw [Nat.pow_mul]
    rw [this, ← Nat.pow_add]
    congr 1
    omega
  have hps := pow_small s hs32
  obtain ⟨p, hp⟩ : ∃ p, p = 2 ^ s := ⟨_, rfl⟩
  have e3 : (2 : Int) ^ s = (p : Int) := by
    have h5 : ((2 ^ s : Nat) : Int) = (2 : Int) ^ s := by simp
    rw [← h5, ← hp]
  have hpl : p < 4294967296 := by omega
  have T1 := hid (rTimes_arg (V := X * 2 ^ k) (AO.below (below_alloc w2 _)) (lit_arg w2 p (by omega)) (by omega) (by rw [hval]; simp only [val]; rw [← hpw, hp, Nat.mul_assoc]; simp))
  have HAP := hid hap
  have hs2 := hB2.size
  have S1 := Aside.intro hB2
  clear hap hown hgrow hB2 hl2 hnil2 hRd2 AO hval hpw A1 hR hO1 hB1 h1 hW1 hq hs hps hp hX
  go_enter Tryd.func83, Tryd.ntmps83
  go_wp2_with (at_builtin; refine wpList_append_run2 rfl (.tmp 39) (.tmp 40) 23 rfl _ _ rfl rfl _ _ HAP.out ?_)
  refine (Calls.mono T1.out) ?_
  rintro r u3 ⟨v3, rfl, hN3, hb3⟩
  have S2 := (Aside.intro (And.intro hN3 hb3))
  clear hN3 hb3
  go_wp2
  go_ret
  obtain ⟨hN3, hb3⟩ := S2.out
  exact ⟨v3, rfl, hN3.mono (by simp; omega), S1.out.trans (((below_alloc w2 _).trans (hb3.mono (by simp))).mono hs2)⟩

set_option maxHeartbeats 4000000 in
theorem ag_zero1 {w : World} {a b : Option Addr} {n c m d : Nat} (e f : Int) (x y : Nat) (bx : x ≤ 1125899906842624) (by' : y ≤ 1125899906842624) (hx : x = 0) (z : Int)
    (H1 : Hid (Calls Tryd.prog 93 #[.slice a n c] w fun r w' => r = .returned (.int .i64 (x : Nat)) ∧ w' = w))
    (H2 : Hid (Calls Tryd.prog 93 #[.slice b m d] w fun r w' => r = .returned (.int .i64 (y : Nat)) ∧ w' = w))
    (HC : Hid (Calls Tryd.prog 85 #[.slice a n c, .slice b m d] w fun r w' => r = .returned (.int .i64 z) ∧ Below w.heap.size w w')) : Calls Tryd.prog 92 #[.slice a n c, .int .i64 e, .slice b m d, .int .i64 f] w fun r w' => r = .returned (.int .i64 z) ∧ Below w.heap.size w w' := by
  have ex : IntKind.u64.wrap (x : Int) = (x : Int) := by rw [IntKind.wrap_u64]; omega
  have ey : IntKind.u64.wrap (y : Int) = (y : Int) := by rw [IntKind.wrap_u64]; omega
  subst hx
  go_enter Tryd.func92, Tryd.ntmps92
  go_wp2_with fail
  refine (Calls.mono H1.out) ?_
  rintro r ww ⟨rfl, hw⟩
  rw [hw]
  clear hw ww
  go_wp2_with fail
  refine (Calls.mono H2.out) ?_
  rintro r ww ⟨rfl, hw⟩
  rw [hw]
  clear hw ww
  go_wp2_with fail
  refine (Calls.mono HC.out) ?_
  rintro r u1 ⟨rfl, hb⟩
  have S1 := Aside.intro hb
  clear hb
  go_wp2
  go_ret
  exact ⟨rfl, S1.out⟩

set_option maxHeartbeats 4000000 in
theorem ag_zero2 {w : World} {a b : Option Addr} {n c m d : Nat} (e f : Int) (x y : Nat) (bx : x ≤ 1125899906842624) (by' : y ≤ 1125899906842624) (hx : ((x : Int) == 0) = false) (hy : y = 0) (z : Int)
    (H1 : Hid (Calls Tryd.prog 93 #[.slice a n c] w fun r w' => r = .returned (.int .i64 (x : Nat)) ∧ w' = w))
    (H2 : Hid (Calls Tryd.prog 93 #[.slice b m d] w fun r w' => r = .returned (.int .i64 (y : Nat)) ∧ w' = w))
    (HC : Hid (Calls Tryd.prog 85 #[.slice a n c, .slice b m d] w fun r w' => r = .returned (.int .i64 z) ∧ Below w.heap.size w w')) : Calls Tryd.prog 92 #[.slice a n c, .int .i64 e, .slice b m d, .int .i64 f] w fun r w' => r = .returned (.int .i64 z) ∧ Below w.heap.size w w' := by
  have ex : IntKind.u64.wrap (x : Int) = (x : Int) := by rw [IntKind.wrap_u64]; omega
  have ey : IntKind.u64.wrap (y : Int) = (y : Int) := by rw [IntKind.wrap_u64]; omega
  subst hy
  go_enter Tryd.func92, Tryd.ntmps92
  go_wp2_with fail
  refine (Calls.mono H1.out) ?_
  rintro r ww ⟨rfl, hw⟩
  rw [hw]
  clear hw ww
  go_wp2_with fail
  refine (Calls.mono H2.out) ?_
  rintro r ww ⟨rfl, hw⟩
  rw [hw]
  clear hw ww
  go_wp2_with fail
  refine (Calls.mono HC.out) ?_
  rintro r u1 ⟨rfl, hb⟩
  have S1 := Aside.intro hb
  clear hb
  go_wp2
  go_ret
  exact ⟨rfl, S1.out⟩

set_option maxHeartbeats 4000000 in
theorem ag_turn {w : World} {a b : Option Addr} {n c m d : Nat} (e f : Int) (x y : Nat) (bx : x ≤ 1125899906842624) (by' : y ≤ 1125899906842624) (hx : ((x : Int) == 0) = false) (hy : ((y : Int) == 0) = false) (hlt : e < f) (z : Int) (hz0 : -1 ≤ z) (hz1 : z ≤ 1)
    (H1 : Hid (Calls Tryd.prog 93 #[.slice a n c] w fun r w' => r = .returned (.int .i64 (x : Nat)) ∧ w' = w))
    (H2 : Hid (Calls Tryd.prog 93 #[.slice b m d] w fun r w' => r = .returned (.int .i64 (y : Nat)) ∧ w' = w))
    (HR : Hid (Calls Tryd.prog 92 #[.slice b m d, .int .i64 f, .slice a n c, .int .i64 e] w fun r w' => r = .returned (.int .i64 z) ∧ Below w.heap.size w w')) : Calls Tryd.prog 92 #[.slice a n c, .int .i64 e, .slice b m d, .int .i64 f] w fun r w' => r = .returned (.int .i64 (-z)) ∧ Below w.heap.size w w' := by
  have ex : IntKind.u64.wrap (x : Int) = (x : Int) := by rw [IntKind.wrap_u64]; omega
  have ey : IntKind.u64.wrap (y : Int) = (y : Int) := by rw [IntKind.wrap_u64]; omega
  go_enter Tryd.func92, Tryd.ntmps92
  go_wp2_with fail
  refine (Calls.mono H1.out) ?_
  rintro r ww ⟨rfl, hw⟩
  rw [hw]
  clear hw ww
  go_wp2_with fail
  refine (Calls.mono H2.out) ?_
  rintro r ww ⟨rfl, hw⟩
  rw [hw]
  clear hw ww
  go_wp2_with fail
  refine (Calls.mono HR.out) ?_
  rintro r u1 ⟨rfl, hb⟩
  have S1 := Aside.intro hb
  clear hb
  go_wp2
  go_ret
  exact ⟨rfl, S1.out⟩

set_option maxHeartbeats 4000000 in
theorem ag_far {w : World} {a b : Option Addr} {n c m d : Nat} (e f : Int) (x y : Nat) (bx : x ≤ 1125899906842624) (by' : y ≤ 1125899906842624) (hx : ((x : Int) == 0) = false) (hy : ((y : Int) == 0) = false) (hge : decide (e < f) = false) (dd : Nat) (hap : IntKind.u64.wrap (IntKind.u64.wrap e - IntKind.u64.wrap f) = (dd : Int)) (hd : 1099511627776 < dd)
    (H1 : Hid (Calls Tryd.prog 93 #[.slice a n c] w fun r w' => r = .returned (.int .i64 (x : Nat)) ∧ w' = w))
    (H2 : Hid (Calls Tryd.prog 93 #[.slice b m d] w fun r w' => r = .returned (.int .i64 (y : Nat)) ∧ w' = w)) : Calls Tryd.prog 92 #[.slice a n c, .int .i64 e, .slice b m d, .int .i64 f] w fun r w' => r = .returned (.int .i64 1) ∧ Below w.heap.size w w' := by
  have hd2 : (1099511627776 : Int) < (dd : Int) := by omega
  have ex : IntKind.u64.wrap (x : Int) = (x : Int) := by rw [IntKind.wrap_u64]; omega
  have ey : IntKind.u64.wrap (y : Int) = (y : Int) := by rw [IntKind.wrap_u64]; omega
  go_enter Tryd.func92, Tryd.ntmps92
  go_wp2_with fail
  refine (Calls.mono H1.out) ?_
  rintro r ww ⟨rfl, hw⟩
  rw [hw]
  clear hw ww
  go_wp2_with fail
  refine (Calls.mono H2.out) ?_
  rintro r ww ⟨rfl, hw⟩
  rw [hw]
  clear hw ww
  go_wp2
  go_ret
  exact ⟨rfl, Below.refl _ _⟩

set_option maxHeartbeats 4000000 in
theorem ag_more {w : World} {a b : Option Addr} {n c m d : Nat} (e f : Int) (x y : Nat) (bx : x ≤ 1125899906842624) (by' : y ≤ 1125899906842624) (hx : ((x : Int) == 0) = false) (hy : ((y : Int) == 0) = false) (hge : decide (e < f) = false) (dd : Nat) (hap : IntKind.u64.wrap (IntKind.u64.wrap e - IntKind.u64.wrap f) = (dd : Int)) (hd : dd ≤ 1099511627776) (h1 : y < x + dd)
    (H1 : Hid (Calls Tryd.prog 93 #[.slice a n c] w fun r w' => r = .returned (.int .i64 (x : Nat)) ∧ w' = w))
    (H2 : Hid (Calls Tryd.prog 93 #[.slice b m d] w fun r w' => r = .returned (.int .i64 (y : Nat)) ∧ w' = w)) : Calls Tryd.prog 92 #[.slice a n c, .int .i64 e, .slice b m d, .int .i64 f] w fun r w' => r = .returned (.int .i64 1) ∧ Below w.heap.size w w' := by
  have hd2 : decide ((1099511627776 : Int) < (dd : Int)) = false := decide_eq_false (by omega)
  have hd3 : decide (1099511627776 < dd) = false := decide_eq_false (by omega)
  have es : IntKind.u64.wrap ((x : Int) + (dd : Int)) = (x : Int) + (dd : Int) := by rw [IntKind.wrap_u64]; omega
  have h2 : (y : Int) < (x : Int) + (dd : Int) := by omega
  have ex : IntKind.u64.wrap (x : Int) = (x : Int) := by rw [IntKind.wrap_u64]; omega
  have ey : IntKind.u64.wrap (y : Int) = (y : Int) := by rw [IntKind.wrap_u64]; omega
  go_enter Tryd.func92, Tryd.ntmps92
  go_wp2_with fail
  refine (Calls.mono H1.out) ?_
  rintro r ww ⟨rfl, hw⟩
  rw [hw]
  clear hw ww
  go_wp2_with fail
  refine (Calls.mono H2.out) ?_
  rintro r ww ⟨rfl, hw⟩
  rw [hw]
  clear hw ww
  go_wp2
  go_ret
  exact ⟨rfl, Below.refl _ _⟩

set_option maxHeartbeats 4000000 in
theorem ag_less {w : World} {a b : Option Addr} {n c m d : Nat} (e f : Int) (x y : Nat) (bx : x ≤ 1125899906842624) (by' : y ≤ 1125899906842624) (hx : ((x : Int) == 0) = false) (hy : ((y : Int) == 0) = false) (hge : decide (e < f) = false) (dd : Nat) (hap : IntKind.u64.wrap (IntKind.u64.wrap e - IntKind.u64.wrap f) = (dd : Int)) (hd : dd ≤ 1099511627776) (h1 : x + dd < y)
    (H1 : Hid (Calls Tryd.prog 93 #[.slice a n c] w fun r w' => r = .returned (.int .i64 (x : Nat)) ∧ w' = w))
    (H2 : Hid (Calls Tryd.prog 93 #[.slice b m d] w fun r w' => r = .returned (.int .i64 (y : Nat)) ∧ w' = w)) : Calls Tryd.prog 92 #[.slice a n c, .int .i64 e, .slice b m d, .int .i64 f] w fun r w' => r = .returned (.int .i64 (-1)) ∧ Below w.heap.size w w' := by
  have hd2 : decide ((1099511627776 : Int) < (dd : Int)) = false := decide_eq_false (by omega)
  have hd3 : decide (1099511627776 < dd) = false := decide_eq_false (by omega)
  have es : IntKind.u64.wrap ((x : Int) + (dd : Int)) = (x : Int) + (dd : Int) := by rw [IntKind.wrap_u64]; omega
  have h2 : (x : Int) + (dd : Int) < (y : Int) := by omega
  have h3 : decide ((y : Int) < (x : Int) + (dd : Int)) = false := decide_eq_false (by omega)
  have h4 : decide (y < x + dd) = false := decide_eq_false (by omega)
  have ex : IntKind.u64.wrap (x : Int) = (x : Int) := by rw [IntKind.wrap_u64]; omega
  have ey : IntKind.u64.wrap (y : Int) = (y : Int) := by rw [IntKind.wrap_u64]; omega
  go_enter Tryd.func92, Tryd.ntmps92
  go_wp2_with fail
  refine (Calls.mono H1.out) ?_
  rintro r ww ⟨rfl, hw⟩
  rw [hw]
  clear hw ww
  go_wp2_with fail
  refine (Calls.mono H2.out) ?_
  rintro r ww ⟨rfl, hw⟩
  rw [hw]
  clear hw ww
  go_wp2
  go_ret
  exact ⟨rfl, Below.refl _ _⟩

set_option maxHeartbeats 4000000 in
theorem ag_even {w : World} {a b : Option Addr} {n c m d : Nat} (e f : Int) (x y : Nat) (bx : x ≤ 1125899906842624) (by' : y ≤ 1125899906842624) (hx : ((x : Int) == 0) = false) (hy : ((y : Int) == 0) = false) (hge : decide (e < f) = false) (dd : Nat) (hap : IntKind.u64.wrap (IntKind.u64.wrap e - IntKind.u64.wrap f) = (dd : Int)) (hd : dd ≤ 64000000) (h1 : x + dd = y) (P : Nat) (lP : (ws P).length ≤ 35184372088832) (z : Int)
    (H1 : Hid (Calls Tryd.prog 93 #[.slice a n c] w fun r w' => r = .returned (.int .i64 (x : Nat)) ∧ w' = w))
    (H2 : Hid (Calls Tryd.prog 93 #[.slice b m d] w fun r w' => r = .returned (.int .i64 (y : Nat)) ∧ w' = w))
    (HM : Hid (Calls Tryd.prog 83 #[.slice a n c, .int .i64 (dd : Nat)] w fun r w' => ∃ v, r = .returned v ∧ Nt w.heap.size w' v P ∧ Below w.heap.size w w'))
    (HC : Hid (∀ u p q, Below w.heap.size w u → Arg u p (ws P).length q (ws P) → Calls Tryd.prog 85 #[.slice p (ws P).length q, .slice b m d] u fun r w' => r = .returned (.int .i64 z) ∧ Below u.heap.size u w')) : Calls Tryd.prog 92 #[.slice a n c, .int .i64 e, .slice b m d, .int .i64 f] w fun r w' => r = .returned (.int .i64 z) ∧ Below w.heap.size w w' := by
  have hd2 : decide ((1099511627776 : Int) < (dd : Int)) = false := decide_eq_false (by omega)
  have hd3 : decide (1099511627776 < dd) = false := decide_eq_false (by omega)
  have es : IntKind.u64.wrap ((x : Int) + (dd : Int)) = (x : Int) + (dd : Int) := by rw [IntKind.wrap_u64]; omega
  have h2 : decide ((x : Int) + (dd : Int) < (y : Int)) = false := decide_eq_false (by omega)
  have h3 : decide ((y : Int) < (x : Int) + (dd : Int)) = false := decide_eq_false (by omega)
  have h4 : decide (y < x + dd) = false := decide_eq_false (by omega)
  have h5 : decide (x + dd < y) = false := decide_eq_false (by omega)
  have ed : IntKind.i64.wrap (dd : Int) = (dd : Int) := by rw [IntKind.wrap_i64]; omega
  clear h1
  have ex : IntKind.u64.wrap (x : Int) = (x : Int) := by rw [IntKind.wrap_u64]; omega
  have ey : IntKind.u64.wrap (y : Int) = (y : Int) := by rw [IntKind.wrap_u64]; omega
  go_enter Tryd.func92, Tryd.ntmps92
  go_wp2_with fail
  refine (Calls.mono H1.out) ?_
  rintro r ww ⟨rfl, hw⟩
  rw [hw]
  clear hw ww
  go_wp2_with fail
  refine (Calls.mono H2.out) ?_
  rintro r ww ⟨rfl, hw⟩
  rw [hw]
  clear hw ww
  go_wp2_with fail
  refine (Calls.mono HM.out) ?_
  rintro r u1 ⟨v, rfl, hN, hb⟩
  obtain ⟨a1, c1, rfl, A1⟩ := hN.arg lP
  have HC1 := hid (HC.out u1 a1 c1 hb A1)
  have hs1 := hb.size
  have S1 := Aside.intro hb
  clear hN hb A1
  go_wp2_with fail
  refine (Calls.mono HC1.out) ?_
  rintro r u2 ⟨rfl, hb⟩
  have S2 := Aside.intro (S1.out.trans (hb.mono hs1))
  clear hb
  go_wp2
  go_ret
  exact ⟨rfl, S2.out⟩

/-- What Against answers. -/
def agV (X : Nat) (e : Int) (Y : Nat) (f : Int) : Int := if X = 0 ∨ Y = 0 then cmpI X Y else cmpP X e Y f

theorem against_ge {w : World} {a b : Option Addr} {n c m d : Nat} {xs ys : List Nat} (h1 : Arg w a n c xs) (h2 : Arg w b m d ys) (hn : n ≤ 2000000) (hm : m ≤ 2000000) (e f : Int) (he0 : -9223372036854775808 ≤ e) (he1 : e ≤ 9223372036854775807) (hf0 : -9223372036854775808 ≤ f) (hf1 : f ≤ 9223372036854775807) (h : f ≤ e) (hX : val xs ≠ 0) (hY : val ys ≠ 0) :
    Calls Tryd.prog 92 #[.slice a n c, .int .i64 e, .slice b m d, .int .i64 f] w fun r w' => r = .returned (.int .i64 (cmpP (val xs) e (val ys) f)) ∧ Below w.heap.size w w' := by
  have b1 := h1.big
  have b2 := h2.big
  have L1 := hid (rLen_any xs a n c w.heap.size w h1.len (by omega) h1.wf h1.rd)
  have L2 := hid (rLen_any ys b m d w.heap.size w h2.len (by omega) h2.wf h2.rd)
  have x0 : (((bl (val xs) : Nat) : Int) == 0) = false := by have := bl_pos _ hX; simp; omega
  have y0 : (((bl (val ys) : Nat) : Int) == 0) = false := by have := bl_pos _ hY; simp; omega
  have hap := u64_apart e f he0 he1 hf0 hf1 h
  have hge : decide (e < f) = false := decide_eq_false (by omega)
  have c1 := bl_arg h1
  have c2 : bl (val ys) ≤ 64000000 := by
    have := val_lt ys h2.wf
    rw [← h2.len] at this
    have := bl_pw _ _ this
    omega
  unfold cmpP
  rw [if_neg (by omega)]
  obtain ⟨dd, hdd⟩ : ∃ dd, (e - f).toNat = dd := ⟨_, rfl⟩
  rw [hdd] at hap ⊢
  have hb := bl_up (val xs) dd hX
  by_cases k1 : 1099511627776 < dd
  · have : cmpI (val xs * 2 ^ dd) (val ys) = 1 := by
      rw [cmpI_bl (by omega), hb]; unfold cmpI; rw [if_neg (by omega), if_pos (by omega)]
    rw [this]
    exact ag_far e f _ _ c1 (by omega) x0 y0 hge dd hap k1 L1 L2
  · by_cases k2 : bl (val ys) < bl (val xs) + dd
    · have : cmpI (val xs * 2 ^ dd) (val ys) = 1 := by
        rw [cmpI_bl (by omega), hb]; unfold cmpI; rw [if_neg (by omega), if_pos (by omega)]
      rw [this]
      exact ag_more e f _ _ c1 (by omega) x0 y0 hge dd hap (by omega) k2 L1 L2
    · by_cases k3 : bl (val xs) + dd < bl (val ys)
      · have : cmpI (val xs * 2 ^ dd) (val ys) = -1 := by
          rw [cmpI_bl (by omega), hb]; unfold cmpI; rw [if_pos (by omega)]
        rw [this]
        exact ag_less e f _ _ c1 (by omega) x0 y0 hge dd hap (by omega) k3 L1 L2
      · have lP : (ws (val xs * 2 ^ dd)).length ≤ 35184372088832 := by rw [ws_len_bl, hb]; omega
        obtain ⟨P, hP⟩ : ∃ P, val xs * 2 ^ dd = P := ⟨_, rfl⟩
        have HM := hid (moved_raw (X := val xs) dd h1 rfl hn (by omega))
        rw [hP] at HM lP ⊢
        exact ag_even e f _ _ c1 (by omega) x0 y0 hge dd hap (by omega) (by omega) P lP _ L1 L2 HM (hid fun u p q hu hA => rCmp_arg hA (h2.below hu) _ (by rw [val_ws]))
theorem against_any {w : World} {a b : Option Addr} {n c m d : Nat} {xs ys : List Nat} (h1 : Arg w a n c xs) (h2 : Arg w b m d ys) (hn : n ≤ 2000000) (hm : m ≤ 2000000) (e f : Int) (he0 : -9223372036854775808 ≤ e) (he1 : e ≤ 9223372036854775807) (hf0 : -9223372036854775808 ≤ f) (hf1 : f ≤ 9223372036854775807) :
    Calls Tryd.prog 92 #[.slice a n c, .int .i64 e, .slice b m d, .int .i64 f] w fun r w' => r = .returned (.int .i64 (agV (val xs) e (val ys) f)) ∧ Below w.heap.size w w' := by
  have b1 := h1.big
  have b2 := h2.big
  have L1 := hid (rLen_any xs a n c w.heap.size w h1.len (by omega) h1.wf h1.rd)
  have L2 := hid (rLen_any ys b m d w.heap.size w h2.len (by omega) h2.wf h2.rd)
  have c1 := bl_arg h1
  have c2 := bl_arg h2
  unfold agV
  by_cases hX : val xs = 0
  · rw [if_pos (.inl hX)]
    exact ag_zero1 e f _ _ c1 c2 (by rw [hX, bl_zero]) _ L1 L2 (hid (rCmp_arg h1 h2 _ rfl))
  · have x0 : (((bl (val xs) : Nat) : Int) == 0) = false := by have := bl_pos _ hX; simp; omega
    by_cases hY : val ys = 0
    · rw [if_pos (.inr hY)]
      exact ag_zero2 e f _ _ c1 c2 x0 (by rw [hY, bl_zero]) _ L1 L2 (hid (rCmp_arg h1 h2 _ rfl))
    · have y0 : (((bl (val ys) : Nat) : Int) == 0) = false := by have := bl_pos _ hY; simp; omega
      rw [if_neg (fun h => h.elim hX hY)]
      by_cases h : e < f
      · have hr := cmpP_range (val ys) f (val xs) e
        have := ag_turn e f _ _ c1 c2 x0 y0 h (cmpP (val ys) f (val xs) e) (by omega) (by omega) L1 L2 (hid (against_ge h2 h1 hm hn f e hf0 hf1 he0 he1 (by omega) hY hX))
        rw [cmpP_neg] at this
        exact this
      · exact against_ge h1 h2 hn hm e f he0 he1 hf0 hf1 (by omega) hX hY

set_option maxHeartbeats 4000000 in
theorem rcmp_lt {w : World} {a b : Option Addr} {n c m d : Nat} (ng mg : Bool) (e f : Int) (s t : Int) (h : s < t)
    (HA : Hid (∀ u, Below w.heap.size w u → Calls Tryd.prog 39 #[.agg #[.bool ng, .slice a n c, .int .i64 e]] u fun r w' => r = .returned (.int .i64 s) ∧ Below u.heap.size u w'))
    (HB : Hid (∀ u, Below w.heap.size w u → Calls Tryd.prog 39 #[.agg #[.bool mg, .slice b m d, .int .i64 f]] u fun r w' => r = .returned (.int .i64 t) ∧ Below u.heap.size u w')) :
    Calls Tryd.prog 38 #[.agg #[.bool ng, .slice a n c, .int .i64 e], .agg #[.bool mg, .slice b m d, .int .i64 f]] w fun r w' => r = .returned (.int .i64 (-1)) ∧ Below w.heap.size w w' := by
  obtain ⟨W1, hW1⟩ : ∃ W, W = (w.alloc (.cells #[.bool ng, .slice a n c, .int .i64 e] 39)).alloc (.cells #[.bool mg, .slice b m d, .int .i64 f] 39) := ⟨_, rfl⟩
  have hB : Below w.heap.size w W1 := by rw [hW1]; exact (below_alloc w _).alloc (by simp) _
  have hz : W1.heap.size = w.heap.size + 2 := by rw [hW1]; simp
  have DA : Dk W1 w.heap.size ng (.slice a n c) e := by rw [hW1]; exact (Dk.new w ng (.slice a n c) e).alloc _
  have DB : Dk W1 (w.heap.size + 1) mg (.slice b m d) f := by
    rw [hW1]
    have := Dk.new (w.alloc (.cells #[.bool ng, .slice a n c, .int .i64 e] 39)) mg (.slice b m d) f
    simpa using this
  have hs : w.heap.size ≤ W1.heap.size := by omega
  have S0 := (Aside.intro (And.intro hB (And.intro DA DB)))
  clear hz
  clear hB DA DB
  go_enter Tryd.func38, Tryd.ntmps38
  go_upto_region 1 with fail
  rw [← hW1]
  clear hW1
  obtain ⟨hB, DA, DB⟩ := S0.out
  obtain ⟨x0, x1, x2, xf0, xf1, xf2⟩ := DA.facts
  obtain ⟨y0, y1, y2, yf0, yf1, yf2⟩ := DB.facts
  have HH := hid (HA.out W1 hB)
  clear hB DA DB
  go_wp2_with fail
  clear x0 x1 x2 xf0 xf1 xf2 y0 y1 y2 yf0 yf1 yf2
  refine (Calls.mono HH.out) ?_
  rintro r u1 ⟨rfl, hb⟩
  obtain ⟨hB, DA, DB⟩ := S0.out
  have hs1 := hb.size
  have S1 := (Aside.intro (And.intro (hB.trans (hb.mono (by omega))) (And.intro (DA.below hb) (DB.below hb))))
  clear hB DA DB hb HH S0
  obtain ⟨hB, DA, DB⟩ := S1.out
  obtain ⟨x0, x1, x2, xf0, xf1, xf2⟩ := DA.facts
  obtain ⟨y0, y1, y2, yf0, yf1, yf2⟩ := DB.facts
  have HH := hid (HB.out u1 hB)
  clear hB DA DB
  go_wp2_with fail
  clear x0 x1 x2 xf0 xf1 xf2 y0 y1 y2 yf0 yf1 yf2
  refine (Calls.mono HH.out) ?_
  rintro r u2 ⟨rfl, hb⟩
  obtain ⟨hB, DA, DB⟩ := S1.out
  have hs2 := hb.size
  have S2 := (Aside.intro (And.intro (hB.trans (hb.mono (by omega))) (And.intro (DA.below hb) (DB.below hb))))
  clear hB DA DB hb HH S1
  obtain ⟨x0, x1, x2, xf0, xf1, xf2⟩ := S2.out.2.1.facts
  go_wp2
  go_ret
  exact ⟨rfl, S2.out.1⟩

set_option maxHeartbeats 4000000 in
theorem rcmp_gt {w : World} {a b : Option Addr} {n c m d : Nat} (ng mg : Bool) (e f : Int) (s t : Int) (h : t < s)
    (HA : Hid (∀ u, Below w.heap.size w u → Calls Tryd.prog 39 #[.agg #[.bool ng, .slice a n c, .int .i64 e]] u fun r w' => r = .returned (.int .i64 s) ∧ Below u.heap.size u w'))
    (HB : Hid (∀ u, Below w.heap.size w u → Calls Tryd.prog 39 #[.agg #[.bool mg, .slice b m d, .int .i64 f]] u fun r w' => r = .returned (.int .i64 t) ∧ Below u.heap.size u w')) :
    Calls Tryd.prog 38 #[.agg #[.bool ng, .slice a n c, .int .i64 e], .agg #[.bool mg, .slice b m d, .int .i64 f]] w fun r w' => r = .returned (.int .i64 1) ∧ Below w.heap.size w w' := by
  obtain ⟨W1, hW1⟩ : ∃ W, W = (w.alloc (.cells #[.bool ng, .slice a n c, .int .i64 e] 39)).alloc (.cells #[.bool mg, .slice b m d, .int .i64 f] 39) := ⟨_, rfl⟩
  have hB : Below w.heap.size w W1 := by rw [hW1]; exact (below_alloc w _).alloc (by simp) _
  have hz : W1.heap.size = w.heap.size + 2 := by rw [hW1]; simp
  have DA : Dk W1 w.heap.size ng (.slice a n c) e := by rw [hW1]; exact (Dk.new w ng (.slice a n c) e).alloc _
  have DB : Dk W1 (w.heap.size + 1) mg (.slice b m d) f := by
    rw [hW1]
    have := Dk.new (w.alloc (.cells #[.bool ng, .slice a n c, .int .i64 e] 39)) mg (.slice b m d) f
    simpa using this
  have hs : w.heap.size ≤ W1.heap.size := by omega
  have S0 := (Aside.intro (And.intro hB (And.intro DA DB)))
  clear hz
  clear hB DA DB
  have h0 : decide (s < t) = false := decide_eq_false (by omega)
  go_enter Tryd.func38, Tryd.ntmps38
  go_upto_region 1 with fail
  rw [← hW1]
  clear hW1
  obtain ⟨hB, DA, DB⟩ := S0.out
  obtain ⟨x0, x1, x2, xf0, xf1, xf2⟩ := DA.facts
  obtain ⟨y0, y1, y2, yf0, yf1, yf2⟩ := DB.facts
  have HH := hid (HA.out W1 hB)
  clear hB DA DB
  go_wp2_with fail
  clear x0 x1 x2 xf0 xf1 xf2 y0 y1 y2 yf0 yf1 yf2
  refine (Calls.mono HH.out) ?_
  rintro r u1 ⟨rfl, hb⟩
  obtain ⟨hB, DA, DB⟩ := S0.out
  have hs1 := hb.size
  have S1 := (Aside.intro (And.intro (hB.trans (hb.mono (by omega))) (And.intro (DA.below hb) (DB.below hb))))
  clear hB DA DB hb HH S0
  obtain ⟨hB, DA, DB⟩ := S1.out
  obtain ⟨x0, x1, x2, xf0, xf1, xf2⟩ := DA.facts
  obtain ⟨y0, y1, y2, yf0, yf1, yf2⟩ := DB.facts
  have HH := hid (HB.out u1 hB)
  clear hB DA DB
  go_wp2_with fail
  clear x0 x1 x2 xf0 xf1 xf2 y0 y1 y2 yf0 yf1 yf2
  refine (Calls.mono HH.out) ?_
  rintro r u2 ⟨rfl, hb⟩
  obtain ⟨hB, DA, DB⟩ := S1.out
  have hs2 := hb.size
  have S2 := (Aside.intro (And.intro (hB.trans (hb.mono (by omega))) (And.intro (DA.below hb) (DB.below hb))))
  clear hB DA DB hb HH S1
  obtain ⟨x0, x1, x2, xf0, xf1, xf2⟩ := S2.out.2.1.facts
  go_wp2
  go_ret
  exact ⟨rfl, S2.out.1⟩

set_option maxHeartbeats 4000000 in
theorem rcmp_neg {w : World} {a b : Option Addr} {n c m d : Nat} (ng mg : Bool) (e f : Int) (s t : Int) (h : s = t) (h2 : s < 0) (z : Int)
    (HA : Hid (∀ u, Below w.heap.size w u → Calls Tryd.prog 39 #[.agg #[.bool ng, .slice a n c, .int .i64 e]] u fun r w' => r = .returned (.int .i64 s) ∧ Below u.heap.size u w'))
    (HB : Hid (∀ u, Below w.heap.size w u → Calls Tryd.prog 39 #[.agg #[.bool mg, .slice b m d, .int .i64 f]] u fun r w' => r = .returned (.int .i64 t) ∧ Below u.heap.size u w'))
    (HG : Hid (∀ u, Below w.heap.size w u → Calls Tryd.prog 92 #[.slice b m d, .int .i64 f, .slice a n c, .int .i64 e] u fun r w' => r = .returned (.int .i64 z) ∧ Below u.heap.size u w')) :
    Calls Tryd.prog 38 #[.agg #[.bool ng, .slice a n c, .int .i64 e], .agg #[.bool mg, .slice b m d, .int .i64 f]] w fun r w' => r = .returned (.int .i64 z) ∧ Below w.heap.size w w' := by
  obtain ⟨W1, hW1⟩ : ∃ W, W = (w.alloc (.cells #[.bool ng, .slice a n c, .int .i64 e] 39)).alloc (.cells #[.bool mg, .slice b m d, .int .i64 f] 39) := ⟨_, rfl⟩
  have hB : Below w.heap.size w W1 := by rw [hW1]; exact (below_alloc w _).alloc (by simp) _
  have hz : W1.heap.size = w.heap.size + 2 := by rw [hW1]; simp
  have DA : Dk W1 w.heap.size ng (.slice a n c) e := by rw [hW1]; exact (Dk.new w ng (.slice a n c) e).alloc _
  have DB : Dk W1 (w.heap.size + 1) mg (.slice b m d) f := by
    rw [hW1]
    have := Dk.new (w.alloc (.cells #[.bool ng, .slice a n c, .int .i64 e] 39)) mg (.slice b m d) f
    simpa using this
  have hs : w.heap.size ≤ W1.heap.size := by omega
  have S0 := (Aside.intro (And.intro hB (And.intro DA DB)))
  clear hz
  clear hB DA DB
  subst h
  go_enter Tryd.func38, Tryd.ntmps38
  go_upto_region 1 with fail
  rw [← hW1]
  clear hW1
  obtain ⟨hB, DA, DB⟩ := S0.out
  obtain ⟨x0, x1, x2, xf0, xf1, xf2⟩ := DA.facts
  obtain ⟨y0, y1, y2, yf0, yf1, yf2⟩ := DB.facts
  have HH := hid (HA.out W1 hB)
  clear hB DA DB
  go_wp2_with fail
  clear x0 x1 x2 xf0 xf1 xf2 y0 y1 y2 yf0 yf1 yf2
  refine (Calls.mono HH.out) ?_
  rintro r u1 ⟨rfl, hb⟩
  obtain ⟨hB, DA, DB⟩ := S0.out
  have hs1 := hb.size
  have S1 := (Aside.intro (And.intro (hB.trans (hb.mono (by omega))) (And.intro (DA.below hb) (DB.below hb))))
  clear hB DA DB hb HH S0
  obtain ⟨hB, DA, DB⟩ := S1.out
  obtain ⟨x0, x1, x2, xf0, xf1, xf2⟩ := DA.facts
  obtain ⟨y0, y1, y2, yf0, yf1, yf2⟩ := DB.facts
  have HH := hid (HB.out u1 hB)
  clear hB DA DB
  go_wp2_with fail
  clear x0 x1 x2 xf0 xf1 xf2 y0 y1 y2 yf0 yf1 yf2
  refine (Calls.mono HH.out) ?_
  rintro r u2 ⟨rfl, hb⟩
  obtain ⟨hB, DA, DB⟩ := S1.out
  have hs2 := hb.size
  have S2 := (Aside.intro (And.intro (hB.trans (hb.mono (by omega))) (And.intro (DA.below hb) (DB.below hb))))
  clear hB DA DB hb HH S1
  obtain ⟨hB, DA, DB⟩ := S2.out
  obtain ⟨x0, x1, x2, xf0, xf1, xf2⟩ := DA.facts
  obtain ⟨y0, y1, y2, yf0, yf1, yf2⟩ := DB.facts
  have HH := hid (HG.out u2 hB)
  clear hB DA DB
  go_wp2_with fail
  clear x0 x1 x2 xf0 xf1 xf2 y0 y1 y2 yf0 yf1 yf2
  refine (Calls.mono HH.out) ?_
  rintro r u3 ⟨rfl, hb⟩
  obtain ⟨hB, DA, DB⟩ := S2.out
  have hs3 := hb.size
  have S3 := (Aside.intro (And.intro (hB.trans (hb.mono (by omega))) (And.intro (DA.below hb) (DB.below hb))))
  clear hB DA DB hb HH S2
  go_wp2
  go_ret
  exact ⟨rfl, S3.out.1⟩

set_option maxHeartbeats 4000000 in
theorem rcmp_pos {w : World} {a b : Option Addr} {n c m d : Nat} (ng mg : Bool) (e f : Int) (s t : Int) (h : s = t) (h2 : 0 ≤ s) (z : Int)
    (HA : Hid (∀ u, Below w.heap.size w u → Calls Tryd.prog 39 #[.agg #[.bool ng, .slice a n c, .int .i64 e]] u fun r w' => r = .returned (.int .i64 s) ∧ Below u.heap.size u w'))
    (HB : Hid (∀ u, Below w.heap.size w u → Calls Tryd.prog 39 #[.agg #[.bool mg, .slice b m d, .int .i64 f]] u fun r w' => r = .returned (.int .i64 t) ∧ Below u.heap.size u w'))
    (HG : Hid (∀ u, Below w.heap.size w u → Calls Tryd.prog 92 #[.slice a n c, .int .i64 e, .slice b m d, .int .i64 f] u fun r w' => r = .returned (.int .i64 z) ∧ Below u.heap.size u w')) :
    Calls Tryd.prog 38 #[.agg #[.bool ng, .slice a n c, .int .i64 e], .agg #[.bool mg, .slice b m d, .int .i64 f]] w fun r w' => r = .returned (.int .i64 z) ∧ Below w.heap.size w w' := by
  obtain ⟨W1, hW1⟩ : ∃ W, W = (w.alloc (.cells #[.bool ng, .slice a n c, .int .i64 e] 39)).alloc (.cells #[.bool mg, .slice b m d, .int .i64 f] 39) := ⟨_, rfl⟩
  have hB : Below w.heap.size w W1 := by rw [hW1]; exact (below_alloc w _).alloc (by simp) _
  have hz : W1.heap.size = w.heap.size + 2 := by rw [hW1]; simp
  have DA : Dk W1 w.heap.size ng (.slice a n c) e := by rw [hW1]; exact (Dk.new w ng (.slice a n c) e).alloc _
  have DB : Dk W1 (w.heap.size + 1) mg (.slice b m d) f := by
    rw [hW1]
    have := Dk.new (w.alloc (.cells #[.bool ng, .slice a n c, .int .i64 e] 39)) mg (.slice b m d) f
    simpa using this
  have hs : w.heap.size ≤ W1.heap.size := by omega
  have S0 := (Aside.intro (And.intro hB (And.intro DA DB)))
  clear hz
  clear hB DA DB
  subst h
  have h0 : decide (s < 0) = false := decide_eq_false (by omega)
  go_enter Tryd.func38, Tryd.ntmps38
  go_upto_region 1 with fail
  rw [← hW1]
  clear hW1
  obtain ⟨hB, DA, DB⟩ := S0.out
  obtain ⟨x0, x1, x2, xf0, xf1, xf2⟩ := DA.facts
  obtain ⟨y0, y1, y2, yf0, yf1, yf2⟩ := DB.facts
  have HH := hid (HA.out W1 hB)
  clear hB DA DB
  go_wp2_with fail
  clear x0 x1 x2 xf0 xf1 xf2 y0 y1 y2 yf0 yf1 yf2
  refine (Calls.mono HH.out) ?_
  rintro r u1 ⟨rfl, hb⟩
  obtain ⟨hB, DA, DB⟩ := S0.out
  have hs1 := hb.size
  have S1 := (Aside.intro (And.intro (hB.trans (hb.mono (by omega))) (And.intro (DA.below hb) (DB.below hb))))
  clear hB DA DB hb HH S0
  obtain ⟨hB, DA, DB⟩ := S1.out
  obtain ⟨x0, x1, x2, xf0, xf1, xf2⟩ := DA.facts
  obtain ⟨y0, y1, y2, yf0, yf1, yf2⟩ := DB.facts
  have HH := hid (HB.out u1 hB)
  clear hB DA DB
  go_wp2_with fail
  clear x0 x1 x2 xf0 xf1 xf2 y0 y1 y2 yf0 yf1 yf2
  refine (Calls.mono HH.out) ?_
  rintro r u2 ⟨rfl, hb⟩
  obtain ⟨hB, DA, DB⟩ := S1.out
  have hs2 := hb.size
  have S2 := (Aside.intro (And.intro (hB.trans (hb.mono (by omega))) (And.intro (DA.below hb) (DB.below hb))))
  clear hB DA DB hb HH S1
  obtain ⟨hB, DA, DB⟩ := S2.out
  obtain ⟨x0, x1, x2, xf0, xf1, xf2⟩ := DA.facts
  obtain ⟨y0, y1, y2, yf0, yf1, yf2⟩ := DB.facts
  have HH := hid (HG.out u2 hB)
  clear hB DA DB
  go_wp2_with fail
  clear x0 x1 x2 xf0 xf1 xf2 y0 y1 y2 yf0 yf1 yf2
  refine (Calls.mono HH.out) ?_
  rintro r u3 ⟨rfl, hb⟩
  obtain ⟨hB, DA, DB⟩ := S2.out
  have hs3 := hb.size
  have S3 := (Aside.intro (And.intro (hB.trans (hb.mono (by omega))) (And.intro (DA.below hb) (DB.below hb))))
  clear hB DA DB hb HH S2
  go_wp2
  go_ret
  exact ⟨rfl, S3.out.1⟩


theorem rCmp_any3 {w : World} {a b : Option Addr} {n c m d : Nat} {xs ys : List Nat} (h1 : Arg w a n c xs) (h2 : Arg w b m d ys) (hn : n ≤ 2000000) (hm : m ≤ 2000000) (ng mg : Bool) (e f : Int) (he0 : -9223372036854775808 ≤ e) (he1 : e ≤ 9223372036854775807) (hf0 : -9223372036854775808 ≤ f) (hf1 : f ≤ 9223372036854775807) :
    Calls Tryd.prog 38 #[.agg #[.bool ng, .slice a n c, .int .i64 e], .agg #[.bool mg, .slice b m d, .int .i64 f]] w fun r w' => r = .returned (.int .i64 (cmpV ng (val xs) e mg (val ys) f)) ∧ Below w.heap.size w w' := by
  have SA := hid fun u (hu : Below w.heap.size w u) => rSign_any3 (h1.below hu) ng e
  have SB := hid fun u (hu : Below w.heap.size w u) => rSign_any3 (h2.below hu) mg f
  have hA := sgn_range ng (val xs)
  unfold cmpV
  by_cases k1 : sgn ng (val xs) < sgn mg (val ys)
  · rw [if_pos k1]; exact rcmp_lt ng mg e f _ _ k1 SA SB
  · rw [if_neg k1]
    by_cases k2 : sgn mg (val ys) < sgn ng (val xs)
    · rw [if_pos k2]; exact rcmp_gt ng mg e f _ _ k2 SA SB
    · rw [if_neg k2]
      have k3 : sgn ng (val xs) = sgn mg (val ys) := by omega
      by_cases hX : val xs = 0
      · rw [if_pos hX]
        have hs := sgn_zero (n := ng).2 hX
        have hY : val ys = 0 := sgn_zero.1 (k3 ▸ hs)
        have e1 : agV (val xs) e (val ys) f = 0 := by unfold agV; rw [if_pos (.inl hX), hX, hY]; rfl
        have HG := hid fun u (hu : Below w.heap.size w u) => against_any (h1.below hu) (h2.below hu) hn hm e f he0 he1 hf0 hf1
        rw [e1] at HG
        exact rcmp_pos ng mg e f _ _ k3 (by omega) 0 SA SB HG
      · rw [if_neg hX]
        have hY : val ys ≠ 0 := fun h => hX (sgn_zero.1 (k3.trans (sgn_zero.2 h)))
        by_cases hng : ng = true
        · rw [if_pos hng]
          have hs : sgn ng (val xs) < 0 := by unfold sgn; rw [if_neg hX, if_pos hng]; omega
          have HG := hid fun u (hu : Below w.heap.size w u) => against_any (h2.below hu) (h1.below hu) hm hn f e hf0 hf1 he0 he1
          have e1 : agV (val ys) f (val xs) e = cmpP (val ys) f (val xs) e := by unfold agV; rw [if_neg (fun h => h.elim hY hX)]
          rw [e1] at HG
          exact rcmp_neg ng mg e f _ _ k3 hs _ SA SB HG
        · rw [if_neg hng]
          have hs : 0 ≤ sgn ng (val xs) := by unfold sgn; rw [if_neg hX, if_neg hng]; omega
          have HG := hid fun u (hu : Below w.heap.size w u) => against_any (h1.below hu) (h2.below hu) hn hm e f he0 he1 hf0 hf1
          have e1 : agV (val xs) e (val ys) f = cmpP (val xs) e (val ys) f := by unfold agV; rw [if_neg (fun h => h.elim hX hY)]
          rw [e1] at HG
          exact rcmp_pos ng mg e f _ _ k3 hs _ SA SB HG
end Go.Proofs.YthilnddhehbjiaaDoor
