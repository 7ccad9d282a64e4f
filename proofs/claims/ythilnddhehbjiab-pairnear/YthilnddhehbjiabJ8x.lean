/- The document's small functions on a number's bits. -/
import Derived.Test.YthilnddhehbjiabW48x
import Derived.Test.YthilnddhehbjiabD32cx
import Derived.Laws.Bits64
import Derived.Laws.Bits64b
namespace Go.Proofs.Ythilnddhehbjiab
open Go.RowKit
set_option linter.unusedVariables false
set_option maxRecDepth 20000
set_option linter.unusedSimpArgs false
attribute [local go_sem] B.f64bits B.f64frombits st_float

/-- A word without its sign; is there a sign; the sign turned. -/
def magW (x : Nat) : Nat := x % 9223372036854775808
def negW (x : Nat) : Bool := decide (9223372036854775808 ≤ x)
def turnW (x : Nat) : Nat := if 9223372036854775808 ≤ x then x - 9223372036854775808 else x + 9223372036854775808

theorem xor63 (r : Nat) (h : r < 9223372036854775808) : r ^^^ 9223372036854775808 = r + 9223372036854775808 := by
  have e : (9223372036854775808 : Nat) = 2 ^ 63 := rfl
  rw [e] at *
  apply Nat.eq_of_testBit_eq
  intro i
  rw [Nat.testBit_xor, Nat.testBit_two_pow, Nat.add_comm r]
  rcases Nat.lt_trichotomy i 63 with hi | hi | hi
  · rw [Nat.testBit_two_pow_add_gt hi, decide_eq_false (show ¬ 63 = i by omega), Bool.xor_false]
  · subst hi
    rw [Nat.testBit_two_pow_add_eq]
    simp
  · have h1 : r.testBit i = false := Nat.testBit_lt_two_pow (Nat.lt_of_lt_of_le h (Nat.pow_le_pow_right (n := 2) (by decide) (show 63 ≤ i by omega)))
    have h2 : (2 ^ 63 + r).testBit i = false := Nat.testBit_lt_two_pow (Nat.lt_of_lt_of_le (show 2 ^ 63 + r < 2 ^ 64 by omega) (Nat.pow_le_pow_right (n := 2) (by decide) (show 64 ≤ i by omega)))
    rw [h1, h2, decide_eq_false (show ¬ 63 = i by omega)]; rfl
theorem xor_turn (x : Nat) (h : x < 18446744073709551616) : x ^^^ 9223372036854775808 = turnW x := by
  unfold turnW
  split
  · rename_i hx
    obtain ⟨r, rfl⟩ : ∃ r, x = r + 9223372036854775808 := ⟨x - 9223372036854775808, by omega⟩
    rw [← xor63 r (by omega), Nat.xor_assoc, Nat.xor_self, Nat.xor_zero, xor63 r (by omega)]; omega
  · exact xor63 x (by omega)
theorem and63 (x : Nat) (h : x < 18446744073709551616) : x &&& 9223372036854775808 = if 9223372036854775808 ≤ x then 9223372036854775808 else 0 := by
  have e : (9223372036854775808 : Nat) = 2 ^ 63 := rfl
  have hb : x.testBit 63 = decide (9223372036854775808 ≤ x) := by
    by_cases hx : 9223372036854775808 ≤ x
    · have h1 : x / 2 ^ 63 = 1 := by omega
      rw [decide_eq_true hx, Nat.testBit_eq_decide_div_mod_eq, h1]; rfl
    · rw [decide_eq_false hx]; exact Nat.testBit_lt_two_pow (by omega)
  apply Nat.eq_of_testBit_eq
  intro i
  rw [Nat.testBit_and]
  by_cases hi : i = 63
  · subst hi
    rw [hb]
    by_cases hx : 9223372036854775808 ≤ x
    · rw [decide_eq_true hx, if_pos hx]; rfl
    · rw [decide_eq_false hx, if_neg hx]; simp
  · have h0 : Nat.testBit 9223372036854775808 i = false := by rw [e, Nat.testBit_two_pow, decide_eq_false (show ¬ 63 = i by omega)]
    rw [h0, Bool.and_false]
    split
    · exact h0.symm
    · simp
theorem andnot63 (x : Nat) (h : x < 18446744073709551616) : bits .andNot .u64 (x : Int) 9223372036854775808 = ((magW x : Nat) : Int) := by
  obtain ⟨s, e, f, he, hf, h1, _⟩ := bwz x h
  rw [h1, B.abs_bw s e f he hf]
  unfold B.bw magW
  cases s <;> simp <;> omega

theorem rOdd_any (w : World) : Calls Try.prog 9 #[] w fun r w' => r = .returned (.float .f64 oddW) ∧ w' = w := by
  go_enter Try.func9, Try.ntmps9
  go_wp2
  exact bodyPost_ret (v := .float .f64 oddW) (by simp [results, Try.results9, go_sem, oddW]) rfl ⟨rfl, rfl⟩
theorem rIsOdd_any (x : Nat) (hx : x < 18446744073709551616) (w : World) : Calls Try.prog 62 #[.float .f64 x] w fun r w' => r = .returned (.bool (nanW x)) ∧ w' = w := by
  have e := andnot63 x hx
  have e2 : decide ((9218868437227405312 : Int) < ((magW x : Nat) : Int)) = nanW x := by unfold nanW magW; rw [decide_eq_decide]; omega
  go_enter Try.func62, Try.ntmps62
  go_wp2
  exact bodyPost_ret (v := .bool (nanW x)) (by simp only [e, e2]; simp [results, Try.results62, go_sem, e2]) rfl ⟨rfl, rfl⟩
theorem rIsEndless_any (x : Nat) (hx : x < 18446744073709551616) (w : World) : Calls Try.prog 63 #[.float .f64 x] w fun r w' => r = .returned (.bool (magW x == 9218868437227405312)) ∧ w' = w := by
  have e := andnot63 x hx
  have e2 : (((magW x : Nat) : Int) == 9218868437227405312) = (magW x == 9218868437227405312) := by rw [Bool.eq_iff_iff, beq_iff_eq, beq_iff_eq]; omega
  go_enter Try.func63, Try.ntmps63
  go_wp2
  exact bodyPost_ret (v := .bool (magW x == 9218868437227405312)) (by simp only [e, e2]; simp only [results, Try.results63]; simp [go_sem, e2]) rfl ⟨rfl, rfl⟩
theorem rIsNought_any (x : Nat) (hx : x < 18446744073709551616) (w : World) : Calls Try.prog 52 #[.float .f64 x] w fun r w' => r = .returned (.bool (magW x == 0)) ∧ w' = w := by
  have e := andnot63 x hx
  have e2 : (((magW x : Nat) : Int) == 0) = (magW x == 0) := by rw [Bool.eq_iff_iff, beq_iff_eq, beq_iff_eq]; omega
  go_enter Try.func52, Try.ntmps52
  go_wp2
  exact bodyPost_ret (v := .bool (magW x == 0)) (by simp only [e, e2]; simp only [results, Try.results52]; simp [go_sem, e2]) rfl ⟨rfl, rfl⟩
theorem rNegW_any (x : Nat) (hx : x < 18446744073709551616) (w : World) : Calls Try.prog 64 #[.float .f64 x] w fun r w' => r = .returned (.bool (negW x)) ∧ w' = w := by
  have e0 : bits .and .u64 (x : Int) 9223372036854775808 = (((x &&& 9223372036854775808 : Nat)) : Int) := bits_and_u64_nat x 9223372036854775808 hx (by decide)
  rw [and63 x hx] at e0
  obtain ⟨z, hz⟩ : ∃ z, bits .and .u64 (x : Int) 9223372036854775808 = z := ⟨_, rfl⟩
  have e2 : (z != 0) = negW x := by
    rw [← hz, e0]
    unfold negW
    by_cases h : 9223372036854775808 ≤ x
    · rw [if_pos h, decide_eq_true h]; rfl
    · rw [if_neg h, decide_eq_false h]; rfl
  clear e0
  go_enter Try.func64, Try.ntmps64
  go_wp2
  exact bodyPost_ret (v := .bool (negW x)) (by simp only [hz, e2]; simp [results, Try.results64, go_sem]) rfl ⟨rfl, rfl⟩
theorem rTurned_any (x : Nat) (hx : x < 18446744073709551616) (w : World) : Calls Try.prog 10 #[.float .f64 x] w fun r w' => r = .returned (.float .f64 (turnW x)) ∧ w' = w := by
  have e : bits .xor .u64 (x : Int) 9223372036854775808 = (((x ^^^ 9223372036854775808 : Nat)) : Int) := bits_xor_u64_nat x 9223372036854775808 hx (by decide)
  rw [xor_turn x hx] at e
  go_enter Try.func10, Try.ntmps10
  go_wp2
  exact bodyPost_ret (v := .float .f64 (turnW x)) (by simp only [e]; simp [results, Try.results10, go_sem]) rfl ⟨rfl, rfl⟩
theorem rsigned_any (x : Nat) (hx : x < 9223372036854775808) (n : Bool) (w : World) : Calls Try.prog 65 #[.int .u64 x, .bool n] w fun r w' => r = .returned (.float .f64 (wd64 n x)) ∧ w' = w := by
  have e := B.or_sign (x : Int) (by omega) (by omega)
  have e2 : ((x : Int) + 9223372036854775808).toNat = x + 9223372036854775808 := by omega
  go_enter Try.func65, Try.ntmps65
  cases n
  · go_wp2
    exact bodyPost_ret (v := .float .f64 (wd64 false x)) (by simp [results, Try.results65, go_sem, wd64]) rfl ⟨rfl, rfl⟩
  · go_wp2
    exact bodyPost_ret (v := .float .f64 (wd64 true x)) (by simp only [e, e2]; simp [results, Try.results65, go_sem, wd64]) rfl ⟨rfl, rfl⟩
theorem rSame_w (x y : Nat) (w : World) : Calls Try.prog 26 #[.float .f64 x, .float .f64 y] w fun r w' => r = .returned (.bool (x == y)) ∧ w' = w := by
  have e2 : ((x : Int) == (y : Int)) = (x == y) := by rw [Bool.eq_iff_iff, beq_iff_eq, beq_iff_eq]; omega
  go_enter Try.func26, Try.ntmps26
  go_wp2
  exact bodyPost_ret (v := .bool (x == y)) (by simp [results, Try.results26, go_sem, e2]) rfl ⟨rfl, rfl⟩

theorem rSamePair_core (a b c d : Nat) (p q : Bool) (w : World) (H1 : Hid (∀ u, Calls Try.prog 26 #[.float .f64 a, .float .f64 c] u fun r w' => r = .returned (.bool p) ∧ w' = u)) (H2 : Hid (∀ u, Calls Try.prog 26 #[.float .f64 b, .float .f64 d] u fun r w' => r = .returned (.bool q) ∧ w' = u)) :
    Calls Try.prog 16 #[.agg #[.float .f64 a, .float .f64 b], .agg #[.float .f64 c, .float .f64 d]] w fun r w' => r = .returned (.bool (p && q)) ∧ Below w.heap.size w w' := by
  cases p <;> cases q
  all_goals
    go_enter Try.func16, Try.ntmps16
    go_wp2_with fail
    refine (Calls.mono (H1.out _)) ?_
    rintro r w1 ⟨rfl, rfl⟩
    go_wp2_with fail
    refine (Calls.mono (H2.out _)) ?_
    rintro r w1 ⟨rfl, rfl⟩
    clear H1 H2
    go_wp2
    exact bodyPost_ret (by simp [results, Try.results16, go_sem]) rfl ⟨rfl, (by repeat (first | exact Below.refl _ _ | exact Nat.le_refl _ | (simp only [World.size_alloc, World.size_setCell]; omega) | refine Below.alloc ?_ ?_ _ | refine Below.drew ?_))⟩
theorem rSamePair_any (a b c d : Nat) (w : World) : Calls Try.prog 16 #[.agg #[.float .f64 a, .float .f64 b], .agg #[.float .f64 c, .float .f64 d]] w fun r w' => r = .returned (.bool (a == c && b == d)) ∧ Below w.heap.size w w' :=
  rSamePair_core a b c d _ _ w (hid fun u => rSame_w a c u) (hid fun u => rSame_w b d u)
theorem is_any (a b c d : Nat) (w : World) : Calls Try.prog 11 #[.agg #[.float .f64 a, .float .f64 b], .float .f64 c, .float .f64 d] w fun r w' => r = .returned (.bool (a == c && b == d)) ∧ Below w.heap.size w w' := by
  have H1 := hid fun u => rSamePair_any a b c d u
  go_enter Try.func11, Try.ntmps11
  go_wp2_with fail
  refine (Calls.mono (H1.out _)) ?_
  rintro r w1 ⟨rfl, hb⟩
  go_wp2
  exact bodyPost_ret (v := .bool (a == c && b == d)) (by simp [results, Try.results11, go_sem]) rfl ⟨rfl, (below_alloc w _).trans (hb.mono (by simp))⟩
end Go.Proofs.Ythilnddhehbjiab

/- DyadNear: numbers' own values, how far apart. -/
namespace Go.Proofs.Ythilnddhehbjiab
open Go.RowKit
set_option linter.unusedVariables false
set_option maxRecDepth 20000

/-- What Of answers of a word. -/
def ofK (s : Bool) (K : Nat) : Option (Bool × Nat × Int) := ofR s (K / 4503599627370496) (K % 4503599627370496)
theorem ofK_val (s : Bool) (K : Nat) (hK : K < 9218868437227405312) : ∃ n X e, ofK s K = some (n, X, e) ∧ Frm n X e ∧ (X ≠ 0 → n = s) ∧ (X = 0 ↔ K = 0) ∧ ∀ Bs : Int, Bs ≤ -1074 → zv Bs (n, X, e) = sg1 s * ((vK K * 2 ^ (-1074 - Bs).toNat : Nat) : Int) := by
  obtain ⟨x, hx⟩ : ∃ x, K / 4503599627370496 = x := ⟨_, rfl⟩
  obtain ⟨f, hf⟩ : ∃ f, K % 4503599627370496 = f := ⟨_, rfl⟩
  have hxl : x < 2047 := by omega
  have hfl : f < 4503599627370496 := by omega
  obtain ⟨M, hM⟩ : ∃ M, (if x = 0 then f else f + 4503599627370496) = M := ⟨_, rfl⟩
  obtain ⟨E, hE⟩ : ∃ E : Int, (if x = 0 then (-1074 : Int) else (x : Int) - 1075) = E := ⟨_, rfl⟩
  have hME : (x = 0 ∧ M = f ∧ E = -1074) ∨ (x ≠ 0 ∧ M = f + 4503599627370496 ∧ E = (x : Int) - 1075) := by
    by_cases h : x = 0
    · rw [if_pos h] at hM hE; exact .inl ⟨h, hM.symm, hE.symm⟩
    · rw [if_neg h] at hM hE; exact .inr ⟨h, hM.symm, hE.symm⟩
  have hMl : M < 9007199254740992 := by omega
  have hO : ofK s K = mkS s M E := by unfold ofK ofR; rw [hx, hf, if_neg (by omega), hM, hE]
  have hsome : (mkS s M E).isSome = true := by
    unfold mkS
    split
    · rfl
    · rename_i h0
      have hb := bl_le53 M hMl
      obtain ⟨_, _, _, hbb⟩ := odd_part M h0
      rw [if_neg (by omega)]
      rfl
  obtain ⟨⟨n, X, e⟩, hz⟩ := Option.isSome_iff_exists.1 hsome
  have hKw : K = (E + 1074).toNat * 4503599627370496 + M := by rcases hME with h | h <;> omega
  have hv : vK K = M * 2 ^ (E + 1074).toNat := by
    rw [hKw]; exact vK_word _ _ (by rcases hME with h | h; left; omega; right; omega) (by omega)
  have hM0 : M = 0 ↔ K = 0 := by rcases hME with h | h <;> omega
  refine ⟨n, X, e, by rw [hO, hz], mkS_frm hz, ?_, ?_, ?_⟩
  · intro hX
    unfold mkS at hz
    split at hz
    · cases hz; exact absurd rfl hX
    · split at hz
      · cases hz
      · cases hz; rfl
  · rw [← hM0]
    constructor
    · intro hX
      unfold mkS at hz
      split at hz
      · assumption
      · rename_i h0
        split at hz
        · cases hz
        · obtain ⟨m, _, hd, _⟩ := odd_part M h0
          cases hz
          omega
    · intro h0
      unfold mkS at hz
      rw [if_pos h0] at hz
      cases hz; rfl
  · intro Bs hBs
    rw [zv_mkS hz Bs (.inr (by omega)), hv, Nat.mul_assoc, ← Nat.pow_add, show (E + 1074).toNat + (-1074 - Bs).toNat = (E - Bs).toNat by omega]

theorem frm_base {n : Bool} {X : Nat} {e : Int} (F : Frm n X e) : ∃ Bs : Int, Bs ≤ -1048576 ∧ Bs ≤ e := ⟨-1048576, by omega, F.down⟩

/-- How far apart: what the law's gap answers. -/
def gapO (o : Option (Bool × Nat × Int)) (n : Bool) (X : Nat) (e : Int) : Option (Bool × Nat × Int) := addD (rf o) (mkS (!n) X e)
def gapA (o : Option (Bool × Nat × Int)) (n : Bool) (X : Nat) (e : Int) : Option (Bool × Nat × Int) :=
  if sgn (dN (gapO o n X e)) (dX (gapO o n X e)) < 0 then mkS (!(dN (gapO o n X e))) (dX (gapO o n X e)) (dE (gapO o n X e)) else gapO o n X e

theorem gap_val (s : Bool) (K : Nat) (hK : K < 9218868437227405312) {n : Bool} {X : Nat} {e : Int} (F : Frm n X e) (h : (gapO (ofK s K) n X e).isSome = true) :
    Fv (-1048576) (gapA (ofK s K) n X e) (((sg1 s * ((vK K * 2 ^ (-1074 - -1048576 : Int).toNat : Nat) : Int) - sg1 n * ((X * 2 ^ (e - -1048576).toNat : Nat) : Int)).natAbs : Nat) : Int) := by
  obtain ⟨n', X', e', ho, F', _, _, hv⟩ := ofK_val s K hK
  have FO : Fv (-1048576) (ofK s K) (sg1 s * ((vK K * 2 ^ (-1074 - -1048576 : Int).toNat : Nat) : Int)) := ⟨n', X', e', ho, F', hv _ (by omega)⟩
  have FN : Fv (-1048576) (mkS (!n) X e) (-(sg1 n * ((X * 2 ^ (e - -1048576).toNat : Nat) : Int))) := Fv.neg F.down (by rw [mkS_idem F]; rfl)
  have FG := FO.rf.add (by omega) FN h
  generalize sg1 s * ((vK K * 2 ^ (-1074 - -1048576 : Int).toNat : Nat) : Int) = a at FG ⊢
  generalize sg1 n * ((X * 2 ^ (e - -1048576).toNat : Nat) : Int) = b at FG ⊢
  have FG' : Fv (-1048576) (gapO (ofK s K) n X e) (a + -b) := FG
  obtain ⟨gn, gX, ge, hg, FF, hgz⟩ := FG'.ex
  unfold gapA
  rw [hg]
  show Fv (-1048576) (if sgn gn gX < 0 then mkS (!gn) gX ge else some (gn, gX, ge)) _
  have hs := sgn_z gn gX ge (-1048576)
  rw [hgz] at hs
  by_cases hneg : sgn gn gX < 0
  · rw [if_pos hneg]
    have hlt : a + -b < 0 := by
      rw [hs] at hneg
      unfold cmpZ at hneg
      by_cases q : a + -b < 0
      · exact q
      · rw [if_neg q] at hneg
        split at hneg <;> omega
    have := Fv.neg (n := gn) (X := gX) (e := ge) FF.down (by rw [mkS_idem FF]; rfl)
    have hz2 : sg1 gn * ((gX * 2 ^ (ge - -1048576).toNat : Nat) : Int) = a + -b := hgz
    rw [hz2] at this
    rw [show (((a - b).natAbs : Nat) : Int) = -(a + -b) by omega]
    exact this
  · rw [if_neg hneg]
    have hge : 0 ≤ a + -b := by
      rw [hs] at hneg
      unfold cmpZ at hneg
      by_cases q : a + -b < 0
      · rw [if_pos q] at hneg; omega
      · omega
    rw [show (((a - b).natAbs : Nat) : Int) = a + -b by omega]
    exact ⟨gn, gX, ge, rfl, FF, hgz⟩

theorem cmp_Fv {o p : Option (Bool × Nat × Int)} {x y : Int} (h1 : Fv (-1048576) o x) (h2 : Fv (-1048576) p y) : cmpV (dN o) (dX o) (dE o) (dN p) (dX p) (dE p) = cmpZ x y := by
  obtain ⟨n, X, e, rfl, F, hx⟩ := h1.ex
  obtain ⟨m, Y, f, rfl, G, hy⟩ := h2.ex
  show cmpV n X e m Y f = _
  rw [cmpV_z n X e m Y f (-1048576) F.down G.down, ← hx, ← hy]
  rfl

theorem near_near (mode : Int) (hmode : mode = 0 ∨ mode = 4) {n : Bool} {X : Nat} {e : Int} (F : Frm n X e) (hK : rW mode n X e < 9218868437227405312) (s : Bool) (L : Nat) (hL : L < 9218868437227405312)
    (h1 : (gapO (ofK s L) n X e).isSome = true) (h2 : (gapO (ofK (rS n X) (rW mode n X e)) n X e).isSome = true) :
    0 ≤ cmpV (dN (gapA (ofK s L) n X e)) (dX (gapA (ofK s L) n X e)) (dE (gapA (ofK s L) n X e)) (dN (gapA (ofK (rS n X) (rW mode n X e)) n X e)) (dX (gapA (ofK (rS n X) (rW mode n X e)) n X e)) (dE (gapA (ofK (rS n X) (rW mode n X e)) n X e)) := by
  rw [cmp_Fv (gap_val s L hL F h1) (gap_val _ _ hK F h2), cmpZ_ge]
  apply Int.ofNat_le.2
  by_cases hX : X = 0
  · unfold rS rW
    rw [if_pos hX, if_pos hX, hX]
    rw [show vK 0 = 0 from B.val_zero _, Nat.zero_mul, Nat.zero_mul, Int.natCast_zero, Int.mul_zero, Int.mul_zero]
    exact Nat.zero_le _
  · have Ls := lies X e (frm_odd F hX) F.down F.up (-1048576) F.down (by omega)
    unfold rS
    unfold rW at hK ⊢
    rw [if_neg hX] at hK ⊢
    rw [if_neg hX]
    rw [rndK_eq] at hK ⊢
    have k1 := rK_near mode n hmode Ls hK L
    have k0 := rK_near mode n hmode Ls hK 0
    rw [show vK 0 = 0 from B.val_zero _, Nat.zero_mul] at k0
    generalize vK (rK mode n (flK X e) (plc 53 (-1074) 1024 X e).2.2.1 (plc 53 (-1074) 1024 X e).2.2.2) * 2 ^ (-1074 - -1048576 : Int).toNat = A at k1 k0 ⊢
    generalize vK L * 2 ^ (-1074 - -1048576 : Int).toNat = C at k1 ⊢
    generalize X * 2 ^ (e - -1048576).toNat = V at k1 k0 ⊢
    cases n <;> cases s <;> simp only [sg1, Bool.false_eq_true, if_true, if_false] <;> omega

end Go.Proofs.Ythilnddhehbjiab

/- What the model's sums and products are, by words; what the document's forms are rounded to: the same word. -/
namespace Go.Proofs.Ythilnddhehbjiab
open Go.RowKit J
set_option linter.unusedVariables false
set_option maxRecDepth 20000

theorem wd_word (s : Bool) (K : Nat) : wd64 s K = Ieee.double.word s K := by
  unfold wd64
  have e : Ieee.double.word s K = (if s then 9223372036854775808 + K else K) := rfl
  rw [e]
  cases s <;> simp; omega
theorem hInf : Ieee.double.infRung < Ieee.double.signWeight := by rw [B.dInf, B.dSign]; omega
theorem hBin : Ieee.double.binade ≤ Ieee.double.infRung := by rw [B.dInf, B.dBin]; omega
theorem wd_of (x : Nat) (h : x < 18446744073709551616) : x = wd64 (negW x) (magW x) := by
  unfold wd64 negW magW
  by_cases hx : 9223372036854775808 ≤ x
  · rw [decide_eq_true hx, if_pos rfl]; omega
  · rw [decide_eq_false hx, if_neg (by simp)]; omega
theorem magW_wd (s : Bool) (K : Nat) (h : K < 9223372036854775808) : magW (wd64 s K) = K ∧ negW (wd64 s K) = s ∧ wd64 s K < 18446744073709551616 := by
  unfold magW negW wd64
  cases s <;> simp <;> omega

/-- The model's sum of two finite numbers. -/
theorem add_wd (s t : Bool) (K L : Nat) (hK : K < 9218868437227405312) (hL : L < 9218868437227405312) :
    ∃ R, NE R (B.sg s (vK K) + B.sg t (vK L)).natAbs 1 ∧ Ieee.double.add (wd64 s K) (wd64 t L) = some (wd64 (if B.sg s (vK K) + B.sg t (vK L) = 0 then s && t else decide (B.sg s (vK K) + B.sg t (vK L) < 0)) (min R 9218868437227405312)) := by
  obtain ⟨m, j, e1, v1⟩ := B.read_word Ieee.double s K (by rw [B.dInf]; exact hK) hInf
  obtain ⟨n, k, e2, v2⟩ := B.read_word Ieee.double t L (by rw [B.dInf]; exact hL) hInf
  obtain ⟨mag, c, es, ev⟩ := B.sum_num s t m n j k Ieee.double.leastPlace
  rw [v1, v2] at es ev
  rw [wd_word, wd_word]
  unfold Ieee.Format.add
  rw [e1, e2, es]
  show ∃ R, NE R (B.sg s (vK K) + B.sg t (vK L)).natAbs 1 ∧ some (Ieee.double.nearest _ mag _) = _
  generalize hT : B.sg s (vK K) + B.sg t (vK L) = T at *
  by_cases hm : mag = 0
  · subst hm
    have hT0 : T = 0 := by rw [Nat.zero_mul] at ev; omega
    refine ⟨0, NEf.own (by decide) (by rw [hT0, B.val_zero]; rfl), ?_⟩
    unfold Ieee.Format.nearest
    rw [if_pos rfl, if_pos hT0, wd_word, Nat.zero_min]
  · obtain ⟨R, h1, h2⟩ := nearest_ne (if T = 0 then s && t else decide (T < 0)) mag c 0 hm
    refine ⟨R, by rw [ev, Nat.pow_zero] at h2; exact h2, ?_⟩
    rw [show Ieee.double.leastPlace + (c : Int) - ((0 : Nat) : Int) = Ieee.double.leastPlace + (c : Int) by omega] at h1
    rw [h1, wd_word, B.dInf]

theorem leastP : Ieee.double.leastPlace = -1074 := by decide
/-- The model's product of two finite numbers. -/
theorem mul_wd (a : Nat) (ha : a = 1074) (s t : Bool) (K L : Nat) (hK : K < 9218868437227405312) (hL : L < 9218868437227405312) :
    ∃ R, NE R (vK K * vK L) (2 ^ a) ∧ Ieee.double.mul (wd64 s K) (wd64 t L) = some (wd64 (s != t) (min R 9218868437227405312)) := by
  obtain ⟨m, j, e1, v1⟩ := B.read_word Ieee.double s K (by rw [B.dInf]; exact hK) hInf
  obtain ⟨n, k, e2, v2⟩ := B.read_word Ieee.double t L (by rw [B.dInf]; exact hL) hInf
  have hp : vK K * vK L = m * n * 2 ^ (j + k) := by
    show B.val Ieee.double K * B.val Ieee.double L = _
    rw [← v1, ← v2, Nat.pow_add, Nat.mul_mul_mul_comm]
  rw [wd_word, wd_word]
  unfold Ieee.Format.mul
  rw [e1, e2]
  show ∃ R, _ ∧ some (Ieee.double.nearest (s ^^ t) (m * n) (Ieee.double.leastPlace + (j : Int) + (Ieee.double.leastPlace + (k : Int)))) = _
  have hx : (s ^^ t) = (s != t) := by cases s <;> cases t <;> rfl
  rw [hx]
  by_cases hm : m * n = 0
  · refine ⟨0, NEf.own (Nat.two_pow_pos _) (by rw [hp, hm, B.val_zero, Nat.zero_mul, Nat.zero_mul]), ?_⟩
    unfold Ieee.Format.nearest
    rw [if_pos hm, wd_word, Nat.zero_min]
  · obtain ⟨R, h1, h2⟩ := nearest_ne (s != t) (m * n) (j + k) a hm
    refine ⟨R, by rw [hp]; exact h2, ?_⟩
    rw [show Ieee.double.leastPlace + (j : Int) + (Ieee.double.leastPlace + (k : Int)) = Ieee.double.leastPlace + ((j + k : Nat) : Int) - (a : Int) by rw [leastP, ha]; omega, h1, wd_word, B.dInf]

/-- What the document's search finds is the nearest, between two the even one. -/
theorem rK_ne {K R : Nat} {t n : Bool} {m : Int} {V S : Nat} (h : Lies K t m V S) (hR : NE R V S) : rK 0 n K t m = min R 9218868437227405312 := by
  have hf := h.fin
  have hS := h.pos
  cases t with
  | true =>
    have : NE K V S := NEf.own hS (h.one rfl)
    rw [hR.one this hS]
    unfold rK
    rw [if_pos rfl, Nat.min_eq_left (by omega)]
  | false =>
    have hlow : B.val Ieee.double K * S < V := h.low rfl
    have hmids : V < B.val Ieee.double (K + 1) * S → (m = -1 ∧ 2 * V < B.val Ieee.double K * S + B.val Ieee.double (K + 1) * S ∨ m = 0 ∧ 2 * V = B.val Ieee.double K * S + B.val Ieee.double (K + 1) * S ∨ m = 1 ∧ B.val Ieee.double K * S + B.val Ieee.double (K + 1) * S < 2 * V) := h.mids rfl
    have hhigh : V < B.val Ieee.double (K + 1) * S ∨ (K = 9218868437227405311 ∧ m = 1) := h.high rfl
    unfold rK
    rw [if_neg (by simp)]
    by_cases hh : V < B.val Ieee.double (K + 1) * S
    · have e : (B.val Ieee.double K + B.val Ieee.double (K + 1)) * S = B.val Ieee.double K * S + B.val Ieee.double (K + 1) * S := Nat.add_mul _ _ _
      have s2 : B.val Ieee.double (K + 1) * S < B.val Ieee.double (K + 2) * S := Nat.mul_lt_mul_of_pos_right (B.val_lt_succ Ieee.double (K + 1)) hS
      have eU : (B.val Ieee.double (K + 1) + B.val Ieee.double (K + 2)) * S = B.val Ieee.double (K + 1) * S + B.val Ieee.double (K + 2) * S := Nat.add_mul _ _ _
      have stay : (2 * V < B.val Ieee.double K * S + B.val Ieee.double (K + 1) * S ∨ 2 * V = B.val Ieee.double K * S + B.val Ieee.double (K + 1) * S ∧ K % 2 = 0) → NE K V S := by
        intro hc
        refine ⟨by rw [e]; omega, fun h1 => by rw [e] at h1; omega, fun h0 => ?_, fun h0 h1 => ?_⟩
        · have := Nat.mul_lt_mul_of_pos_right (B.val_lt Ieee.double (show K - 1 < K by omega)) hS
          rw [Nat.add_mul]; omega
        · have := Nat.mul_lt_mul_of_pos_right (B.val_lt Ieee.double (show K - 1 < K by omega)) hS
          rw [Nat.add_mul] at h1; omega
      have go : (B.val Ieee.double K * S + B.val Ieee.double (K + 1) * S < 2 * V ∨ 2 * V = B.val Ieee.double K * S + B.val Ieee.double (K + 1) * S ∧ K % 2 = 1) → NE (K + 1) V S := by
        intro hc
        refine ⟨by rw [eU]; omega, fun h1 => by rw [eU] at h1; omega, fun h0 => ?_, fun h0 h1 => ?_⟩
        · rw [show K + 1 - 1 = K from rfl, e]; omega
        · rw [show K + 1 - 1 = K from rfl, e] at h1; omega
      rcases hmids hh with ⟨h1, h2⟩ | ⟨h1, h2⟩ | ⟨h1, h2⟩
      · have ho : outS 0 K m n = false := by unfold outS; subst h1; simp
        rw [ho, if_neg (by simp), hR.one (stay (.inl h2)) hS, Nat.min_eq_left (by omega)]
      · by_cases hp : K % 2 = 1
        · have ho : outS 0 K m n = true := by unfold outS; subst h1; simp [hp]
          rw [ho, if_pos rfl, hR.one (go (.inr ⟨h2, hp⟩)) hS, Nat.min_eq_left (by omega)]
        · have ho : outS 0 K m n = false := by unfold outS; subst h1; simp [hp]
          rw [ho, if_neg (by simp), hR.one (stay (.inr ⟨h2, by omega⟩)) hS, Nat.min_eq_left (by omega)]
      · have ho : outS 0 K m n = true := by unfold outS; subst h1; simp
        rw [ho, if_pos rfl, hR.one (go (.inl h2)) hS, Nat.min_eq_left (by omega)]
    · obtain ⟨h1, h2⟩ : K = 9218868437227405311 ∧ m = 1 := by
        rcases hhigh with q | q
        · exact absurd q hh
        · exact q
      have ho : outS 0 K m n = true := by unfold outS; subst h2; simp
      rw [ho, if_pos rfl]
      have hRi : 9218868437227405312 ≤ R := by
        apply Nat.le_of_not_lt; intro hlt
        have u := hR.up
        have m1 : B.val Ieee.double R * S < B.val Ieee.double (R + 1) * S := Nat.mul_lt_mul_of_pos_right (B.val_lt_succ Ieee.double R) hS
        have m2 : B.val Ieee.double (R + 1) * S ≤ B.val Ieee.double (K + 1) * S := Nat.mul_le_mul_right S (vmono (by omega))
        rw [Nat.add_mul] at u
        omega
      rw [Nat.min_eq_right hRi]; omega

/-- A form's rounding, by its value. -/
theorem rW_ne {n : Bool} {X : Nat} {e : Int} (F : Frm n X e) (hX : X ≠ 0) (Bs : Int) (hB : Bs ≤ -1048576) {V U S R : Nat} (h1 : X * 2 ^ (e - Bs).toNat = V * S) (h2 : 2 ^ (-1074 - Bs).toNat = U * S) (hR : NE R V U) : rW 0 n X e = min R 9218868437227405312 := by
  have ho := frm_odd F hX
  have L := lies X e ho F.down F.up Bs (by have := F.down; omega) (by omega)
  have hS : 0 < S := by
    rcases Nat.eq_zero_or_pos S with h | h
    · rw [h, Nat.mul_zero] at h2; have := Nat.two_pow_pos (-1074 - Bs).toNat; omega
    · exact h
  unfold rW
  rw [if_neg hX, rndK_eq]
  rw [h1, h2] at L
  exact rK_ne L (hR.scale S hS)
end Go.Proofs.Ythilnddhehbjiab

/- Forms by their values in units of 2^-2148; sums, products, roundings of forms of numbers. -/
namespace Go.Proofs.Ythilnddhehbjiab
open Go.RowKit J
set_option linter.unusedVariables false
set_option maxRecDepth 20000

theorem exU (a : Nat) : ∃ u : Nat, u = 2 ^ a := ⟨_, rfl⟩
def EU : Nat := 1074
def ES : Nat := 2095004
def EH : Nat := 1047502
/-- 2^1074, 2^2095004: never reckoned. -/
noncomputable def UU : Nat := Classical.choose (exU EU)
noncomputable def SS : Nat := Classical.choose (exU ES)
theorem U_eq : UU = 2 ^ EU := Classical.choose_spec (exU EU)
theorem S_eq : SS = 2 ^ ES := Classical.choose_spec (exU ES)
theorem U_pos : 0 < UU := by rw [U_eq]; exact Nat.two_pow_pos _
theorem S_pos : 0 < SS := by rw [S_eq]; exact Nat.two_pow_pos _
theorem EUS : EU + ES = 2096078 := by unfold EU ES; rfl
theorem EHH : EH + EH = ES := by unfold EH ES; rfl
theorem US (a : Nat) (h : a = 2096078) : 2 ^ a = UU * SS := by
  rw [U_eq, S_eq, ← Nat.pow_add, EUS, h]
theorem mkSz (n : Bool) (e : Int) : mkS n 0 e = some (false, 0, 0) := by unfold mkS; rw [if_pos rfl]

/-- A form, what it stands for (in units of 2^-2148), where its bits lie. -/
structure Fo (o : Option (Bool × Nat × Int)) (z : Int) (L H : Int) : Prop where
  ex : ∃ n X e, o = some (n, X, e) ∧ Frm n X e ∧ zv (-2097152) (n, X, e) = z * (SS : Int) ∧ (X = 0 ∨ L ≤ e ∧ e + (bl X : Int) ≤ H)

theorem Fo.frm {n : Bool} {X : Nat} {e z L H : Int} (h : Fo (some (n, X, e)) z L H) : Frm n X e ∧ zv (-2097152) (n, X, e) = z * (SS : Int) ∧ (X = 0 ∨ L ≤ e ∧ e + (bl X : Int) ≤ H) := by
  obtain ⟨n', X', e', h1, h2, h3, h4⟩ := h.ex
  cases h1
  exact ⟨h2, h3, h4⟩
theorem Fo.isS {o : Option (Bool × Nat × Int)} {z L H : Int} (h : Fo o z L H) : o.isSome = true := by
  obtain ⟨n', X', e', h1, _⟩ := h.ex; rw [h1]; rfl

theorem mkS_sz (n : Bool) (Z : Nat) (f L H : Int) (hZ : Z ≠ 0) (h1 : L ≤ f) (h2 : f + (bl Z : Int) ≤ H) (hL : -1000000 ≤ L) (hH : H ≤ 1000000) (hd : H - L ≤ 262144) :
    ∃ X e, mkS n Z f = some (n, X, e) ∧ X ≠ 0 ∧ L ≤ e ∧ e + (bl X : Int) ≤ H := by
  obtain ⟨m, e0, e1, e2⟩ := odd_part Z hZ
  unfold mkS
  rw [if_neg hZ, if_neg (by omega)]
  exact ⟨_, _, rfl, by omega, by omega, by omega⟩

theorem blLe {X m : Nat} (h : X < 2 ^ m) : bl X ≤ m := by
  apply Nat.le_of_not_lt; intro hh
  have := (bl_gt X m).1 hh
  omega
theorem lt_bl (X : Nat) : X < 2 ^ bl X := bl_lt X

theorem addUp_sz (n : Bool) (X : Nat) (e : Int) (m : Bool) (Y : Nat) (f L H : Int) (hX : X ≠ 0) (hY : Y ≠ 0) (hfe : f ≤ e) (h1 : L ≤ f) (h2 : e + (bl X : Int) ≤ H) (h3 : f + (bl Y : Int) ≤ H) (hL : -1000000 ≤ L) (hH : H ≤ 999999) (hd : H - L ≤ 262143) :
    ∃ n' Z g, addUp n X e m Y f = some (n', Z, g) ∧ (Z = 0 ∨ L ≤ g ∧ g + (bl Z : Int) ≤ H + 1) := by
  obtain ⟨d, hdd⟩ : ∃ d : Nat, (e - f).toNat = d := ⟨_, rfl⟩
  have hb : X * 2 ^ d < 2 ^ (bl X + d) := by rw [Nat.pow_add]; exact Nat.mul_lt_mul_of_pos_right (lt_bl X) (Nat.two_pow_pos _)
  obtain ⟨q, hq⟩ : ∃ q : Nat, max (bl X + d) (bl Y) = q := ⟨_, rfl⟩
  have q1 : X * 2 ^ d < 2 ^ q := Nat.lt_of_lt_of_le hb (Nat.pow_le_pow_right (by decide) (by omega))
  have q2 : Y < 2 ^ q := Nat.lt_of_lt_of_le (lt_bl Y) (Nat.pow_le_pow_right (by decide) (by omega))
  have q3 : 2 ^ (q + 1) = 2 ^ q + 2 ^ q := by rw [Nat.pow_succ]; omega
  have hq4 : f + (q : Int) ≤ H := by omega
  have out : ∀ (n'' : Bool) (Z : Nat), Z < 2 ^ (q + 1) → ∃ n' Z' g, mkS n'' Z f = some (n', Z', g) ∧ (Z' = 0 ∨ L ≤ g ∧ g + (bl Z' : Int) ≤ H + 1) := by
    intro n'' Z hZ
    by_cases h0 : Z = 0
    · subst h0; rw [mkSz]; exact ⟨_, _, _, rfl, .inl rfl⟩
    · have := blLe hZ
      obtain ⟨X', e', k1, k2, k3, k4⟩ := mkS_sz n'' Z f L (H + 1) h0 h1 (by omega) hL (by omega) (by omega)
      exact ⟨_, _, _, k1, .inr ⟨k3, k4⟩⟩
  unfold addUp
  rw [hdd, if_neg (by omega)]
  split
  · exact out _ _ (by omega)
  · split
    · exact out _ _ (by omega)
    · exact out _ _ (by omega)
theorem addD_sz {o p : Option (Bool × Nat × Int)} {x y L H : Int} (h1 : Fo o x L H) (h2 : Fo p y L H) (hL : -1000000 ≤ L) (hH : H ≤ 999999) (hd : H - L ≤ 262143) : ∃ n Z g, addD o p = some (n, Z, g) ∧ (Z = 0 ∨ L ≤ g ∧ g + (bl Z : Int) ≤ H + 1) := by
  obtain ⟨n, X, e, rfl, F, _, b1⟩ := h1.ex
  obtain ⟨m, Y, f, rfl, G, _, b2⟩ := h2.ex
  unfold addD addF
  simp only
  by_cases hX : X = 0
  · rw [if_pos hX]; exact ⟨_, _, _, rfl, by omega⟩
  · rw [if_neg hX]
    by_cases hY : Y = 0
    · rw [if_pos hY]; exact ⟨_, _, _, rfl, by omega⟩
    · rw [if_neg hY]
      by_cases hlt : e < f
      · rw [if_pos hlt]; exact addUp_sz m Y f n X e L H hY hX (by omega) (by omega) (by omega) (by omega) hL hH hd
      · rw [if_neg hlt]; exact addUp_sz n X e m Y f L H hX hY (by omega) (by omega) (by omega) (by omega) hL hH hd
/-- Sums. -/
theorem Fo.add {o p : Option (Bool × Nat × Int)} {x y L H : Int} (h1 : Fo o x L H) (h2 : Fo p y L H) (hL : -1000000 ≤ L) (hH : H ≤ 999999) (hd : H - L ≤ 262143) : Fo (addD o p) (x + y) L (H + 1) := by
  obtain ⟨n, Z, g, hz, hb⟩ := addD_sz h1 h2 hL hH hd
  obtain ⟨n1, X1, e1, r1, F1, v1, _⟩ := h1.ex
  obtain ⟨n2, X2, e2, r2, F2, v2, _⟩ := h2.ex
  have V := Fv.add (B := -2097152) (by omega) ⟨n1, X1, e1, r1, F1, v1⟩ ⟨n2, X2, e2, r2, F2, v2⟩ (by rw [hz]; rfl)
  obtain ⟨n', Z', g', r, F, v⟩ := V.ex
  rw [hz] at r
  cases r
  exact ⟨n, Z, g, hz, F, by rw [v, Int.add_mul], hb⟩

theorem zvUp {x : Bool × Nat × Int} (B C : Int) (hB : x.2.1 = 0 ∨ B ≤ x.2.2) (hC : C ≤ B) : zv C x = zv B x * ((2 ^ (B - C).toNat : Nat) : Int) := by
  unfold zv
  rcases hB with h | h
  · rw [h]; simp
  · rw [show (x.2.2 - C).toNat = (x.2.2 - B).toNat + (B - C).toNat by omega, Nat.pow_add, ← Nat.mul_assoc, Int.natCast_mul, Int.mul_assoc]

theorem wide1 (a : Nat) (h : a = 1048576) : ∀ x : Int, x * (UU : Int) * (SS : Int) = x * ((2 ^ EH : Nat) : Int) * ((2 ^ a : Nat) : Int) := by
  intro x
  have e : EU + ES = EH + a := by rw [h]; unfold EU ES EH; rfl
  have e2 : UU * SS = 2 ^ EH * 2 ^ a := by rw [U_eq, S_eq, ← Nat.pow_add, ← Nat.pow_add, e]
  rw [Int.mul_assoc, Int.mul_assoc, ← Int.natCast_mul, ← Int.natCast_mul, e2]
/-- Products of what is whole in units of 2^-1074. -/
theorem Fo.mul {o p : Option (Bool × Nat × Int)} {x y L H : Int} (h1 : Fo o (x * (UU : Int)) L H) (h2 : Fo p (y * (UU : Int)) L H) (hL : -500000 ≤ L) (hH : H ≤ 500000) (hd : H - L ≤ 131072) : Fo (mulD o p) (x * y) (2 * L) (2 * H) := by
  obtain ⟨n1, X1, e1, r1, F1, v1, b1⟩ := h1.ex
  obtain ⟨n2, X2, e2, r2, F2, v2, b2⟩ := h2.ex
  have sz : ∃ n Z g, mulD o p = some (n, Z, g) ∧ (Z = 0 ∨ 2 * L ≤ g ∧ g + (bl Z : Int) ≤ 2 * H) := by
    rw [r1, r2]
    unfold mulD mulF
    simp only
    by_cases hZ : X1 * X2 = 0
    · rw [hZ, mkSz]; exact ⟨_, _, _, rfl, .inl rfl⟩
    · have hX : X1 ≠ 0 := fun h => hZ (by rw [h, Nat.zero_mul])
      have hY : X2 ≠ 0 := fun h => hZ (by rw [h, Nat.mul_zero])
      have hb : bl (X1 * X2) ≤ bl X1 + bl X2 := blLe (by rw [Nat.pow_add]; exact Nat.mul_lt_mul'' (lt_bl X1) (lt_bl X2))
      obtain ⟨X', e', k1, k2, k3, k4⟩ := mkS_sz (n1 != n2) (X1 * X2) (e1 + e2) (2 * L) (2 * H) hZ (by omega) (by omega) (by omega) (by omega) (by omega)
      exact ⟨_, _, _, k1, .inr ⟨k3, k4⟩⟩
  obtain ⟨n, Z, g, hz, hb⟩ := sz
  have half : ∀ (n : Bool) (X : Nat) (e x : Int), Frm n X e → zv (-2097152) (n, X, e) = x * (UU : Int) * (SS : Int) → zv (-1048576) (n, X, e) = x * ((2 ^ EH : Nat) : Int) := by
    intro n X e x F hv
    have up := zvUp (x := (n, X, e)) (-1048576) (-2097152) (.inr F.down) (by omega)
    rw [hv] at up
    obtain ⟨a, ha⟩ : ∃ a : Nat, (-1048576 - -2097152 : Int).toNat = a := ⟨_, rfl⟩
    rw [ha, wide1 a (by omega)] at up
    exact (Int.eq_of_mul_eq_mul_right (by have := Nat.two_pow_pos a; omega) up).symm
  have V := Fv.mul (B := -1048576) (C := -1048576) (by omega) (by omega) ⟨n1, X1, e1, r1, F1, half _ _ _ _ F1 v1⟩ ⟨n2, X2, e2, r2, F2, half _ _ _ _ F2 v2⟩ (by rw [hz]; rfl)
  obtain ⟨n', Z', g', r, F, v⟩ := V.ex
  rw [hz] at r
  cases r
  refine ⟨n, Z, g, hz, F, ?_, hb⟩
  rw [show (-2097152 : Int) = -1048576 + -1048576 by omega, v, S_eq, ← EHH, Nat.pow_add, Int.natCast_mul]
  simp only [Int.mul_assoc, Int.mul_left_comm, Int.mul_comm]
end Go.Proofs.Ythilnddhehbjiab

/- The document's Plus at NaN and infinities. -/
namespace Go.Proofs.Ythilnddhehbjiab
open Go.RowKit
set_option linter.unusedVariables false
set_option maxRecDepth 20000
set_option linter.unusedSimpArgs false
attribute [local go_sem] st_float

set_option maxHeartbeats 2000000 in
theorem rPlus_ttff (x y : Nat) (w : World)
    (H1 : Hid (∀ u, Calls Try.prog 62 #[.float .f64 x] u fun r w' => r = .returned (.bool true) ∧ w' = u))
    (H2 : Hid (∀ u, Calls Try.prog 62 #[.float .f64 y] u fun r w' => r = .returned (.bool true) ∧ w' = u))
    (H3 : Hid (∀ u, Calls Try.prog 63 #[.float .f64 x] u fun r w' => r = .returned (.bool false) ∧ w' = u))
    (H4 : Hid (∀ u, Calls Try.prog 63 #[.float .f64 y] u fun r w' => r = .returned (.bool false) ∧ w' = u)) :
    Calls Try.prog 43 #[.float .f64 x, .float .f64 y] w fun r w' => r = .returned (.float .f64 oddW) ∧ Below w.heap.size w w' := by
  have HO := hid fun u => rOdd_any u
  go_enter Try.func43, Try.ntmps43
  go_wp2_with fail
  refine (Calls.mono (H1.out _)) ?_
  rintro r wx ⟨rfl, hw⟩
  rw [hw]
  clear hw wx H1
  go_wp2_with fail
  refine (Calls.mono (H2.out _)) ?_
  rintro r wx ⟨rfl, hw⟩
  rw [hw]
  clear hw wx H2
  go_wp2_with fail
  refine (Calls.mono (H3.out _)) ?_
  rintro r wx ⟨rfl, hw⟩
  rw [hw]
  clear hw wx H3
  go_wp2_with fail
  refine (Calls.mono (H4.out _)) ?_
  rintro r wx ⟨rfl, hw⟩
  rw [hw]
  clear hw wx H4
  go_wp2_with fail
  refine (Calls.mono (HO.out _)) ?_
  rintro r wx ⟨rfl, hw⟩
  rw [hw]
  clear hw wx HO
  go_wp2
  exact bodyPost_ret (v := .float .f64 oddW) (by simp [results, Try.results43, go_sem]) rfl ⟨rfl, (by repeat (first | exact Below.refl _ _ | refine Below.drew ?_))⟩
set_option maxHeartbeats 2000000 in
theorem rPlus_tfff (x y : Nat) (w : World)
    (H1 : Hid (∀ u, Calls Try.prog 62 #[.float .f64 x] u fun r w' => r = .returned (.bool true) ∧ w' = u))
    (H2 : Hid (∀ u, Calls Try.prog 62 #[.float .f64 y] u fun r w' => r = .returned (.bool false) ∧ w' = u))
    (H3 : Hid (∀ u, Calls Try.prog 63 #[.float .f64 x] u fun r w' => r = .returned (.bool false) ∧ w' = u))
    (H4 : Hid (∀ u, Calls Try.prog 63 #[.float .f64 y] u fun r w' => r = .returned (.bool false) ∧ w' = u)) :
    Calls Try.prog 43 #[.float .f64 x, .float .f64 y] w fun r w' => r = .returned (.float .f64 oddW) ∧ Below w.heap.size w w' := by
  have HO := hid fun u => rOdd_any u
  go_enter Try.func43, Try.ntmps43
  go_wp2_with fail
  refine (Calls.mono (H1.out _)) ?_
  rintro r wx ⟨rfl, hw⟩
  rw [hw]
  clear hw wx H1
  go_wp2_with fail
  refine (Calls.mono (H2.out _)) ?_
  rintro r wx ⟨rfl, hw⟩
  rw [hw]
  clear hw wx H2
  go_wp2_with fail
  refine (Calls.mono (H3.out _)) ?_
  rintro r wx ⟨rfl, hw⟩
  rw [hw]
  clear hw wx H3
  go_wp2_with fail
  refine (Calls.mono (H4.out _)) ?_
  rintro r wx ⟨rfl, hw⟩
  rw [hw]
  clear hw wx H4
  go_wp2_with fail
  refine (Calls.mono (HO.out _)) ?_
  rintro r wx ⟨rfl, hw⟩
  rw [hw]
  clear hw wx HO
  go_wp2
  exact bodyPost_ret (v := .float .f64 oddW) (by simp [results, Try.results43, go_sem]) rfl ⟨rfl, (by repeat (first | exact Below.refl _ _ | refine Below.drew ?_))⟩
set_option maxHeartbeats 2000000 in
theorem rPlus_tfft (x y : Nat) (w : World)
    (H1 : Hid (∀ u, Calls Try.prog 62 #[.float .f64 x] u fun r w' => r = .returned (.bool true) ∧ w' = u))
    (H2 : Hid (∀ u, Calls Try.prog 62 #[.float .f64 y] u fun r w' => r = .returned (.bool false) ∧ w' = u))
    (H3 : Hid (∀ u, Calls Try.prog 63 #[.float .f64 x] u fun r w' => r = .returned (.bool false) ∧ w' = u))
    (H4 : Hid (∀ u, Calls Try.prog 63 #[.float .f64 y] u fun r w' => r = .returned (.bool true) ∧ w' = u)) :
    Calls Try.prog 43 #[.float .f64 x, .float .f64 y] w fun r w' => r = .returned (.float .f64 oddW) ∧ Below w.heap.size w w' := by
  have HO := hid fun u => rOdd_any u
  go_enter Try.func43, Try.ntmps43
  go_wp2_with fail
  refine (Calls.mono (H1.out _)) ?_
  rintro r wx ⟨rfl, hw⟩
  rw [hw]
  clear hw wx H1
  go_wp2_with fail
  refine (Calls.mono (H2.out _)) ?_
  rintro r wx ⟨rfl, hw⟩
  rw [hw]
  clear hw wx H2
  go_wp2_with fail
  refine (Calls.mono (H3.out _)) ?_
  rintro r wx ⟨rfl, hw⟩
  rw [hw]
  clear hw wx H3
  go_wp2_with fail
  refine (Calls.mono (H4.out _)) ?_
  rintro r wx ⟨rfl, hw⟩
  rw [hw]
  clear hw wx H4
  go_wp2_with fail
  refine (Calls.mono (HO.out _)) ?_
  rintro r wx ⟨rfl, hw⟩
  rw [hw]
  clear hw wx HO
  go_wp2
  exact bodyPost_ret (v := .float .f64 oddW) (by simp [results, Try.results43, go_sem]) rfl ⟨rfl, (by repeat (first | exact Below.refl _ _ | refine Below.drew ?_))⟩
set_option maxHeartbeats 2000000 in
theorem rPlus_ftff (x y : Nat) (w : World)
    (H1 : Hid (∀ u, Calls Try.prog 62 #[.float .f64 x] u fun r w' => r = .returned (.bool false) ∧ w' = u))
    (H2 : Hid (∀ u, Calls Try.prog 62 #[.float .f64 y] u fun r w' => r = .returned (.bool true) ∧ w' = u))
    (H3 : Hid (∀ u, Calls Try.prog 63 #[.float .f64 x] u fun r w' => r = .returned (.bool false) ∧ w' = u))
    (H4 : Hid (∀ u, Calls Try.prog 63 #[.float .f64 y] u fun r w' => r = .returned (.bool false) ∧ w' = u)) :
    Calls Try.prog 43 #[.float .f64 x, .float .f64 y] w fun r w' => r = .returned (.float .f64 oddW) ∧ Below w.heap.size w w' := by
  have HO := hid fun u => rOdd_any u
  go_enter Try.func43, Try.ntmps43
  go_wp2_with fail
  refine (Calls.mono (H1.out _)) ?_
  rintro r wx ⟨rfl, hw⟩
  rw [hw]
  clear hw wx H1
  go_wp2_with fail
  refine (Calls.mono (H2.out _)) ?_
  rintro r wx ⟨rfl, hw⟩
  rw [hw]
  clear hw wx H2
  go_wp2_with fail
  refine (Calls.mono (H3.out _)) ?_
  rintro r wx ⟨rfl, hw⟩
  rw [hw]
  clear hw wx H3
  go_wp2_with fail
  refine (Calls.mono (H4.out _)) ?_
  rintro r wx ⟨rfl, hw⟩
  rw [hw]
  clear hw wx H4
  go_wp2_with fail
  refine (Calls.mono (HO.out _)) ?_
  rintro r wx ⟨rfl, hw⟩
  rw [hw]
  clear hw wx HO
  go_wp2
  exact bodyPost_ret (v := .float .f64 oddW) (by simp [results, Try.results43, go_sem]) rfl ⟨rfl, (by repeat (first | exact Below.refl _ _ | refine Below.drew ?_))⟩
set_option maxHeartbeats 2000000 in
theorem rPlus_fttf (x y : Nat) (w : World)
    (H1 : Hid (∀ u, Calls Try.prog 62 #[.float .f64 x] u fun r w' => r = .returned (.bool false) ∧ w' = u))
    (H2 : Hid (∀ u, Calls Try.prog 62 #[.float .f64 y] u fun r w' => r = .returned (.bool true) ∧ w' = u))
    (H3 : Hid (∀ u, Calls Try.prog 63 #[.float .f64 x] u fun r w' => r = .returned (.bool true) ∧ w' = u))
    (H4 : Hid (∀ u, Calls Try.prog 63 #[.float .f64 y] u fun r w' => r = .returned (.bool false) ∧ w' = u)) :
    Calls Try.prog 43 #[.float .f64 x, .float .f64 y] w fun r w' => r = .returned (.float .f64 oddW) ∧ Below w.heap.size w w' := by
  have HO := hid fun u => rOdd_any u
  go_enter Try.func43, Try.ntmps43
  go_wp2_with fail
  refine (Calls.mono (H1.out _)) ?_
  rintro r wx ⟨rfl, hw⟩
  rw [hw]
  clear hw wx H1
  go_wp2_with fail
  refine (Calls.mono (H2.out _)) ?_
  rintro r wx ⟨rfl, hw⟩
  rw [hw]
  clear hw wx H2
  go_wp2_with fail
  refine (Calls.mono (H3.out _)) ?_
  rintro r wx ⟨rfl, hw⟩
  rw [hw]
  clear hw wx H3
  go_wp2_with fail
  refine (Calls.mono (H4.out _)) ?_
  rintro r wx ⟨rfl, hw⟩
  rw [hw]
  clear hw wx H4
  go_wp2_with fail
  refine (Calls.mono (HO.out _)) ?_
  rintro r wx ⟨rfl, hw⟩
  rw [hw]
  clear hw wx HO
  go_wp2
  exact bodyPost_ret (v := .float .f64 oddW) (by simp [results, Try.results43, go_sem]) rfl ⟨rfl, (by repeat (first | exact Below.refl _ _ | refine Below.drew ?_))⟩
set_option maxHeartbeats 2000000 in
theorem rPlus_fftf (x y : Nat) (w : World)
    (H1 : Hid (∀ u, Calls Try.prog 62 #[.float .f64 x] u fun r w' => r = .returned (.bool false) ∧ w' = u))
    (H2 : Hid (∀ u, Calls Try.prog 62 #[.float .f64 y] u fun r w' => r = .returned (.bool false) ∧ w' = u))
    (H3 : Hid (∀ u, Calls Try.prog 63 #[.float .f64 x] u fun r w' => r = .returned (.bool true) ∧ w' = u))
    (H4 : Hid (∀ u, Calls Try.prog 63 #[.float .f64 y] u fun r w' => r = .returned (.bool false) ∧ w' = u)) :
    Calls Try.prog 43 #[.float .f64 x, .float .f64 y] w fun r w' => r = .returned (.float .f64 x) ∧ Below w.heap.size w w' := by
  go_enter Try.func43, Try.ntmps43
  go_wp2_with fail
  refine (Calls.mono (H1.out _)) ?_
  rintro r wx ⟨rfl, hw⟩
  rw [hw]
  clear hw wx H1
  go_wp2_with fail
  refine (Calls.mono (H2.out _)) ?_
  rintro r wx ⟨rfl, hw⟩
  rw [hw]
  clear hw wx H2
  go_wp2_with fail
  refine (Calls.mono (H3.out _)) ?_
  rintro r wx ⟨rfl, hw⟩
  rw [hw]
  clear hw wx H3
  go_wp2_with fail
  refine (Calls.mono (H4.out _)) ?_
  rintro r wx ⟨rfl, hw⟩
  rw [hw]
  clear hw wx H4
  go_wp2
  exact bodyPost_ret (v := .float .f64 x) (by simp [results, Try.results43, go_sem]) rfl ⟨rfl, (by repeat (first | exact Below.refl _ _ | refine Below.drew ?_))⟩
set_option maxHeartbeats 2000000 in
theorem rPlus_ffft (x y : Nat) (w : World)
    (H1 : Hid (∀ u, Calls Try.prog 62 #[.float .f64 x] u fun r w' => r = .returned (.bool false) ∧ w' = u))
    (H2 : Hid (∀ u, Calls Try.prog 62 #[.float .f64 y] u fun r w' => r = .returned (.bool false) ∧ w' = u))
    (H3 : Hid (∀ u, Calls Try.prog 63 #[.float .f64 x] u fun r w' => r = .returned (.bool false) ∧ w' = u))
    (H4 : Hid (∀ u, Calls Try.prog 63 #[.float .f64 y] u fun r w' => r = .returned (.bool true) ∧ w' = u)) :
    Calls Try.prog 43 #[.float .f64 x, .float .f64 y] w fun r w' => r = .returned (.float .f64 y) ∧ Below w.heap.size w w' := by
  go_enter Try.func43, Try.ntmps43
  go_wp2_with fail
  refine (Calls.mono (H1.out _)) ?_
  rintro r wx ⟨rfl, hw⟩
  rw [hw]
  clear hw wx H1
  go_wp2_with fail
  refine (Calls.mono (H2.out _)) ?_
  rintro r wx ⟨rfl, hw⟩
  rw [hw]
  clear hw wx H2
  go_wp2_with fail
  refine (Calls.mono (H3.out _)) ?_
  rintro r wx ⟨rfl, hw⟩
  rw [hw]
  clear hw wx H3
  go_wp2_with fail
  refine (Calls.mono (H4.out _)) ?_
  rintro r wx ⟨rfl, hw⟩
  rw [hw]
  clear hw wx H4
  go_wp2
  exact bodyPost_ret (v := .float .f64 y) (by simp [results, Try.results43, go_sem]) rfl ⟨rfl, (by repeat (first | exact Below.refl _ _ | refine Below.drew ?_))⟩
set_option maxHeartbeats 2000000 in
theorem rPlus_fftt_ff (x y : Nat) (w : World)
    (H1 : Hid (∀ u, Calls Try.prog 62 #[.float .f64 x] u fun r w' => r = .returned (.bool false) ∧ w' = u))
    (H2 : Hid (∀ u, Calls Try.prog 62 #[.float .f64 y] u fun r w' => r = .returned (.bool false) ∧ w' = u))
    (H3 : Hid (∀ u, Calls Try.prog 63 #[.float .f64 x] u fun r w' => r = .returned (.bool true) ∧ w' = u))
    (H4 : Hid (∀ u, Calls Try.prog 63 #[.float .f64 y] u fun r w' => r = .returned (.bool true) ∧ w' = u))
    (H5 : Hid (∀ u, Calls Try.prog 64 #[.float .f64 x] u fun r w' => r = .returned (.bool false) ∧ w' = u))
    (H6 : Hid (∀ u, Calls Try.prog 64 #[.float .f64 y] u fun r w' => r = .returned (.bool false) ∧ w' = u)) :
    Calls Try.prog 43 #[.float .f64 x, .float .f64 y] w fun r w' => r = .returned (.float .f64 x) ∧ Below w.heap.size w w' := by
  go_enter Try.func43, Try.ntmps43
  go_wp2_with fail
  refine (Calls.mono (H1.out _)) ?_
  rintro r wx ⟨rfl, hw⟩
  rw [hw]
  clear hw wx H1
  go_wp2_with fail
  refine (Calls.mono (H2.out _)) ?_
  rintro r wx ⟨rfl, hw⟩
  rw [hw]
  clear hw wx H2
  go_wp2_with fail
  refine (Calls.mono (H3.out _)) ?_
  rintro r wx ⟨rfl, hw⟩
  rw [hw]
  clear hw wx H3
  go_wp2_with fail
  refine (Calls.mono (H4.out _)) ?_
  rintro r wx ⟨rfl, hw⟩
  rw [hw]
  clear hw wx H4
  go_wp2_with fail
  refine (Calls.mono (H5.out _)) ?_
  rintro r wx ⟨rfl, hw⟩
  rw [hw]
  clear hw wx H5
  go_wp2_with fail
  refine (Calls.mono (H6.out _)) ?_
  rintro r wx ⟨rfl, hw⟩
  rw [hw]
  clear hw wx H6
  go_wp2
  exact bodyPost_ret (v := .float .f64 x) (by simp [results, Try.results43, go_sem]) rfl ⟨rfl, (by repeat (first | exact Below.refl _ _ | refine Below.drew ?_))⟩
set_option maxHeartbeats 2000000 in
theorem rPlus_fftt_ft (x y : Nat) (w : World)
    (H1 : Hid (∀ u, Calls Try.prog 62 #[.float .f64 x] u fun r w' => r = .returned (.bool false) ∧ w' = u))
    (H2 : Hid (∀ u, Calls Try.prog 62 #[.float .f64 y] u fun r w' => r = .returned (.bool false) ∧ w' = u))
    (H3 : Hid (∀ u, Calls Try.prog 63 #[.float .f64 x] u fun r w' => r = .returned (.bool true) ∧ w' = u))
    (H4 : Hid (∀ u, Calls Try.prog 63 #[.float .f64 y] u fun r w' => r = .returned (.bool true) ∧ w' = u))
    (H5 : Hid (∀ u, Calls Try.prog 64 #[.float .f64 x] u fun r w' => r = .returned (.bool false) ∧ w' = u))
    (H6 : Hid (∀ u, Calls Try.prog 64 #[.float .f64 y] u fun r w' => r = .returned (.bool true) ∧ w' = u)) :
    Calls Try.prog 43 #[.float .f64 x, .float .f64 y] w fun r w' => r = .returned (.float .f64 oddW) ∧ Below w.heap.size w w' := by
  have HO := hid fun u => rOdd_any u
  go_enter Try.func43, Try.ntmps43
  go_wp2_with fail
  refine (Calls.mono (H1.out _)) ?_
  rintro r wx ⟨rfl, hw⟩
  rw [hw]
  clear hw wx H1
  go_wp2_with fail
  refine (Calls.mono (H2.out _)) ?_
  rintro r wx ⟨rfl, hw⟩
  rw [hw]
  clear hw wx H2
  go_wp2_with fail
  refine (Calls.mono (H3.out _)) ?_
  rintro r wx ⟨rfl, hw⟩
  rw [hw]
  clear hw wx H3
  go_wp2_with fail
  refine (Calls.mono (H4.out _)) ?_
  rintro r wx ⟨rfl, hw⟩
  rw [hw]
  clear hw wx H4
  go_wp2_with fail
  refine (Calls.mono (H5.out _)) ?_
  rintro r wx ⟨rfl, hw⟩
  rw [hw]
  clear hw wx H5
  go_wp2_with fail
  refine (Calls.mono (H6.out _)) ?_
  rintro r wx ⟨rfl, hw⟩
  rw [hw]
  clear hw wx H6
  go_wp2_with fail
  refine (Calls.mono (HO.out _)) ?_
  rintro r wx ⟨rfl, hw⟩
  rw [hw]
  clear hw wx HO
  go_wp2
  exact bodyPost_ret (v := .float .f64 oddW) (by simp [results, Try.results43, go_sem]) rfl ⟨rfl, (by repeat (first | exact Below.refl _ _ | refine Below.drew ?_))⟩
set_option maxHeartbeats 2000000 in
theorem rPlus_fftt_tf (x y : Nat) (w : World)
    (H1 : Hid (∀ u, Calls Try.prog 62 #[.float .f64 x] u fun r w' => r = .returned (.bool false) ∧ w' = u))
    (H2 : Hid (∀ u, Calls Try.prog 62 #[.float .f64 y] u fun r w' => r = .returned (.bool false) ∧ w' = u))
    (H3 : Hid (∀ u, Calls Try.prog 63 #[.float .f64 x] u fun r w' => r = .returned (.bool true) ∧ w' = u))
    (H4 : Hid (∀ u, Calls Try.prog 63 #[.float .f64 y] u fun r w' => r = .returned (.bool true) ∧ w' = u))
    (H5 : Hid (∀ u, Calls Try.prog 64 #[.float .f64 x] u fun r w' => r = .returned (.bool true) ∧ w' = u))
    (H6 : Hid (∀ u, Calls Try.prog 64 #[.float .f64 y] u fun r w' => r = .returned (.bool false) ∧ w' = u)) :
    Calls Try.prog 43 #[.float .f64 x, .float .f64 y] w fun r w' => r = .returned (.float .f64 oddW) ∧ Below w.heap.size w w' := by
  have HO := hid fun u => rOdd_any u
  go_enter Try.func43, Try.ntmps43
  go_wp2_with fail
  refine (Calls.mono (H1.out _)) ?_
  rintro r wx ⟨rfl, hw⟩
  rw [hw]
  clear hw wx H1
  go_wp2_with fail
  refine (Calls.mono (H2.out _)) ?_
  rintro r wx ⟨rfl, hw⟩
  rw [hw]
  clear hw wx H2
  go_wp2_with fail
  refine (Calls.mono (H3.out _)) ?_
  rintro r wx ⟨rfl, hw⟩
  rw [hw]
  clear hw wx H3
  go_wp2_with fail
  refine (Calls.mono (H4.out _)) ?_
  rintro r wx ⟨rfl, hw⟩
  rw [hw]
  clear hw wx H4
  go_wp2_with fail
  refine (Calls.mono (H5.out _)) ?_
  rintro r wx ⟨rfl, hw⟩
  rw [hw]
  clear hw wx H5
  go_wp2_with fail
  refine (Calls.mono (H6.out _)) ?_
  rintro r wx ⟨rfl, hw⟩
  rw [hw]
  clear hw wx H6
  go_wp2_with fail
  refine (Calls.mono (HO.out _)) ?_
  rintro r wx ⟨rfl, hw⟩
  rw [hw]
  clear hw wx HO
  go_wp2
  exact bodyPost_ret (v := .float .f64 oddW) (by simp [results, Try.results43, go_sem]) rfl ⟨rfl, (by repeat (first | exact Below.refl _ _ | refine Below.drew ?_))⟩
set_option maxHeartbeats 2000000 in
theorem rPlus_fftt_tt (x y : Nat) (w : World)
    (H1 : Hid (∀ u, Calls Try.prog 62 #[.float .f64 x] u fun r w' => r = .returned (.bool false) ∧ w' = u))
    (H2 : Hid (∀ u, Calls Try.prog 62 #[.float .f64 y] u fun r w' => r = .returned (.bool false) ∧ w' = u))
    (H3 : Hid (∀ u, Calls Try.prog 63 #[.float .f64 x] u fun r w' => r = .returned (.bool true) ∧ w' = u))
    (H4 : Hid (∀ u, Calls Try.prog 63 #[.float .f64 y] u fun r w' => r = .returned (.bool true) ∧ w' = u))
    (H5 : Hid (∀ u, Calls Try.prog 64 #[.float .f64 x] u fun r w' => r = .returned (.bool true) ∧ w' = u))
    (H6 : Hid (∀ u, Calls Try.prog 64 #[.float .f64 y] u fun r w' => r = .returned (.bool true) ∧ w' = u)) :
    Calls Try.prog 43 #[.float .f64 x, .float .f64 y] w fun r w' => r = .returned (.float .f64 x) ∧ Below w.heap.size w w' := by
  go_enter Try.func43, Try.ntmps43
  go_wp2_with fail
  refine (Calls.mono (H1.out _)) ?_
  rintro r wx ⟨rfl, hw⟩
  rw [hw]
  clear hw wx H1
  go_wp2_with fail
  refine (Calls.mono (H2.out _)) ?_
  rintro r wx ⟨rfl, hw⟩
  rw [hw]
  clear hw wx H2
  go_wp2_with fail
  refine (Calls.mono (H3.out _)) ?_
  rintro r wx ⟨rfl, hw⟩
  rw [hw]
  clear hw wx H3
  go_wp2_with fail
  refine (Calls.mono (H4.out _)) ?_
  rintro r wx ⟨rfl, hw⟩
  rw [hw]
  clear hw wx H4
  go_wp2_with fail
  refine (Calls.mono (H5.out _)) ?_
  rintro r wx ⟨rfl, hw⟩
  rw [hw]
  clear hw wx H5
  go_wp2_with fail
  refine (Calls.mono (H6.out _)) ?_
  rintro r wx ⟨rfl, hw⟩
  rw [hw]
  clear hw wx H6
  go_wp2
  exact bodyPost_ret (v := .float .f64 x) (by simp [results, Try.results43, go_sem]) rfl ⟨rfl, (by repeat (first | exact Below.refl _ _ | refine Below.drew ?_))⟩
end Go.Proofs.Ythilnddhehbjiab

/- The document's Times at NaN, infinities, noughts. -/
namespace Go.Proofs.Ythilnddhehbjiab
open Go.RowKit
set_option linter.unusedVariables false
set_option maxRecDepth 20000
set_option linter.unusedSimpArgs false
attribute [local go_sem] st_float

set_option maxHeartbeats 2000000 in
theorem rTimes_nn (x y : Nat) (nx ny : Bool) (w : World)
    (H1 : Hid (∀ u, Calls Try.prog 64 #[.float .f64 x] u fun r w' => r = .returned (.bool nx) ∧ w' = u))
    (H2 : Hid (∀ u, Calls Try.prog 64 #[.float .f64 y] u fun r w' => r = .returned (.bool ny) ∧ w' = u))
    (H3 : Hid (∀ u, Calls Try.prog 62 #[.float .f64 x] u fun r w' => r = .returned (.bool true) ∧ w' = u))
    (H4 : Hid (∀ u, Calls Try.prog 62 #[.float .f64 y] u fun r w' => r = .returned (.bool true) ∧ w' = u))
    (H5 : Hid (∀ u, Calls Try.prog 63 #[.float .f64 x] u fun r w' => r = .returned (.bool false) ∧ w' = u))
    (H6 : Hid (∀ u, Calls Try.prog 63 #[.float .f64 y] u fun r w' => r = .returned (.bool false) ∧ w' = u))
    (H7 : Hid (∀ u, Calls Try.prog 52 #[.float .f64 x] u fun r w' => r = .returned (.bool false) ∧ w' = u))
    (H8 : Hid (∀ u, Calls Try.prog 52 #[.float .f64 y] u fun r w' => r = .returned (.bool false) ∧ w' = u)) :
    Calls Try.prog 45 #[.float .f64 x, .float .f64 y] w fun r w' => r = .returned (.float .f64 oddW) ∧ Below w.heap.size w w' := by
  have HO := hid fun u => rOdd_any u
  go_enter Try.func45, Try.ntmps45
  go_wp2_with fail
  refine (Calls.mono (H1.out _)) ?_
  rintro r wx ⟨rfl, hw⟩
  rw [hw]
  clear hw wx H1
  go_wp2_with fail
  refine (Calls.mono (H2.out _)) ?_
  rintro r wx ⟨rfl, hw⟩
  rw [hw]
  clear hw wx H2
  go_wp2_with fail
  refine (Calls.mono (H3.out _)) ?_
  rintro r wx ⟨rfl, hw⟩
  rw [hw]
  clear hw wx H3
  go_wp2_with fail
  refine (Calls.mono (H4.out _)) ?_
  rintro r wx ⟨rfl, hw⟩
  rw [hw]
  clear hw wx H4
  go_wp2_with fail
  refine (Calls.mono (H5.out _)) ?_
  rintro r wx ⟨rfl, hw⟩
  rw [hw]
  clear hw wx H5
  go_wp2_with fail
  refine (Calls.mono (H6.out _)) ?_
  rintro r wx ⟨rfl, hw⟩
  rw [hw]
  clear hw wx H6
  go_wp2_with fail
  refine (Calls.mono (H7.out _)) ?_
  rintro r wx ⟨rfl, hw⟩
  rw [hw]
  clear hw wx H7
  go_wp2_with fail
  refine (Calls.mono (H8.out _)) ?_
  rintro r wx ⟨rfl, hw⟩
  rw [hw]
  clear hw wx H8
  go_wp2_with fail
  refine (Calls.mono (HO.out _)) ?_
  rintro r wx ⟨rfl, hw⟩
  rw [hw]
  clear hw wx HO
  go_wp2
  exact bodyPost_ret (v := .float .f64 oddW) (by simp [results, Try.results45, go_sem]) rfl ⟨rfl, (by repeat (first | exact Below.refl _ _ | refine Below.drew ?_))⟩
set_option maxHeartbeats 2000000 in
theorem rTimes_ni (x y : Nat) (nx ny : Bool) (w : World)
    (H1 : Hid (∀ u, Calls Try.prog 64 #[.float .f64 x] u fun r w' => r = .returned (.bool nx) ∧ w' = u))
    (H2 : Hid (∀ u, Calls Try.prog 64 #[.float .f64 y] u fun r w' => r = .returned (.bool ny) ∧ w' = u))
    (H3 : Hid (∀ u, Calls Try.prog 62 #[.float .f64 x] u fun r w' => r = .returned (.bool true) ∧ w' = u))
    (H4 : Hid (∀ u, Calls Try.prog 62 #[.float .f64 y] u fun r w' => r = .returned (.bool false) ∧ w' = u))
    (H5 : Hid (∀ u, Calls Try.prog 63 #[.float .f64 x] u fun r w' => r = .returned (.bool false) ∧ w' = u))
    (H6 : Hid (∀ u, Calls Try.prog 63 #[.float .f64 y] u fun r w' => r = .returned (.bool true) ∧ w' = u))
    (H7 : Hid (∀ u, Calls Try.prog 52 #[.float .f64 x] u fun r w' => r = .returned (.bool false) ∧ w' = u))
    (H8 : Hid (∀ u, Calls Try.prog 52 #[.float .f64 y] u fun r w' => r = .returned (.bool false) ∧ w' = u)) :
    Calls Try.prog 45 #[.float .f64 x, .float .f64 y] w fun r w' => r = .returned (.float .f64 oddW) ∧ Below w.heap.size w w' := by
  have HO := hid fun u => rOdd_any u
  go_enter Try.func45, Try.ntmps45
  go_wp2_with fail
  refine (Calls.mono (H1.out _)) ?_
  rintro r wx ⟨rfl, hw⟩
  rw [hw]
  clear hw wx H1
  go_wp2_with fail
  refine (Calls.mono (H2.out _)) ?_
  rintro r wx ⟨rfl, hw⟩
  rw [hw]
  clear hw wx H2
  go_wp2_with fail
  refine (Calls.mono (H3.out _)) ?_
  rintro r wx ⟨rfl, hw⟩
  rw [hw]
  clear hw wx H3
  go_wp2_with fail
  refine (Calls.mono (H4.out _)) ?_
  rintro r wx ⟨rfl, hw⟩
  rw [hw]
  clear hw wx H4
  go_wp2_with fail
  refine (Calls.mono (H5.out _)) ?_
  rintro r wx ⟨rfl, hw⟩
  rw [hw]
  clear hw wx H5
  go_wp2_with fail
  refine (Calls.mono (H6.out _)) ?_
  rintro r wx ⟨rfl, hw⟩
  rw [hw]
  clear hw wx H6
  go_wp2_with fail
  refine (Calls.mono (H7.out _)) ?_
  rintro r wx ⟨rfl, hw⟩
  rw [hw]
  clear hw wx H7
  go_wp2_with fail
  refine (Calls.mono (H8.out _)) ?_
  rintro r wx ⟨rfl, hw⟩
  rw [hw]
  clear hw wx H8
  go_wp2_with fail
  refine (Calls.mono (HO.out _)) ?_
  rintro r wx ⟨rfl, hw⟩
  rw [hw]
  clear hw wx HO
  go_wp2
  exact bodyPost_ret (v := .float .f64 oddW) (by simp [results, Try.results45, go_sem]) rfl ⟨rfl, (by repeat (first | exact Below.refl _ _ | refine Below.drew ?_))⟩
set_option maxHeartbeats 2000000 in
theorem rTimes_nz (x y : Nat) (nx ny : Bool) (w : World)
    (H1 : Hid (∀ u, Calls Try.prog 64 #[.float .f64 x] u fun r w' => r = .returned (.bool nx) ∧ w' = u))
    (H2 : Hid (∀ u, Calls Try.prog 64 #[.float .f64 y] u fun r w' => r = .returned (.bool ny) ∧ w' = u))
    (H3 : Hid (∀ u, Calls Try.prog 62 #[.float .f64 x] u fun r w' => r = .returned (.bool true) ∧ w' = u))
    (H4 : Hid (∀ u, Calls Try.prog 62 #[.float .f64 y] u fun r w' => r = .returned (.bool false) ∧ w' = u))
    (H5 : Hid (∀ u, Calls Try.prog 63 #[.float .f64 x] u fun r w' => r = .returned (.bool false) ∧ w' = u))
    (H6 : Hid (∀ u, Calls Try.prog 63 #[.float .f64 y] u fun r w' => r = .returned (.bool false) ∧ w' = u))
    (H7 : Hid (∀ u, Calls Try.prog 52 #[.float .f64 x] u fun r w' => r = .returned (.bool false) ∧ w' = u))
    (H8 : Hid (∀ u, Calls Try.prog 52 #[.float .f64 y] u fun r w' => r = .returned (.bool true) ∧ w' = u)) :
    Calls Try.prog 45 #[.float .f64 x, .float .f64 y] w fun r w' => r = .returned (.float .f64 oddW) ∧ Below w.heap.size w w' := by
  have HO := hid fun u => rOdd_any u
  go_enter Try.func45, Try.ntmps45
  go_wp2_with fail
  refine (Calls.mono (H1.out _)) ?_
  rintro r wx ⟨rfl, hw⟩
  rw [hw]
  clear hw wx H1
  go_wp2_with fail
  refine (Calls.mono (H2.out _)) ?_
  rintro r wx ⟨rfl, hw⟩
  rw [hw]
  clear hw wx H2
  go_wp2_with fail
  refine (Calls.mono (H3.out _)) ?_
  rintro r wx ⟨rfl, hw⟩
  rw [hw]
  clear hw wx H3
  go_wp2_with fail
  refine (Calls.mono (H4.out _)) ?_
  rintro r wx ⟨rfl, hw⟩
  rw [hw]
  clear hw wx H4
  go_wp2_with fail
  refine (Calls.mono (H5.out _)) ?_
  rintro r wx ⟨rfl, hw⟩
  rw [hw]
  clear hw wx H5
  go_wp2_with fail
  refine (Calls.mono (H6.out _)) ?_
  rintro r wx ⟨rfl, hw⟩
  rw [hw]
  clear hw wx H6
  go_wp2_with fail
  refine (Calls.mono (H7.out _)) ?_
  rintro r wx ⟨rfl, hw⟩
  rw [hw]
  clear hw wx H7
  go_wp2_with fail
  refine (Calls.mono (H8.out _)) ?_
  rintro r wx ⟨rfl, hw⟩
  rw [hw]
  clear hw wx H8
  go_wp2_with fail
  refine (Calls.mono (HO.out _)) ?_
  rintro r wx ⟨rfl, hw⟩
  rw [hw]
  clear hw wx HO
  go_wp2
  exact bodyPost_ret (v := .float .f64 oddW) (by simp [results, Try.results45, go_sem]) rfl ⟨rfl, (by repeat (first | exact Below.refl _ _ | refine Below.drew ?_))⟩
set_option maxHeartbeats 2000000 in
theorem rTimes_nf (x y : Nat) (nx ny : Bool) (w : World)
    (H1 : Hid (∀ u, Calls Try.prog 64 #[.float .f64 x] u fun r w' => r = .returned (.bool nx) ∧ w' = u))
    (H2 : Hid (∀ u, Calls Try.prog 64 #[.float .f64 y] u fun r w' => r = .returned (.bool ny) ∧ w' = u))
    (H3 : Hid (∀ u, Calls Try.prog 62 #[.float .f64 x] u fun r w' => r = .returned (.bool true) ∧ w' = u))
    (H4 : Hid (∀ u, Calls Try.prog 62 #[.float .f64 y] u fun r w' => r = .returned (.bool false) ∧ w' = u))
    (H5 : Hid (∀ u, Calls Try.prog 63 #[.float .f64 x] u fun r w' => r = .returned (.bool false) ∧ w' = u))
    (H6 : Hid (∀ u, Calls Try.prog 63 #[.float .f64 y] u fun r w' => r = .returned (.bool false) ∧ w' = u))
    (H7 : Hid (∀ u, Calls Try.prog 52 #[.float .f64 x] u fun r w' => r = .returned (.bool false) ∧ w' = u))
    (H8 : Hid (∀ u, Calls Try.prog 52 #[.float .f64 y] u fun r w' => r = .returned (.bool false) ∧ w' = u)) :
    Calls Try.prog 45 #[.float .f64 x, .float .f64 y] w fun r w' => r = .returned (.float .f64 oddW) ∧ Below w.heap.size w w' := by
  have HO := hid fun u => rOdd_any u
  go_enter Try.func45, Try.ntmps45
  go_wp2_with fail
  refine (Calls.mono (H1.out _)) ?_
  rintro r wx ⟨rfl, hw⟩
  rw [hw]
  clear hw wx H1
  go_wp2_with fail
  refine (Calls.mono (H2.out _)) ?_
  rintro r wx ⟨rfl, hw⟩
  rw [hw]
  clear hw wx H2
  go_wp2_with fail
  refine (Calls.mono (H3.out _)) ?_
  rintro r wx ⟨rfl, hw⟩
  rw [hw]
  clear hw wx H3
  go_wp2_with fail
  refine (Calls.mono (H4.out _)) ?_
  rintro r wx ⟨rfl, hw⟩
  rw [hw]
  clear hw wx H4
  go_wp2_with fail
  refine (Calls.mono (H5.out _)) ?_
  rintro r wx ⟨rfl, hw⟩
  rw [hw]
  clear hw wx H5
  go_wp2_with fail
  refine (Calls.mono (H6.out _)) ?_
  rintro r wx ⟨rfl, hw⟩
  rw [hw]
  clear hw wx H6
  go_wp2_with fail
  refine (Calls.mono (H7.out _)) ?_
  rintro r wx ⟨rfl, hw⟩
  rw [hw]
  clear hw wx H7
  go_wp2_with fail
  refine (Calls.mono (H8.out _)) ?_
  rintro r wx ⟨rfl, hw⟩
  rw [hw]
  clear hw wx H8
  go_wp2_with fail
  refine (Calls.mono (HO.out _)) ?_
  rintro r wx ⟨rfl, hw⟩
  rw [hw]
  clear hw wx HO
  go_wp2
  exact bodyPost_ret (v := .float .f64 oddW) (by simp [results, Try.results45, go_sem]) rfl ⟨rfl, (by repeat (first | exact Below.refl _ _ | refine Below.drew ?_))⟩
set_option maxHeartbeats 2000000 in
theorem rTimes_in (x y : Nat) (nx ny : Bool) (w : World)
    (H1 : Hid (∀ u, Calls Try.prog 64 #[.float .f64 x] u fun r w' => r = .returned (.bool nx) ∧ w' = u))
    (H2 : Hid (∀ u, Calls Try.prog 64 #[.float .f64 y] u fun r w' => r = .returned (.bool ny) ∧ w' = u))
    (H3 : Hid (∀ u, Calls Try.prog 62 #[.float .f64 x] u fun r w' => r = .returned (.bool false) ∧ w' = u))
    (H4 : Hid (∀ u, Calls Try.prog 62 #[.float .f64 y] u fun r w' => r = .returned (.bool true) ∧ w' = u))
    (H5 : Hid (∀ u, Calls Try.prog 63 #[.float .f64 x] u fun r w' => r = .returned (.bool true) ∧ w' = u))
    (H6 : Hid (∀ u, Calls Try.prog 63 #[.float .f64 y] u fun r w' => r = .returned (.bool false) ∧ w' = u))
    (H7 : Hid (∀ u, Calls Try.prog 52 #[.float .f64 x] u fun r w' => r = .returned (.bool false) ∧ w' = u))
    (H8 : Hid (∀ u, Calls Try.prog 52 #[.float .f64 y] u fun r w' => r = .returned (.bool false) ∧ w' = u)) :
    Calls Try.prog 45 #[.float .f64 x, .float .f64 y] w fun r w' => r = .returned (.float .f64 oddW) ∧ Below w.heap.size w w' := by
  have HO := hid fun u => rOdd_any u
  go_enter Try.func45, Try.ntmps45
  go_wp2_with fail
  refine (Calls.mono (H1.out _)) ?_
  rintro r wx ⟨rfl, hw⟩
  rw [hw]
  clear hw wx H1
  go_wp2_with fail
  refine (Calls.mono (H2.out _)) ?_
  rintro r wx ⟨rfl, hw⟩
  rw [hw]
  clear hw wx H2
  go_wp2_with fail
  refine (Calls.mono (H3.out _)) ?_
  rintro r wx ⟨rfl, hw⟩
  rw [hw]
  clear hw wx H3
  go_wp2_with fail
  refine (Calls.mono (H4.out _)) ?_
  rintro r wx ⟨rfl, hw⟩
  rw [hw]
  clear hw wx H4
  go_wp2_with fail
  refine (Calls.mono (H5.out _)) ?_
  rintro r wx ⟨rfl, hw⟩
  rw [hw]
  clear hw wx H5
  go_wp2_with fail
  refine (Calls.mono (H6.out _)) ?_
  rintro r wx ⟨rfl, hw⟩
  rw [hw]
  clear hw wx H6
  go_wp2_with fail
  refine (Calls.mono (H7.out _)) ?_
  rintro r wx ⟨rfl, hw⟩
  rw [hw]
  clear hw wx H7
  go_wp2_with fail
  refine (Calls.mono (H8.out _)) ?_
  rintro r wx ⟨rfl, hw⟩
  rw [hw]
  clear hw wx H8
  go_wp2_with fail
  refine (Calls.mono (HO.out _)) ?_
  rintro r wx ⟨rfl, hw⟩
  rw [hw]
  clear hw wx HO
  go_wp2
  exact bodyPost_ret (v := .float .f64 oddW) (by simp [results, Try.results45, go_sem]) rfl ⟨rfl, (by repeat (first | exact Below.refl _ _ | refine Below.drew ?_))⟩
set_option maxHeartbeats 2000000 in
theorem rTimes_ii (x y : Nat) (nx ny : Bool) (w : World)
    (H1 : Hid (∀ u, Calls Try.prog 64 #[.float .f64 x] u fun r w' => r = .returned (.bool nx) ∧ w' = u))
    (H2 : Hid (∀ u, Calls Try.prog 64 #[.float .f64 y] u fun r w' => r = .returned (.bool ny) ∧ w' = u))
    (H3 : Hid (∀ u, Calls Try.prog 62 #[.float .f64 x] u fun r w' => r = .returned (.bool false) ∧ w' = u))
    (H4 : Hid (∀ u, Calls Try.prog 62 #[.float .f64 y] u fun r w' => r = .returned (.bool false) ∧ w' = u))
    (H5 : Hid (∀ u, Calls Try.prog 63 #[.float .f64 x] u fun r w' => r = .returned (.bool true) ∧ w' = u))
    (H6 : Hid (∀ u, Calls Try.prog 63 #[.float .f64 y] u fun r w' => r = .returned (.bool true) ∧ w' = u))
    (H7 : Hid (∀ u, Calls Try.prog 52 #[.float .f64 x] u fun r w' => r = .returned (.bool false) ∧ w' = u))
    (H8 : Hid (∀ u, Calls Try.prog 52 #[.float .f64 y] u fun r w' => r = .returned (.bool false) ∧ w' = u)) :
    Calls Try.prog 45 #[.float .f64 x, .float .f64 y] w fun r w' => r = .returned (.float .f64 (wd64 (nx != ny) 9218868437227405312)) ∧ Below w.heap.size w w' := by
  have HO := hid fun u => rsigned_any 9218868437227405312 (by decide) (nx != ny) u
  go_enter Try.func45, Try.ntmps45
  go_wp2_with fail
  refine (Calls.mono (H1.out _)) ?_
  rintro r wx ⟨rfl, hw⟩
  rw [hw]
  clear hw wx H1
  go_wp2_with fail
  refine (Calls.mono (H2.out _)) ?_
  rintro r wx ⟨rfl, hw⟩
  rw [hw]
  clear hw wx H2
  go_wp2_with fail
  refine (Calls.mono (H3.out _)) ?_
  rintro r wx ⟨rfl, hw⟩
  rw [hw]
  clear hw wx H3
  go_wp2_with fail
  refine (Calls.mono (H4.out _)) ?_
  rintro r wx ⟨rfl, hw⟩
  rw [hw]
  clear hw wx H4
  go_wp2_with fail
  refine (Calls.mono (H5.out _)) ?_
  rintro r wx ⟨rfl, hw⟩
  rw [hw]
  clear hw wx H5
  go_wp2_with fail
  refine (Calls.mono (H6.out _)) ?_
  rintro r wx ⟨rfl, hw⟩
  rw [hw]
  clear hw wx H6
  go_wp2_with fail
  refine (Calls.mono (H7.out _)) ?_
  rintro r wx ⟨rfl, hw⟩
  rw [hw]
  clear hw wx H7
  go_wp2_with fail
  refine (Calls.mono (H8.out _)) ?_
  rintro r wx ⟨rfl, hw⟩
  rw [hw]
  clear hw wx H8
  go_wp2_with fail
  refine (Calls.mono (HO.out _)) ?_
  rintro r wx ⟨rfl, hw⟩
  rw [hw]
  clear hw wx HO
  go_wp2
  exact bodyPost_ret (v := .float .f64 (wd64 (nx != ny) 9218868437227405312)) (by simp [results, Try.results45, go_sem]) rfl ⟨rfl, (by repeat (first | exact Below.refl _ _ | refine Below.drew ?_))⟩
set_option maxHeartbeats 2000000 in
theorem rTimes_iz (x y : Nat) (nx ny : Bool) (w : World)
    (H1 : Hid (∀ u, Calls Try.prog 64 #[.float .f64 x] u fun r w' => r = .returned (.bool nx) ∧ w' = u))
    (H2 : Hid (∀ u, Calls Try.prog 64 #[.float .f64 y] u fun r w' => r = .returned (.bool ny) ∧ w' = u))
    (H3 : Hid (∀ u, Calls Try.prog 62 #[.float .f64 x] u fun r w' => r = .returned (.bool false) ∧ w' = u))
    (H4 : Hid (∀ u, Calls Try.prog 62 #[.float .f64 y] u fun r w' => r = .returned (.bool false) ∧ w' = u))
    (H5 : Hid (∀ u, Calls Try.prog 63 #[.float .f64 x] u fun r w' => r = .returned (.bool true) ∧ w' = u))
    (H6 : Hid (∀ u, Calls Try.prog 63 #[.float .f64 y] u fun r w' => r = .returned (.bool false) ∧ w' = u))
    (H7 : Hid (∀ u, Calls Try.prog 52 #[.float .f64 x] u fun r w' => r = .returned (.bool false) ∧ w' = u))
    (H8 : Hid (∀ u, Calls Try.prog 52 #[.float .f64 y] u fun r w' => r = .returned (.bool true) ∧ w' = u)) :
    Calls Try.prog 45 #[.float .f64 x, .float .f64 y] w fun r w' => r = .returned (.float .f64 oddW) ∧ Below w.heap.size w w' := by
  have HO := hid fun u => rOdd_any u
  go_enter Try.func45, Try.ntmps45
  go_wp2_with fail
  refine (Calls.mono (H1.out _)) ?_
  rintro r wx ⟨rfl, hw⟩
  rw [hw]
  clear hw wx H1
  go_wp2_with fail
  refine (Calls.mono (H2.out _)) ?_
  rintro r wx ⟨rfl, hw⟩
  rw [hw]
  clear hw wx H2
  go_wp2_with fail
  refine (Calls.mono (H3.out _)) ?_
  rintro r wx ⟨rfl, hw⟩
  rw [hw]
  clear hw wx H3
  go_wp2_with fail
  refine (Calls.mono (H4.out _)) ?_
  rintro r wx ⟨rfl, hw⟩
  rw [hw]
  clear hw wx H4
  go_wp2_with fail
  refine (Calls.mono (H5.out _)) ?_
  rintro r wx ⟨rfl, hw⟩
  rw [hw]
  clear hw wx H5
  go_wp2_with fail
  refine (Calls.mono (H6.out _)) ?_
  rintro r wx ⟨rfl, hw⟩
  rw [hw]
  clear hw wx H6
  go_wp2_with fail
  refine (Calls.mono (H7.out _)) ?_
  rintro r wx ⟨rfl, hw⟩
  rw [hw]
  clear hw wx H7
  go_wp2_with fail
  refine (Calls.mono (H8.out _)) ?_
  rintro r wx ⟨rfl, hw⟩
  rw [hw]
  clear hw wx H8
  go_wp2_with fail
  refine (Calls.mono (HO.out _)) ?_
  rintro r wx ⟨rfl, hw⟩
  rw [hw]
  clear hw wx HO
  go_wp2
  exact bodyPost_ret (v := .float .f64 oddW) (by simp [results, Try.results45, go_sem]) rfl ⟨rfl, (by repeat (first | exact Below.refl _ _ | refine Below.drew ?_))⟩
set_option maxHeartbeats 2000000 in
theorem rTimes_if (x y : Nat) (nx ny : Bool) (w : World)
    (H1 : Hid (∀ u, Calls Try.prog 64 #[.float .f64 x] u fun r w' => r = .returned (.bool nx) ∧ w' = u))
    (H2 : Hid (∀ u, Calls Try.prog 64 #[.float .f64 y] u fun r w' => r = .returned (.bool ny) ∧ w' = u))
    (H3 : Hid (∀ u, Calls Try.prog 62 #[.float .f64 x] u fun r w' => r = .returned (.bool false) ∧ w' = u))
    (H4 : Hid (∀ u, Calls Try.prog 62 #[.float .f64 y] u fun r w' => r = .returned (.bool false) ∧ w' = u))
    (H5 : Hid (∀ u, Calls Try.prog 63 #[.float .f64 x] u fun r w' => r = .returned (.bool true) ∧ w' = u))
    (H6 : Hid (∀ u, Calls Try.prog 63 #[.float .f64 y] u fun r w' => r = .returned (.bool false) ∧ w' = u))
    (H7 : Hid (∀ u, Calls Try.prog 52 #[.float .f64 x] u fun r w' => r = .returned (.bool false) ∧ w' = u))
    (H8 : Hid (∀ u, Calls Try.prog 52 #[.float .f64 y] u fun r w' => r = .returned (.bool false) ∧ w' = u)) :
    Calls Try.prog 45 #[.float .f64 x, .float .f64 y] w fun r w' => r = .returned (.float .f64 (wd64 (nx != ny) 9218868437227405312)) ∧ Below w.heap.size w w' := by
  have HO := hid fun u => rsigned_any 9218868437227405312 (by decide) (nx != ny) u
  go_enter Try.func45, Try.ntmps45
  go_wp2_with fail
  refine (Calls.mono (H1.out _)) ?_
  rintro r wx ⟨rfl, hw⟩
  rw [hw]
  clear hw wx H1
  go_wp2_with fail
  refine (Calls.mono (H2.out _)) ?_
  rintro r wx ⟨rfl, hw⟩
  rw [hw]
  clear hw wx H2
  go_wp2_with fail
  refine (Calls.mono (H3.out _)) ?_
  rintro r wx ⟨rfl, hw⟩
  rw [hw]
  clear hw wx H3
  go_wp2_with fail
  refine (Calls.mono (H4.out _)) ?_
  rintro r wx ⟨rfl, hw⟩
  rw [hw]
  clear hw wx H4
  go_wp2_with fail
  refine (Calls.mono (H5.out _)) ?_
  rintro r wx ⟨rfl, hw⟩
  rw [hw]
  clear hw wx H5
  go_wp2_with fail
  refine (Calls.mono (H6.out _)) ?_
  rintro r wx ⟨rfl, hw⟩
  rw [hw]
  clear hw wx H6
  go_wp2_with fail
  refine (Calls.mono (H7.out _)) ?_
  rintro r wx ⟨rfl, hw⟩
  rw [hw]
  clear hw wx H7
  go_wp2_with fail
  refine (Calls.mono (H8.out _)) ?_
  rintro r wx ⟨rfl, hw⟩
  rw [hw]
  clear hw wx H8
  go_wp2_with fail
  refine (Calls.mono (HO.out _)) ?_
  rintro r wx ⟨rfl, hw⟩
  rw [hw]
  clear hw wx HO
  go_wp2
  exact bodyPost_ret (v := .float .f64 (wd64 (nx != ny) 9218868437227405312)) (by simp [results, Try.results45, go_sem]) rfl ⟨rfl, (by repeat (first | exact Below.refl _ _ | refine Below.drew ?_))⟩
set_option maxHeartbeats 2000000 in
theorem rTimes_zn (x y : Nat) (nx ny : Bool) (w : World)
    (H1 : Hid (∀ u, Calls Try.prog 64 #[.float .f64 x] u fun r w' => r = .returned (.bool nx) ∧ w' = u))
    (H2 : Hid (∀ u, Calls Try.prog 64 #[.float .f64 y] u fun r w' => r = .returned (.bool ny) ∧ w' = u))
    (H3 : Hid (∀ u, Calls Try.prog 62 #[.float .f64 x] u fun r w' => r = .returned (.bool false) ∧ w' = u))
    (H4 : Hid (∀ u, Calls Try.prog 62 #[.float .f64 y] u fun r w' => r = .returned (.bool true) ∧ w' = u))
    (H5 : Hid (∀ u, Calls Try.prog 63 #[.float .f64 x] u fun r w' => r = .returned (.bool false) ∧ w' = u))
    (H6 : Hid (∀ u, Calls Try.prog 63 #[.float .f64 y] u fun r w' => r = .returned (.bool false) ∧ w' = u))
    (H7 : Hid (∀ u, Calls Try.prog 52 #[.float .f64 x] u fun r w' => r = .returned (.bool true) ∧ w' = u))
    (H8 : Hid (∀ u, Calls Try.prog 52 #[.float .f64 y] u fun r w' => r = .returned (.bool false) ∧ w' = u)) :
    Calls Try.prog 45 #[.float .f64 x, .float .f64 y] w fun r w' => r = .returned (.float .f64 oddW) ∧ Below w.heap.size w w' := by
  have HO := hid fun u => rOdd_any u
  go_enter Try.func45, Try.ntmps45
  go_wp2_with fail
  refine (Calls.mono (H1.out _)) ?_
  rintro r wx ⟨rfl, hw⟩
  rw [hw]
  clear hw wx H1
  go_wp2_with fail
  refine (Calls.mono (H2.out _)) ?_
  rintro r wx ⟨rfl, hw⟩
  rw [hw]
  clear hw wx H2
  go_wp2_with fail
  refine (Calls.mono (H3.out _)) ?_
  rintro r wx ⟨rfl, hw⟩
  rw [hw]
  clear hw wx H3
  go_wp2_with fail
  refine (Calls.mono (H4.out _)) ?_
  rintro r wx ⟨rfl, hw⟩
  rw [hw]
  clear hw wx H4
  go_wp2_with fail
  refine (Calls.mono (H5.out _)) ?_
  rintro r wx ⟨rfl, hw⟩
  rw [hw]
  clear hw wx H5
  go_wp2_with fail
  refine (Calls.mono (H6.out _)) ?_
  rintro r wx ⟨rfl, hw⟩
  rw [hw]
  clear hw wx H6
  go_wp2_with fail
  refine (Calls.mono (H7.out _)) ?_
  rintro r wx ⟨rfl, hw⟩
  rw [hw]
  clear hw wx H7
  go_wp2_with fail
  refine (Calls.mono (H8.out _)) ?_
  rintro r wx ⟨rfl, hw⟩
  rw [hw]
  clear hw wx H8
  go_wp2_with fail
  refine (Calls.mono (HO.out _)) ?_
  rintro r wx ⟨rfl, hw⟩
  rw [hw]
  clear hw wx HO
  go_wp2
  exact bodyPost_ret (v := .float .f64 oddW) (by simp [results, Try.results45, go_sem]) rfl ⟨rfl, (by repeat (first | exact Below.refl _ _ | refine Below.drew ?_))⟩
set_option maxHeartbeats 2000000 in
theorem rTimes_zi (x y : Nat) (nx ny : Bool) (w : World)
    (H1 : Hid (∀ u, Calls Try.prog 64 #[.float .f64 x] u fun r w' => r = .returned (.bool nx) ∧ w' = u))
    (H2 : Hid (∀ u, Calls Try.prog 64 #[.float .f64 y] u fun r w' => r = .returned (.bool ny) ∧ w' = u))
    (H3 : Hid (∀ u, Calls Try.prog 62 #[.float .f64 x] u fun r w' => r = .returned (.bool false) ∧ w' = u))
    (H4 : Hid (∀ u, Calls Try.prog 62 #[.float .f64 y] u fun r w' => r = .returned (.bool false) ∧ w' = u))
    (H5 : Hid (∀ u, Calls Try.prog 63 #[.float .f64 x] u fun r w' => r = .returned (.bool false) ∧ w' = u))
    (H6 : Hid (∀ u, Calls Try.prog 63 #[.float .f64 y] u fun r w' => r = .returned (.bool true) ∧ w' = u))
    (H7 : Hid (∀ u, Calls Try.prog 52 #[.float .f64 x] u fun r w' => r = .returned (.bool true) ∧ w' = u))
    (H8 : Hid (∀ u, Calls Try.prog 52 #[.float .f64 y] u fun r w' => r = .returned (.bool false) ∧ w' = u)) :
    Calls Try.prog 45 #[.float .f64 x, .float .f64 y] w fun r w' => r = .returned (.float .f64 oddW) ∧ Below w.heap.size w w' := by
  have HO := hid fun u => rOdd_any u
  go_enter Try.func45, Try.ntmps45
  go_wp2_with fail
  refine (Calls.mono (H1.out _)) ?_
  rintro r wx ⟨rfl, hw⟩
  rw [hw]
  clear hw wx H1
  go_wp2_with fail
  refine (Calls.mono (H2.out _)) ?_
  rintro r wx ⟨rfl, hw⟩
  rw [hw]
  clear hw wx H2
  go_wp2_with fail
  refine (Calls.mono (H3.out _)) ?_
  rintro r wx ⟨rfl, hw⟩
  rw [hw]
  clear hw wx H3
  go_wp2_with fail
  refine (Calls.mono (H4.out _)) ?_
  rintro r wx ⟨rfl, hw⟩
  rw [hw]
  clear hw wx H4
  go_wp2_with fail
  refine (Calls.mono (H5.out _)) ?_
  rintro r wx ⟨rfl, hw⟩
  rw [hw]
  clear hw wx H5
  go_wp2_with fail
  refine (Calls.mono (H6.out _)) ?_
  rintro r wx ⟨rfl, hw⟩
  rw [hw]
  clear hw wx H6
  go_wp2_with fail
  refine (Calls.mono (H7.out _)) ?_
  rintro r wx ⟨rfl, hw⟩
  rw [hw]
  clear hw wx H7
  go_wp2_with fail
  refine (Calls.mono (H8.out _)) ?_
  rintro r wx ⟨rfl, hw⟩
  rw [hw]
  clear hw wx H8
  go_wp2_with fail
  refine (Calls.mono (HO.out _)) ?_
  rintro r wx ⟨rfl, hw⟩
  rw [hw]
  clear hw wx HO
  go_wp2
  exact bodyPost_ret (v := .float .f64 oddW) (by simp [results, Try.results45, go_sem]) rfl ⟨rfl, (by repeat (first | exact Below.refl _ _ | refine Below.drew ?_))⟩
set_option maxHeartbeats 2000000 in
theorem rTimes_zz (x y : Nat) (nx ny : Bool) (w : World)
    (H1 : Hid (∀ u, Calls Try.prog 64 #[.float .f64 x] u fun r w' => r = .returned (.bool nx) ∧ w' = u))
    (H2 : Hid (∀ u, Calls Try.prog 64 #[.float .f64 y] u fun r w' => r = .returned (.bool ny) ∧ w' = u))
    (H3 : Hid (∀ u, Calls Try.prog 62 #[.float .f64 x] u fun r w' => r = .returned (.bool false) ∧ w' = u))
    (H4 : Hid (∀ u, Calls Try.prog 62 #[.float .f64 y] u fun r w' => r = .returned (.bool false) ∧ w' = u))
    (H5 : Hid (∀ u, Calls Try.prog 63 #[.float .f64 x] u fun r w' => r = .returned (.bool false) ∧ w' = u))
    (H6 : Hid (∀ u, Calls Try.prog 63 #[.float .f64 y] u fun r w' => r = .returned (.bool false) ∧ w' = u))
    (H7 : Hid (∀ u, Calls Try.prog 52 #[.float .f64 x] u fun r w' => r = .returned (.bool true) ∧ w' = u))
    (H8 : Hid (∀ u, Calls Try.prog 52 #[.float .f64 y] u fun r w' => r = .returned (.bool true) ∧ w' = u)) :
    Calls Try.prog 45 #[.float .f64 x, .float .f64 y] w fun r w' => r = .returned (.float .f64 (wd64 (nx != ny) 0)) ∧ Below w.heap.size w w' := by
  have HO := hid fun u => rsigned_any 0 (by decide) (nx != ny) u
  go_enter Try.func45, Try.ntmps45
  go_wp2_with fail
  refine (Calls.mono (H1.out _)) ?_
  rintro r wx ⟨rfl, hw⟩
  rw [hw]
  clear hw wx H1
  go_wp2_with fail
  refine (Calls.mono (H2.out _)) ?_
  rintro r wx ⟨rfl, hw⟩
  rw [hw]
  clear hw wx H2
  go_wp2_with fail
  refine (Calls.mono (H3.out _)) ?_
  rintro r wx ⟨rfl, hw⟩
  rw [hw]
  clear hw wx H3
  go_wp2_with fail
  refine (Calls.mono (H4.out _)) ?_
  rintro r wx ⟨rfl, hw⟩
  rw [hw]
  clear hw wx H4
  go_wp2_with fail
  refine (Calls.mono (H5.out _)) ?_
  rintro r wx ⟨rfl, hw⟩
  rw [hw]
  clear hw wx H5
  go_wp2_with fail
  refine (Calls.mono (H6.out _)) ?_
  rintro r wx ⟨rfl, hw⟩
  rw [hw]
  clear hw wx H6
  go_wp2_with fail
  refine (Calls.mono (H7.out _)) ?_
  rintro r wx ⟨rfl, hw⟩
  rw [hw]
  clear hw wx H7
  go_wp2_with fail
  refine (Calls.mono (H8.out _)) ?_
  rintro r wx ⟨rfl, hw⟩
  rw [hw]
  clear hw wx H8
  go_wp2_with fail
  refine (Calls.mono (HO.out _)) ?_
  rintro r wx ⟨rfl, hw⟩
  rw [hw]
  clear hw wx HO
  go_wp2
  exact bodyPost_ret (v := .float .f64 (wd64 (nx != ny) 0)) (by simp [results, Try.results45, go_sem]) rfl ⟨rfl, (by repeat (first | exact Below.refl _ _ | refine Below.drew ?_))⟩
set_option maxHeartbeats 2000000 in
theorem rTimes_zf (x y : Nat) (nx ny : Bool) (w : World)
    (H1 : Hid (∀ u, Calls Try.prog 64 #[.float .f64 x] u fun r w' => r = .returned (.bool nx) ∧ w' = u))
    (H2 : Hid (∀ u, Calls Try.prog 64 #[.float .f64 y] u fun r w' => r = .returned (.bool ny) ∧ w' = u))
    (H3 : Hid (∀ u, Calls Try.prog 62 #[.float .f64 x] u fun r w' => r = .returned (.bool false) ∧ w' = u))
    (H4 : Hid (∀ u, Calls Try.prog 62 #[.float .f64 y] u fun r w' => r = .returned (.bool false) ∧ w' = u))
    (H5 : Hid (∀ u, Calls Try.prog 63 #[.float .f64 x] u fun r w' => r = .returned (.bool false) ∧ w' = u))
    (H6 : Hid (∀ u, Calls Try.prog 63 #[.float .f64 y] u fun r w' => r = .returned (.bool false) ∧ w' = u))
    (H7 : Hid (∀ u, Calls Try.prog 52 #[.float .f64 x] u fun r w' => r = .returned (.bool true) ∧ w' = u))
    (H8 : Hid (∀ u, Calls Try.prog 52 #[.float .f64 y] u fun r w' => r = .returned (.bool false) ∧ w' = u)) :
    Calls Try.prog 45 #[.float .f64 x, .float .f64 y] w fun r w' => r = .returned (.float .f64 (wd64 (nx != ny) 0)) ∧ Below w.heap.size w w' := by
  have HO := hid fun u => rsigned_any 0 (by decide) (nx != ny) u
  go_enter Try.func45, Try.ntmps45
  go_wp2_with fail
  refine (Calls.mono (H1.out _)) ?_
  rintro r wx ⟨rfl, hw⟩
  rw [hw]
  clear hw wx H1
  go_wp2_with fail
  refine (Calls.mono (H2.out _)) ?_
  rintro r wx ⟨rfl, hw⟩
  rw [hw]
  clear hw wx H2
  go_wp2_with fail
  refine (Calls.mono (H3.out _)) ?_
  rintro r wx ⟨rfl, hw⟩
  rw [hw]
  clear hw wx H3
  go_wp2_with fail
  refine (Calls.mono (H4.out _)) ?_
  rintro r wx ⟨rfl, hw⟩
  rw [hw]
  clear hw wx H4
  go_wp2_with fail
  refine (Calls.mono (H5.out _)) ?_
  rintro r wx ⟨rfl, hw⟩
  rw [hw]
  clear hw wx H5
  go_wp2_with fail
  refine (Calls.mono (H6.out _)) ?_
  rintro r wx ⟨rfl, hw⟩
  rw [hw]
  clear hw wx H6
  go_wp2_with fail
  refine (Calls.mono (H7.out _)) ?_
  rintro r wx ⟨rfl, hw⟩
  rw [hw]
  clear hw wx H7
  go_wp2_with fail
  refine (Calls.mono (H8.out _)) ?_
  rintro r wx ⟨rfl, hw⟩
  rw [hw]
  clear hw wx H8
  go_wp2_with fail
  refine (Calls.mono (HO.out _)) ?_
  rintro r wx ⟨rfl, hw⟩
  rw [hw]
  clear hw wx HO
  go_wp2
  exact bodyPost_ret (v := .float .f64 (wd64 (nx != ny) 0)) (by simp [results, Try.results45, go_sem]) rfl ⟨rfl, (by repeat (first | exact Below.refl _ _ | refine Below.drew ?_))⟩
set_option maxHeartbeats 2000000 in
theorem rTimes_fn (x y : Nat) (nx ny : Bool) (w : World)
    (H1 : Hid (∀ u, Calls Try.prog 64 #[.float .f64 x] u fun r w' => r = .returned (.bool nx) ∧ w' = u))
    (H2 : Hid (∀ u, Calls Try.prog 64 #[.float .f64 y] u fun r w' => r = .returned (.bool ny) ∧ w' = u))
    (H3 : Hid (∀ u, Calls Try.prog 62 #[.float .f64 x] u fun r w' => r = .returned (.bool false) ∧ w' = u))
    (H4 : Hid (∀ u, Calls Try.prog 62 #[.float .f64 y] u fun r w' => r = .returned (.bool true) ∧ w' = u))
    (H5 : Hid (∀ u, Calls Try.prog 63 #[.float .f64 x] u fun r w' => r = .returned (.bool false) ∧ w' = u))
    (H6 : Hid (∀ u, Calls Try.prog 63 #[.float .f64 y] u fun r w' => r = .returned (.bool false) ∧ w' = u))
    (H7 : Hid (∀ u, Calls Try.prog 52 #[.float .f64 x] u fun r w' => r = .returned (.bool false) ∧ w' = u))
    (H8 : Hid (∀ u, Calls Try.prog 52 #[.float .f64 y] u fun r w' => r = .returned (.bool false) ∧ w' = u)) :
    Calls Try.prog 45 #[.float .f64 x, .float .f64 y] w fun r w' => r = .returned (.float .f64 oddW) ∧ Below w.heap.size w w' := by
  have HO := hid fun u => rOdd_any u
  go_enter Try.func45, Try.ntmps45
  go_wp2_with fail
  refine (Calls.mono (H1.out _)) ?_
  rintro r wx ⟨rfl, hw⟩
  rw [hw]
  clear hw wx H1
  go_wp2_with fail
  refine (Calls.mono (H2.out _)) ?_
  rintro r wx ⟨rfl, hw⟩
  rw [hw]
  clear hw wx H2
  go_wp2_with fail
  refine (Calls.mono (H3.out _)) ?_
  rintro r wx ⟨rfl, hw⟩
  rw [hw]
  clear hw wx H3
  go_wp2_with fail
  refine (Calls.mono (H4.out _)) ?_
  rintro r wx ⟨rfl, hw⟩
  rw [hw]
  clear hw wx H4
  go_wp2_with fail
  refine (Calls.mono (H5.out _)) ?_
  rintro r wx ⟨rfl, hw⟩
  rw [hw]
  clear hw wx H5
  go_wp2_with fail
  refine (Calls.mono (H6.out _)) ?_
  rintro r wx ⟨rfl, hw⟩
  rw [hw]
  clear hw wx H6
  go_wp2_with fail
  refine (Calls.mono (H7.out _)) ?_
  rintro r wx ⟨rfl, hw⟩
  rw [hw]
  clear hw wx H7
  go_wp2_with fail
  refine (Calls.mono (H8.out _)) ?_
  rintro r wx ⟨rfl, hw⟩
  rw [hw]
  clear hw wx H8
  go_wp2_with fail
  refine (Calls.mono (HO.out _)) ?_
  rintro r wx ⟨rfl, hw⟩
  rw [hw]
  clear hw wx HO
  go_wp2
  exact bodyPost_ret (v := .float .f64 oddW) (by simp [results, Try.results45, go_sem]) rfl ⟨rfl, (by repeat (first | exact Below.refl _ _ | refine Below.drew ?_))⟩
set_option maxHeartbeats 2000000 in
theorem rTimes_fi (x y : Nat) (nx ny : Bool) (w : World)
    (H1 : Hid (∀ u, Calls Try.prog 64 #[.float .f64 x] u fun r w' => r = .returned (.bool nx) ∧ w' = u))
    (H2 : Hid (∀ u, Calls Try.prog 64 #[.float .f64 y] u fun r w' => r = .returned (.bool ny) ∧ w' = u))
    (H3 : Hid (∀ u, Calls Try.prog 62 #[.float .f64 x] u fun r w' => r = .returned (.bool false) ∧ w' = u))
    (H4 : Hid (∀ u, Calls Try.prog 62 #[.float .f64 y] u fun r w' => r = .returned (.bool false) ∧ w' = u))
    (H5 : Hid (∀ u, Calls Try.prog 63 #[.float .f64 x] u fun r w' => r = .returned (.bool false) ∧ w' = u))
    (H6 : Hid (∀ u, Calls Try.prog 63 #[.float .f64 y] u fun r w' => r = .returned (.bool true) ∧ w' = u))
    (H7 : Hid (∀ u, Calls Try.prog 52 #[.float .f64 x] u fun r w' => r = .returned (.bool false) ∧ w' = u))
    (H8 : Hid (∀ u, Calls Try.prog 52 #[.float .f64 y] u fun r w' => r = .returned (.bool false) ∧ w' = u)) :
    Calls Try.prog 45 #[.float .f64 x, .float .f64 y] w fun r w' => r = .returned (.float .f64 (wd64 (nx != ny) 9218868437227405312)) ∧ Below w.heap.size w w' := by
  have HO := hid fun u => rsigned_any 9218868437227405312 (by decide) (nx != ny) u
  go_enter Try.func45, Try.ntmps45
  go_wp2_with fail
  refine (Calls.mono (H1.out _)) ?_
  rintro r wx ⟨rfl, hw⟩
  rw [hw]
  clear hw wx H1
  go_wp2_with fail
  refine (Calls.mono (H2.out _)) ?_
  rintro r wx ⟨rfl, hw⟩
  rw [hw]
  clear hw wx H2
  go_wp2_with fail
  refine (Calls.mono (H3.out _)) ?_
  rintro r wx ⟨rfl, hw⟩
  rw [hw]
  clear hw wx H3
  go_wp2_with fail
  refine (Calls.mono (H4.out _)) ?_
  rintro r wx ⟨rfl, hw⟩
  rw [hw]
  clear hw wx H4
  go_wp2_with fail
  refine (Calls.mono (H5.out _)) ?_
  rintro r wx ⟨rfl, hw⟩
  rw [hw]
  clear hw wx H5
  go_wp2_with fail
  refine (Calls.mono (H6.out _)) ?_
  rintro r wx ⟨rfl, hw⟩
  rw [hw]
  clear hw wx H6
  go_wp2_with fail
  refine (Calls.mono (H7.out _)) ?_
  rintro r wx ⟨rfl, hw⟩
  rw [hw]
  clear hw wx H7
  go_wp2_with fail
  refine (Calls.mono (H8.out _)) ?_
  rintro r wx ⟨rfl, hw⟩
  rw [hw]
  clear hw wx H8
  go_wp2_with fail
  refine (Calls.mono (HO.out _)) ?_
  rintro r wx ⟨rfl, hw⟩
  rw [hw]
  clear hw wx HO
  go_wp2
  exact bodyPost_ret (v := .float .f64 (wd64 (nx != ny) 9218868437227405312)) (by simp [results, Try.results45, go_sem]) rfl ⟨rfl, (by repeat (first | exact Below.refl _ _ | refine Below.drew ?_))⟩
set_option maxHeartbeats 2000000 in
theorem rTimes_fz (x y : Nat) (nx ny : Bool) (w : World)
    (H1 : Hid (∀ u, Calls Try.prog 64 #[.float .f64 x] u fun r w' => r = .returned (.bool nx) ∧ w' = u))
    (H2 : Hid (∀ u, Calls Try.prog 64 #[.float .f64 y] u fun r w' => r = .returned (.bool ny) ∧ w' = u))
    (H3 : Hid (∀ u, Calls Try.prog 62 #[.float .f64 x] u fun r w' => r = .returned (.bool false) ∧ w' = u))
    (H4 : Hid (∀ u, Calls Try.prog 62 #[.float .f64 y] u fun r w' => r = .returned (.bool false) ∧ w' = u))
    (H5 : Hid (∀ u, Calls Try.prog 63 #[.float .f64 x] u fun r w' => r = .returned (.bool false) ∧ w' = u))
    (H6 : Hid (∀ u, Calls Try.prog 63 #[.float .f64 y] u fun r w' => r = .returned (.bool false) ∧ w' = u))
    (H7 : Hid (∀ u, Calls Try.prog 52 #[.float .f64 x] u fun r w' => r = .returned (.bool false) ∧ w' = u))
    (H8 : Hid (∀ u, Calls Try.prog 52 #[.float .f64 y] u fun r w' => r = .returned (.bool true) ∧ w' = u)) :
    Calls Try.prog 45 #[.float .f64 x, .float .f64 y] w fun r w' => r = .returned (.float .f64 (wd64 (nx != ny) 0)) ∧ Below w.heap.size w w' := by
  have HO := hid fun u => rsigned_any 0 (by decide) (nx != ny) u
  go_enter Try.func45, Try.ntmps45
  go_wp2_with fail
  refine (Calls.mono (H1.out _)) ?_
  rintro r wx ⟨rfl, hw⟩
  rw [hw]
  clear hw wx H1
  go_wp2_with fail
  refine (Calls.mono (H2.out _)) ?_
  rintro r wx ⟨rfl, hw⟩
  rw [hw]
  clear hw wx H2
  go_wp2_with fail
  refine (Calls.mono (H3.out _)) ?_
  rintro r wx ⟨rfl, hw⟩
  rw [hw]
  clear hw wx H3
  go_wp2_with fail
  refine (Calls.mono (H4.out _)) ?_
  rintro r wx ⟨rfl, hw⟩
  rw [hw]
  clear hw wx H4
  go_wp2_with fail
  refine (Calls.mono (H5.out _)) ?_
  rintro r wx ⟨rfl, hw⟩
  rw [hw]
  clear hw wx H5
  go_wp2_with fail
  refine (Calls.mono (H6.out _)) ?_
  rintro r wx ⟨rfl, hw⟩
  rw [hw]
  clear hw wx H6
  go_wp2_with fail
  refine (Calls.mono (H7.out _)) ?_
  rintro r wx ⟨rfl, hw⟩
  rw [hw]
  clear hw wx H7
  go_wp2_with fail
  refine (Calls.mono (H8.out _)) ?_
  rintro r wx ⟨rfl, hw⟩
  rw [hw]
  clear hw wx H8
  go_wp2_with fail
  refine (Calls.mono (HO.out _)) ?_
  rintro r wx ⟨rfl, hw⟩
  rw [hw]
  clear hw wx HO
  go_wp2
  exact bodyPost_ret (v := .float .f64 (wd64 (nx != ny) 0)) (by simp [results, Try.results45, go_sem]) rfl ⟨rfl, (by repeat (first | exact Below.refl _ _ | refine Below.drew ?_))⟩
end Go.Proofs.Ythilnddhehbjiab

