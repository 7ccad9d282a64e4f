/- P5.7 by words: Add, Mul of good pairs. -/
import Derived.Test.YthilnddhehbjiabJ16x
import Derived.KernelRfl
namespace Go.Proofs.Ythilnddhehbjiab
open Go.RowKit J
set_option linter.unusedVariables false
set_option maxRecDepth 20000
set_option linter.unusedSimpArgs false

theorem lim3 {V : Int} {m B : Nat} (hB : 1267650600228229401496703205376 * B ≤ QQ) (hm : m ≤ 1267650600228229401496703205376) (h : V.natAbs ≤ m * B) : V.natAbs ≤ 3 * QQ := by
  have := Nat.mul_le_mul_right B hm
  omega
theorem add2 {x y : Int} {m n k B : Nat} (h1 : x.natAbs ≤ m * B) (h2 : y.natAbs ≤ n * B) (hk : m + n ≤ k) : (x + y).natAbs ≤ k * B := by
  have e := Nat.mul_le_mul_right B hk
  rw [Nat.add_mul] at e
  omega
theorem sub2 {x y : Int} {m n k B : Nat} (h1 : x.natAbs ≤ m * B) (h2 : y.natAbs ≤ n * B) (hk : m + n ≤ k) : (x - y).natAbs ≤ k * B := by
  have e := Nat.mul_le_mul_right B hk
  rw [Nat.add_mul] at e
  omega
theorem quick_words {a b m n B : Nat} (wa : Wd a) (wb : Wd b) (fa : finW a) (fb : finW b) (hB : 1267650600228229401496703205376 * B ≤ QQ) (ha : (fvW a).natAbs ≤ m * B) (hb : (fvW b).natAbs ≤ n * B) (hm : m ≤ 65536) (hn : n ≤ 65536) :
    finW (quickP a b).1 ∧ finW (quickP a b).2 ∧ IsRn (fvW a + fvW b) (fvW (quickP a b).1) ∧ (fvW (quickP a b).1).natAbs ≤ 2 * (m + n) * B ∧ (fvW (quickP a b).2).natAbs ≤ 2 * (n + 2 * (2 * (m + n) + m)) * B ∧
      (((fvW b).natAbs ≤ (fvW a).natAbs ∨ ∃ k : Nat, (2 : Int) ^ k ∣ fvW a ∧ (2 : Int) ^ k ∣ fvW b ∧ (fvW b).natAbs < 2 ^ (53 + k)) → fvW (quickP a b).1 + fvW (quickP a b).2 = fvW a + fvW b) := by
  have b1 := add2 ha hb (Nat.le_refl _)
  obtain ⟨f1, r1⟩ := pl_fin wa wb fa fb (lim3 hB (by omega) b1)
  have c1 := bnd r1 b1
  have b2 := sub2 c1 ha (Nat.le_refl _)
  obtain ⟨f2, r2⟩ := mi_fin (pl_wd a b) wa f1 fa (lim3 hB (by omega) b2)
  have c2 := bnd r2 b2
  have b3 := sub2 hb c2 (Nat.le_refl _)
  obtain ⟨f3, r3⟩ := mi_fin wb (mi_wd (plW a b) a) fb f2 (lim3 hB (by omega) b3)
  have c3 := bnd r3 b3
  exact ⟨f1, f3, r1, c1, c3, fun hc => quick_gen (fv_F a) (fv_F b) hc r1 r2 r3⟩
theorem max_le {a b c d : Nat} (p : GoodW a b) (q : GoodW c d) : ∃ B : Nat, 1267650600228229401496703205376 * B ≤ QQ ∧ (fvW a).natAbs ≤ 1 * B ∧ (fvW b).natAbs ≤ 1 * B ∧ (fvW c).natAbs ≤ 1 * B ∧ (fvW d).natAbs ≤ 1 * B := by
  have h1 := p.le
  have h2 := q.le
  have h3 := p.lo
  have h4 := q.lo
  rcases Nat.le_total (fvW a).natAbs (fvW c).natAbs with h | h
  · exact ⟨(fvW c).natAbs, h2, by omega, by omega, by omega, by omega⟩
  · exact ⟨(fvW a).natAbs, h1, by omega, by omega, by omega, by omega⟩
/-- P5.7 of Add. -/
theorem add_words {a b c d : Nat} (p : GoodW a b) (q : GoodW c d) : ∃ V, Two (addP a b c d) V ∧ 20282409603651670423947251286016 * (V - (fvW a + fvW b + (fvW c + fvW d))).natAbs ≤ (fvW a + fvW b + (fvW c + fvW d)).natAbs := by
  obtain ⟨B, hB, la, lb, lc, ld⟩ := max_le p q
  have T1 := sum_two p.wa q.wa p.fa q.fa (by omega) (by omega)
  have T2 := sum_two p.wb q.wb p.fb q.fb (by omega) (by omega)
  have rs : IsRn (fvW a + fvW c) (fvW (sumP a c).1) := (pl_fin p.wa q.wa p.fa q.fa (lim3 (m := 2) hB (by decide) (add2 la lc (by decide)))).2
  have rt : IsRn (fvW b + fvW d) (fvW (sumP b d).1) := (pl_fin p.wb q.wb p.fb q.fb (lim3 (m := 2) hB (by decide) (add2 lb ld (by decide)))).2
  have cs : (fvW (sumP a c).1).natAbs ≤ 4 * B := bnd (m := 2) rs (add2 la lc (by decide))
  have ct : (fvW (sumP b d).1).natAbs ≤ 4 * B := bnd (m := 2) rt (add2 lb ld (by decide))
  have es := T1.val
  have et := T2.val
  have cs2 : (fvW (sumP a c).2).natAbs ≤ 6 * B := by omega
  have ct2 : (fvW (sumP b d).2).natAbs ≤ 6 * B := by omega
  -- c
  have b1 := add2 (k := 10) cs2 ct (by decide)
  obtain ⟨f1, r1⟩ := pl_fin T1.w2 T2.w1 T1.f2 T2.f1 (lim3 hB (by decide) b1)
  have c1 : (fvW (plW (sumP a c).2 (sumP b d).1)).natAbs ≤ 20 * B := bnd (m := 10) r1 b1
  -- v
  obtain ⟨g1, g2, g3, g4, g5, g6⟩ := quick_words T1.w1 (pl_wd (sumP a c).2 (sumP b d).1) T1.f1 f1 hB cs c1 (by decide) (by decide)
  -- w
  have b2 := add2 (k := 1000) ct2 g5 (by decide)
  obtain ⟨f2, r2⟩ := pl_fin (x := (sumP b d).2) (y := (quickP (sumP a c).1 (plW (sumP a c).2 (sumP b d).1)).2) T2.w2 (mi_wd _ _) T2.f2 g2 (lim3 hB (by decide) b2)
  have c2 : (fvW (addY a b c d)).natAbs ≤ 2000 * B := bnd (m := 1000) r2 b2
  obtain ⟨h1, h2, h3, h4, h5, h6⟩ := quick_words (a := (quickP (sumP a c).1 (plW (sumP a c).2 (sumP b d).1)).1) (b := addY a b c d) (pl_wd _ _) (pl_wd _ _) g1 f2 hB g4 c2 (by decide) (by decide)
  refine ⟨fvW (addP a b c d).1 + fvW (addP a b c d).2, ⟨pl_wd _ _, mi_wd _ _, h1, h2, rfl⟩, ?_⟩
  exact add_near ⟨rs, es, rt, et, fv_F _, r1, g3, g6, fv_F _, r2, h6⟩ p.good q.good

theorem prod_up {a b c d : Nat} (p : GoodW a b) (q : GoodW c d) : 1048576 * ((fvW a).natAbs * (fvW c).natAbs) ≤ QQ * UU := by
  obtain ⟨e, he⟩ : ∃ e : Nat, e = 1474 := ⟨_, rfl⟩
  have h1 := Nat.mul_le_mul (p.up e he) (q.up e he)
  have h2 := Nat.mul_le_mul_left (2 ^ 20) h1
  rw [← Nat.pow_add, ← Nat.pow_add] at h2
  have h3 : 2 ^ (20 + (e + e)) ≤ 2 ^ (EQ + EU) := Nat.pow_le_pow_right (by decide) (by have : EQ = 2096 := rfl; have : EU = 1074 := rfl; omega)
  rw [Nat.pow_add 2 EQ, ← Q_eq, ← U_eq] at h3
  have h4 : (2 : Nat) ^ 20 = 1048576 := rfl
  rw [h4] at h2
  omega
theorem rq_bnd {V s : Int} {m : Nat} (h : IsRq V s) (hV : V.natAbs ≤ m * UU) : s.natAbs ≤ 2 * m := by
  have n := h.near 0 IsF.zero
  rw [Int.zero_mul] at n
  have h1 : (s * (UU : Int)).natAbs ≤ 2 * m * UU := by
    have e : 2 * m * UU = 2 * (m * UU) := Nat.mul_assoc _ _ _
    omega
  rw [Int.natAbs_mul, Int.natAbs_natCast] at h1
  exact Nat.le_of_mul_le_mul_right h1 U_pos
/-- P5.7 of Mul. -/
theorem mul_words {a b c d : Nat} (p : GoodW a b) (q : GoodW c d) : ∃ V, Two (mulP a b c d) V ∧ 10141204801825835211973625643008 * (V * (UU : Int) - (fvW a + fvW b) * (fvW c + fvW d)).natAbs ≤ ((fvW a + fvW b) * (fvW c + fvW d)).natAbs := by
  have hU := U_pos
  have up := prod_up p q
  have pl := p.le
  have ql := q.le
  have plo := p.lo
  have qlo := q.lo
  have low : fvW a ≠ 0 → fvW c ≠ 0 → ∀ k : Nat, k ≤ 1348 → 2 ^ k ≤ (fvW a * fvW c).natAbs := by
    intro h1 h2 k hk
    obtain ⟨e, he⟩ : ∃ e : Nat, e = 674 := ⟨_, rfl⟩
    have := Nat.mul_le_mul (p.dn h1 e he) (q.dn h2 e he)
    rw [← Nat.pow_add] at this
    rw [Int.natAbs_mul]
    exact Nat.le_trans (Nat.pow_le_pow_right (by decide) (by omega)) this
  obtain ⟨e, he⟩ : ∃ e : Nat, e = 1179 := ⟨_, rfl⟩
  have am : (fvW a * fvW c).natAbs = (fvW a).natAbs * (fvW c).natAbs := Int.natAbs_mul _ _
  obtain ⟨P, eP, T⟩ := prod_two p.wa q.wa p.fa q.fa (by omega) (by omega) he (by
    by_cases h1 : fvW a = 0
    · left; rw [h1]; simp
    · by_cases h2 : fvW c = 0
      · left; rw [h2]; simp
      · right; exact low h1 h2 e (by omega)) (by rw [am]; omega)
  -- in units of the product
  have PU : (fvW a).natAbs * (fvW c).natAbs = P.natAbs * UU := by rw [← am, eP, Int.natAbs_mul, Int.natAbs_natCast]
  have hP : 1048576 * P.natAbs ≤ QQ := by
    rw [PU, ← Nat.mul_assoc] at up
    exact Nat.le_of_mul_le_mul_right up hU
  obtain ⟨Q', hQ'⟩ : ∃ Q' : Nat, P.natAbs = Q' := ⟨_, rfl⟩
  have c3 : ∀ {V : Int} {m : Nat}, m ≤ 1048576 → V.natAbs ≤ m * Q' → V.natAbs ≤ 3 * QQ := by
    intro V m hm hV
    have := Nat.mul_le_mul_right Q' hm
    rw [hQ'] at hP
    omega
  have rc : IsRn P (fvW (prodP a c).1) := (ti_fin p.wa q.wa p.fa q.fa eP (c3 (m := 1) (by decide) (by omega))).2
  have ec := T.val
  have n0 : (fvW (prodP a c).1 - P).natAbs ≤ P.natAbs := by have := rc.near 0 IsF.zero; simpa using this
  have l1 : (fvW (prodP a c).1).natAbs ≤ 2 * Q' := by omega
  have l2 : (fvW (prodP a c).2).natAbs ≤ 1 * Q' := by omega
  -- the cross products
  have v1 : (fvW a * fvW d).natAbs ≤ Q' * UU := by
    rw [Int.natAbs_mul, ← hQ', ← PU]; exact Nat.mul_le_mul_left _ qlo
  have v2 : (fvW b * fvW c).natAbs ≤ Q' * UU := by
    rw [Int.natAbs_mul, ← hQ', ← PU]; exact Nat.mul_le_mul_right _ plo
  have w3 : Q' * UU ≤ 3 * QQ * UU := Nat.mul_le_mul_right _ (by omega)
  obtain ⟨f1, r1⟩ := ti_rq p.wa q.wb p.fa q.fb (Nat.le_trans v1 w3)
  obtain ⟨f2, r2⟩ := ti_rq p.wb q.wa p.fb q.fa (Nat.le_trans v2 w3)
  have l3 := rq_bnd r1 v1
  have l4 := rq_bnd r2 v2
  have b1 := add2 (k := 4) l3 l4 (by decide)
  obtain ⟨f3, r3⟩ := pl_fin (ti_wd a d) (ti_wd b c) f1 f2 (c3 (by decide) b1)
  have l5 : (fvW (plW (tiW a d) (tiW b c))).natAbs ≤ 8 * Q' := bnd (m := 4) r3 b1
  have b2 := add2 (k := 9) l2 l5 (by decide)
  obtain ⟨f4, r4⟩ := pl_fin T.w2 (pl_wd (tiW a d) (tiW b c)) T.f2 f3 (c3 (by decide) b2)
  have l6 : (fvW (plW (prodP a c).2 (plW (tiW a d) (tiW b c)))).natAbs ≤ 18 * Q' := bnd (m := 9) r4 b2
  -- the last one
  have b3 := add2 (k := 20) l1 l6 (by decide)
  obtain ⟨f5, r5⟩ := pl_fin T.w1 (pl_wd (prodP a c).2 (plW (tiW a d) (tiW b c))) T.f1 f4 (c3 (by decide) b3)
  have l7 : (fvW (plW (prodP a c).1 (plW (prodP a c).2 (plW (tiW a d) (tiW b c))))).natAbs ≤ 40 * Q' := bnd (m := 20) r5 b3
  have b4 := sub2 (k := 42) l7 l1 (by decide)
  obtain ⟨f6, r6⟩ := mi_fin (pl_wd (prodP a c).1 (plW (prodP a c).2 (plW (tiW a d) (tiW b c)))) T.w1 f5 T.f1 (c3 (by decide) b4)
  have l8 : (fvW (miW (plW (prodP a c).1 (plW (prodP a c).2 (plW (tiW a d) (tiW b c)))) (prodP a c).1)).natAbs ≤ 84 * Q' := bnd (m := 42) r6 b4
  have b5 := sub2 (k := 102) l6 l8 (by decide)
  obtain ⟨f7, r7⟩ := mi_fin (pl_wd (prodP a c).2 (plW (tiW a d) (tiW b c))) (mi_wd (plW (prodP a c).1 (plW (prodP a c).2 (plW (tiW a d) (tiW b c)))) (prodP a c).1) f4 f6 (c3 (by decide) b5)
  refine ⟨fvW (mulP a b c d).1 + fvW (mulP a b c d).2, ⟨pl_wd _ _, mi_wd _ _, f5, f7, rfl⟩, ?_⟩
  exact mul_near ⟨eP, rc, ec, r1, r2, r3, r4, fun hh => quick_gen (fv_F _) (fv_F _) (.inl hh) r5 r6 r7⟩ p.good q.good (fun h1 h2 => low h1 h2 _ (by have : EU = 1074 := rfl; omega))
end Go.Proofs.Ythilnddhehbjiab

/- The law's small functions: size, finite, within. -/
namespace Go.Proofs.Ythilnddhehbjiab
open Go.RowKit J
set_option linter.unusedVariables false
set_option maxRecDepth 20000
set_option linter.unusedSimpArgs false
attribute [local go_sem] st_float

theorem size_law (n : Bool) (a : Option Addr) (l c : Nat) (e : Int) (w : World) : Calls Try.prog 50 #[.agg #[.bool n, .slice a l c, .int .i64 e]] w fun r w' => r = .returned (.agg #[.bool false, .slice a l c, .int .i64 e]) ∧ Below w.heap.size w w' := by
  go_enter Try.func50, Try.ntmps50
  go_wp2
  exact bodyPost_ret (v := .agg #[.bool false, .slice a l c, .int .i64 e]) (by simp [results, Try.results50, go_sem]) rfl ⟨rfl, (by repeat (first | exact Below.refl _ _ | assumption | exact Nat.le_refl _ | (simp only [World.size_alloc, World.size_setCell]; omega) | omega | refine Below.alloc ?_ ?_ _ | refine Below.setCell ?_ ?_ _ | refine Below.drew ?_))⟩
set_option maxHeartbeats 4000000 in
theorem finite_core (x : Nat) (nX : Bool) (X : Nat) (eX er : Int) (w : World) (lX : (ws X).length ≤ 8192)
    (HX : Hid (∀ u, Calls Try.prog 46 #[.float .f64 x] u fun r w' => (∃ v, r = .returned (.tuple #[.agg #[.bool nX, v, .int .i64 eX], .int .i64 er]) ∧ Nt u.heap.size w' v X) ∧ Below u.heap.size u w')) :
    Calls Try.prog 29 #[.float .f64 x] w fun r w' => (∃ v, r = .returned (.tuple #[.agg #[.bool nX, v, .int .i64 eX], .bool (er == 0)]) ∧ Nt w.heap.size w' v X) ∧ Below w.heap.size w w' := by
  go_enter Try.func29, Try.ntmps29
  go_wp2_with fail
  refine (Calls.mono (HX.out _)) ?_
  rintro r w1 ⟨⟨v1, rfl, N1⟩, hb1⟩
  obtain ⟨aX, cX, rfl, AX⟩ := N1.arg (by omega)
  have NN := Aside.intro (show Nt (w.heap.size + 1) w1 (.slice aX (ws X).length cX) X from N1.mono (by simp))
  clear N1
  clear HX
  have hy1 : w.heap.size ≤ w1.heap.size := by
    have := hb1.size
    try simp only [World.size_alloc, World.size_setCell] at this
    omega
  have hz1_0 : w.heap.size < w1.heap.size := by
    have := hb1.size
    try simp only [World.size_alloc, World.size_setCell] at this
    omega
  have B1 := Aside.intro (Below.trans (B := w.heap.size) (a := w) (by repeat (first | exact Below.refl _ _ | assumption | exact Nat.le_refl _ | (simp only [World.size_alloc, World.size_setCell]; omega) | omega | refine Below.alloc ?_ ?_ _ | refine Below.setCell ?_ ?_ _ | refine Below.drew ?_)) (hb1.mono (by first | omega | (simp only [World.size_alloc, World.size_setCell]; omega))))
  have S1 := B1
  obtain ⟨hc1, hf1⟩ := bcell hb1
  clear hb1 B1
  have c1_0_0 : w1.cell? ⟨w.heap.size, 0, none⟩ = some (.bool false) := by
    rw [hc1 _ _ (by first | omega | (simp only [World.size_alloc, World.size_setCell]; omega))]
    first | assumption | (simp [go_sem]; done)
  have f1_0_0 : w1.frozen? ⟨w.heap.size, 0, none⟩ = false := by
    rw [hf1 _ _ (by first | omega | (simp only [World.size_alloc, World.size_setCell]; omega))]
    first | assumption | (simp [go_sem]; done)
  have c1_0_1 : w1.cell? ⟨w.heap.size, 1, none⟩ = some (.slice none 0 0) := by
    rw [hc1 _ _ (by first | omega | (simp only [World.size_alloc, World.size_setCell]; omega))]
    first | assumption | (simp [go_sem]; done)
  have f1_0_1 : w1.frozen? ⟨w.heap.size, 1, none⟩ = false := by
    rw [hf1 _ _ (by first | omega | (simp only [World.size_alloc, World.size_setCell]; omega))]
    first | assumption | (simp [go_sem]; done)
  have c1_0_2 : w1.cell? ⟨w.heap.size, 2, none⟩ = some (.int .i64 0) := by
    rw [hc1 _ _ (by first | omega | (simp only [World.size_alloc, World.size_setCell]; omega))]
    first | assumption | (simp [go_sem]; done)
  have f1_0_2 : w1.frozen? ⟨w.heap.size, 2, none⟩ = false := by
    rw [hf1 _ _ (by first | omega | (simp only [World.size_alloc, World.size_setCell]; omega))]
    first | assumption | (simp [go_sem]; done)
  clear hc1 hf1 
  have ne0 : w.heap.size ≠ w1.heap.size := by omega
  have ne1 : w1.heap.size ≠ w.heap.size := by omega
  go_wp2
  have SS := S1.out
  have HF : Fin w.heap.size (w.heap.size + 1) w w1 (.slice aX (ws X).length cX) X := ⟨NN.out, SS, by omega⟩
  exact bodyPost_ret (v := .tuple #[.agg #[.bool nX, .slice aX (ws X).length cX, .int .i64 eX], .bool (er == 0)]) (by simp [results, Try.results29, go_sem, c1_0_0, f1_0_0, c1_0_1, f1_0_1, c1_0_2, f1_0_2, hz1_0, ne0, ne1]) rfl (Fin.dans (m := w.heap.size + 1) (by repeat (first | exact HF | refine Fin.alloc ?_ _ | refine Fin.set ?_ _ _ _ (by omega) (by omega))) (by omega))
end Go.Proofs.Ythilnddhehbjiab

/- The law's within, worth, just. -/
namespace Go.Proofs.Ythilnddhehbjiab
open Go.RowKit J
set_option linter.unusedVariables false
set_option maxRecDepth 20000
set_option linter.unusedSimpArgs false
attribute [local go_sem] st_float

set_option maxHeartbeats 4000000 in
theorem within_core (nX : Bool) (aX : Option Addr) (XX cX : Nat) (eX m cv : Int) (w : World) (AX : Arg w aX (ws XX).length cX (ws XX)) (lX : (ws XX).length ≤ 8192)
    (HC : Hid (∀ u a b c d, Arg u a (ws XX).length c (ws XX) → Arg u b 1 d [1] → Calls Try.prog 49 #[.agg #[.bool false, .slice a (ws XX).length c, .int .i64 eX], .agg #[.bool false, .slice b 1 d, .int .i64 m]] u fun r w' => r = .returned (.int .i64 cv) ∧ Below u.heap.size u w')) :
    Calls Try.prog 47 #[.agg #[.bool nX, .slice aX (ws XX).length cX, .int .i64 eX], .int .i64 m] w fun r w' => r = .returned (.bool (decide (cv ≤ 0))) ∧ Below w.heap.size w w' := by
  go_enter Try.func47, Try.ntmps47
  go_wp2_with fail
  refine (Calls.mono (size_law _ _ _ _ _ _)) ?_
  rintro r w1 ⟨rfl, hb1⟩
  have hy1 : w.heap.size ≤ w1.heap.size := by
    have := hb1.size
    try simp only [World.size_alloc, World.size_setCell] at this
    omega
  have hz1_0 : w.heap.size < w1.heap.size := by
    have := hb1.size
    try simp only [World.size_alloc, World.size_setCell] at this
    omega
  have B1 := Aside.intro (Below.trans (B := w.heap.size) (a := w) (by repeat (first | exact Below.refl _ _ | assumption | exact Nat.le_refl _ | (simp only [World.size_alloc, World.size_setCell]; omega) | omega | refine Below.alloc ?_ ?_ _ | refine Below.setCell ?_ ?_ _ | refine Below.drew ?_)) (hb1.mono (by first | omega | (simp only [World.size_alloc, World.size_setCell]; omega))))
  have S1 := B1
  replace AX := AX.below B1.out
  obtain ⟨hc1, hf1⟩ := bcell hb1
  clear hb1 B1
  have c1_0_0 : w1.cell? ⟨w.heap.size, 0, none⟩ = some (.bool nX) := by
    rw [hc1 _ _ (by first | omega | (simp only [World.size_alloc, World.size_setCell]; omega))]
    first | assumption | (simp [go_sem]; done)
  have f1_0_0 : w1.frozen? ⟨w.heap.size, 0, none⟩ = false := by
    rw [hf1 _ _ (by first | omega | (simp only [World.size_alloc, World.size_setCell]; omega))]
    first | assumption | (simp [go_sem]; done)
  have c1_0_1 : w1.cell? ⟨w.heap.size, 1, none⟩ = some (.slice aX (ws XX).length cX) := by
    rw [hc1 _ _ (by first | omega | (simp only [World.size_alloc, World.size_setCell]; omega))]
    first | assumption | (simp [go_sem]; done)
  have f1_0_1 : w1.frozen? ⟨w.heap.size, 1, none⟩ = false := by
    rw [hf1 _ _ (by first | omega | (simp only [World.size_alloc, World.size_setCell]; omega))]
    first | assumption | (simp [go_sem]; done)
  have c1_0_2 : w1.cell? ⟨w.heap.size, 2, none⟩ = some (.int .i64 eX) := by
    rw [hc1 _ _ (by first | omega | (simp only [World.size_alloc, World.size_setCell]; omega))]
    first | assumption | (simp [go_sem]; done)
  have f1_0_2 : w1.frozen? ⟨w.heap.size, 2, none⟩ = false := by
    rw [hf1 _ _ (by first | omega | (simp only [World.size_alloc, World.size_setCell]; omega))]
    first | assumption | (simp [go_sem]; done)
  clear hc1 hf1 
  go_wp2_with fail
  refine (Calls.mono (HC.out _ _ _ _ _ (AX.below (by repeat (first | exact Below.refl _ _ | assumption | exact Nat.le_refl _ | (simp only [World.size_alloc, World.size_setCell]; omega) | omega | refine Below.alloc ?_ ?_ _ | refine Below.setCell ?_ ?_ _ | refine Below.drew ?_))) (lit_arg w1 1 (by omega)))) ?_
  rintro r w2 ⟨rfl, hb2⟩
  clear HC
  have hy2 : w1.heap.size ≤ w2.heap.size := by
    have := hb2.size
    try simp only [World.size_alloc, World.size_setCell] at this
    omega
  have hz2_0 : w.heap.size < w2.heap.size := by
    have := hb2.size
    try simp only [World.size_alloc, World.size_setCell] at this
    omega
  have B2 := Aside.intro (Below.trans (B := w1.heap.size) (a := w1) (by repeat (first | exact Below.refl _ _ | assumption | exact Nat.le_refl _ | (simp only [World.size_alloc, World.size_setCell]; omega) | omega | refine Below.alloc ?_ ?_ _ | refine Below.setCell ?_ ?_ _ | refine Below.drew ?_)) (hb2.mono (by first | omega | (simp only [World.size_alloc, World.size_setCell]; omega))))
  have S2 := Aside.intro (S1.out.trans (B2.out.mono S1.out.size))
  clear S1
  replace AX := AX.below B2.out
  obtain ⟨hc2, hf2⟩ := bcell hb2
  clear hb2 B2
  have c2_0_0 : w2.cell? ⟨w.heap.size, 0, none⟩ = some (.bool nX) := by
    rw [hc2 _ _ (by first | omega | (simp only [World.size_alloc, World.size_setCell]; omega))]
    first | assumption | (simp [go_sem, c1_0_0, f1_0_0, c1_0_1, f1_0_1, c1_0_2, f1_0_2, hz1_0]; done)
  have f2_0_0 : w2.frozen? ⟨w.heap.size, 0, none⟩ = false := by
    rw [hf2 _ _ (by first | omega | (simp only [World.size_alloc, World.size_setCell]; omega))]
    first | assumption | (simp [go_sem, c1_0_0, f1_0_0, c1_0_1, f1_0_1, c1_0_2, f1_0_2, hz1_0]; done)
  have c2_0_1 : w2.cell? ⟨w.heap.size, 1, none⟩ = some (.slice aX (ws XX).length cX) := by
    rw [hc2 _ _ (by first | omega | (simp only [World.size_alloc, World.size_setCell]; omega))]
    first | assumption | (simp [go_sem, c1_0_0, f1_0_0, c1_0_1, f1_0_1, c1_0_2, f1_0_2, hz1_0]; done)
  have f2_0_1 : w2.frozen? ⟨w.heap.size, 1, none⟩ = false := by
    rw [hf2 _ _ (by first | omega | (simp only [World.size_alloc, World.size_setCell]; omega))]
    first | assumption | (simp [go_sem, c1_0_0, f1_0_0, c1_0_1, f1_0_1, c1_0_2, f1_0_2, hz1_0]; done)
  have c2_0_2 : w2.cell? ⟨w.heap.size, 2, none⟩ = some (.int .i64 eX) := by
    rw [hc2 _ _ (by first | omega | (simp only [World.size_alloc, World.size_setCell]; omega))]
    first | assumption | (simp [go_sem, c1_0_0, f1_0_0, c1_0_1, f1_0_1, c1_0_2, f1_0_2, hz1_0]; done)
  have f2_0_2 : w2.frozen? ⟨w.heap.size, 2, none⟩ = false := by
    rw [hf2 _ _ (by first | omega | (simp only [World.size_alloc, World.size_setCell]; omega))]
    first | assumption | (simp [go_sem, c1_0_0, f1_0_0, c1_0_1, f1_0_1, c1_0_2, f1_0_2, hz1_0]; done)
  clear hc2 hf2 c1_0_0 f1_0_0 c1_0_1 f1_0_1 c1_0_2 f1_0_2
  go_wp2
  have SS := S2.out
  exact bodyPost_ret (v := .bool (decide (cv ≤ 0))) (by simp [results, Try.results47, go_sem, c2_0_0, f2_0_0, c2_0_1, f2_0_1, c2_0_2, f2_0_2, hz2_0]) rfl ⟨rfl, (by repeat (first | exact Below.refl _ _ | assumption | exact Nat.le_refl _ | (simp only [World.size_alloc, World.size_setCell]; omega) | omega | refine Below.alloc ?_ ?_ _ | refine Below.setCell ?_ ?_ _ | refine Below.drew ?_))⟩
set_option maxHeartbeats 4000000 in
theorem worth_core (ph pl : Nat) (nP nQ nS : Bool) (XP XQ XS : Nat) (eP eQ eS : Int) (w : World) (lP : (ws XP).length ≤ 8192) (lQ : (ws XQ).length ≤ 8192) (lS : (ws XS).length ≤ 8192)
    (HP : Hid (∀ u, Calls Try.prog 29 #[.float .f64 ph] u fun r w' => (∃ v, r = .returned (.tuple #[.agg #[.bool nP, v, .int .i64 eP], .bool true]) ∧ Nt u.heap.size w' v XP) ∧ Below u.heap.size u w'))
    (HQ : Hid (∀ u, Calls Try.prog 29 #[.float .f64 pl] u fun r w' => (∃ v, r = .returned (.tuple #[.agg #[.bool nQ, v, .int .i64 eQ], .bool true]) ∧ Nt u.heap.size w' v XQ) ∧ Below u.heap.size u w'))
    (HA : Hid (∀ u a b c d, Arg u a (ws XP).length c (ws XP) → Arg u b (ws XQ).length d (ws XQ) → Calls Try.prog 35 #[.agg #[.bool nP, .slice a (ws XP).length c, .int .i64 eP], .agg #[.bool nQ, .slice b (ws XQ).length d, .int .i64 eQ]] u fun r w' => (∃ v, r = .returned (.tuple #[.agg #[.bool nS, v, .int .i64 eS], .int .i64 0]) ∧ Nt u.heap.size w' v XS) ∧ Below u.heap.size u w')) :
    Calls Try.prog 34 #[.agg #[.float .f64 ph, .float .f64 pl]] w fun r w' => (∃ v, r = .returned (.tuple #[.agg #[.bool nS, v, .int .i64 eS], .bool true]) ∧ Nt w.heap.size w' v XS) ∧ Below w.heap.size w w' := by
  go_enter Try.func34, Try.ntmps34
  go_wp2_with fail
  refine (Calls.mono (HP.out _)) ?_
  rintro r w1 ⟨⟨v1, rfl, N1⟩, hb1⟩
  obtain ⟨aP, cP, rfl, AP⟩ := N1.arg (by omega)
  clear N1
  clear HP
  have hy1 : w.heap.size ≤ w1.heap.size := by
    have := hb1.size
    try simp only [World.size_alloc, World.size_setCell] at this
    omega
  have hz1_0 : w.heap.size < w1.heap.size := by
    have := hb1.size
    try simp only [World.size_alloc, World.size_setCell] at this
    omega
  have hz1_1 : w.heap.size + 1 < w1.heap.size := by
    have := hb1.size
    try simp only [World.size_alloc, World.size_setCell] at this
    omega
  have B1 := Aside.intro (Below.trans (B := w.heap.size) (a := w) (by repeat (first | exact Below.refl _ _ | assumption | exact Nat.le_refl _ | (simp only [World.size_alloc, World.size_setCell]; omega) | omega | refine Below.alloc ?_ ?_ _ | refine Below.setCell ?_ ?_ _ | refine Below.drew ?_)) (hb1.mono (by first | omega | (simp only [World.size_alloc, World.size_setCell]; omega))))
  have S1 := B1
  obtain ⟨hc1, hf1⟩ := bcell hb1
  clear hb1 B1
  have c1_0_0 : w1.cell? ⟨w.heap.size, 0, none⟩ = some (.float .f64 ph) := by
    rw [hc1 _ _ (by first | omega | (simp only [World.size_alloc, World.size_setCell]; omega))]
    first | assumption | (simp [go_sem]; done)
  have f1_0_0 : w1.frozen? ⟨w.heap.size, 0, none⟩ = false := by
    rw [hf1 _ _ (by first | omega | (simp only [World.size_alloc, World.size_setCell]; omega))]
    first | assumption | (simp [go_sem]; done)
  have c1_0_1 : w1.cell? ⟨w.heap.size, 1, none⟩ = some (.float .f64 pl) := by
    rw [hc1 _ _ (by first | omega | (simp only [World.size_alloc, World.size_setCell]; omega))]
    first | assumption | (simp [go_sem]; done)
  have f1_0_1 : w1.frozen? ⟨w.heap.size, 1, none⟩ = false := by
    rw [hf1 _ _ (by first | omega | (simp only [World.size_alloc, World.size_setCell]; omega))]
    first | assumption | (simp [go_sem]; done)
  have c1_1_0 : w1.cell? ⟨w.heap.size + 1, 0, none⟩ = some (.bool false) := by
    rw [hc1 _ _ (by first | omega | (simp only [World.size_alloc, World.size_setCell]; omega))]
    first | assumption | (simp [go_sem]; done)
  have f1_1_0 : w1.frozen? ⟨w.heap.size + 1, 0, none⟩ = false := by
    rw [hf1 _ _ (by first | omega | (simp only [World.size_alloc, World.size_setCell]; omega))]
    first | assumption | (simp [go_sem]; done)
  have c1_1_1 : w1.cell? ⟨w.heap.size + 1, 1, none⟩ = some (.slice none 0 0) := by
    rw [hc1 _ _ (by first | omega | (simp only [World.size_alloc, World.size_setCell]; omega))]
    first | assumption | (simp [go_sem]; done)
  have f1_1_1 : w1.frozen? ⟨w.heap.size + 1, 1, none⟩ = false := by
    rw [hf1 _ _ (by first | omega | (simp only [World.size_alloc, World.size_setCell]; omega))]
    first | assumption | (simp [go_sem]; done)
  have c1_1_2 : w1.cell? ⟨w.heap.size + 1, 2, none⟩ = some (.int .i64 0) := by
    rw [hc1 _ _ (by first | omega | (simp only [World.size_alloc, World.size_setCell]; omega))]
    first | assumption | (simp [go_sem]; done)
  have f1_1_2 : w1.frozen? ⟨w.heap.size + 1, 2, none⟩ = false := by
    rw [hf1 _ _ (by first | omega | (simp only [World.size_alloc, World.size_setCell]; omega))]
    first | assumption | (simp [go_sem]; done)
  clear hc1 hf1 
  have ne0 : w.heap.size ≠ w1.heap.size := by omega
  have ne1 : w.heap.size + 1 ≠ w1.heap.size := by omega
  have ne2 : w1.heap.size ≠ w.heap.size := by omega
  have ne3 : w1.heap.size ≠ w.heap.size + 1 := by omega
  go_wp2_with fail
  refine (Calls.mono (HQ.out _)) ?_
  rintro r w2 ⟨⟨v2, rfl, N2⟩, hb2⟩
  obtain ⟨aQ, cQ, rfl, AQ⟩ := N2.arg (by omega)
  clear N2
  clear HQ
  have hy2 : w1.heap.size ≤ w2.heap.size := by
    have := hb2.size
    try simp only [World.size_alloc, World.size_setCell] at this
    omega
  have hz2_0 : w.heap.size < w2.heap.size := by
    have := hb2.size
    try simp only [World.size_alloc, World.size_setCell] at this
    omega
  have hz2_1 : w.heap.size + 1 < w2.heap.size := by
    have := hb2.size
    try simp only [World.size_alloc, World.size_setCell] at this
    omega
  have hz2_2 : w1.heap.size < w2.heap.size := by
    have := hb2.size
    try simp only [World.size_alloc, World.size_setCell] at this
    omega
  have B2 := Aside.intro (Below.trans (B := w1.heap.size) (a := w1) (by repeat (first | exact Below.refl _ _ | assumption | exact Nat.le_refl _ | (simp only [World.size_alloc, World.size_setCell]; omega) | omega | refine Below.alloc ?_ ?_ _ | refine Below.setCell ?_ ?_ _ | refine Below.drew ?_)) (hb2.mono (by first | omega | (simp only [World.size_alloc, World.size_setCell]; omega))))
  have S2 := Aside.intro (S1.out.trans (B2.out.mono S1.out.size))
  clear S1
  replace AP := AP.below B2.out
  obtain ⟨hc2, hf2⟩ := bcell hb2
  clear hb2 B2
  have c2_0_0 : w2.cell? ⟨w.heap.size, 0, none⟩ = some (.float .f64 ph) := by
    rw [hc2 _ _ (by first | omega | (simp only [World.size_alloc, World.size_setCell]; omega))]
    first | assumption | (simp [go_sem, c1_0_0, f1_0_0, c1_0_1, f1_0_1, c1_1_0, f1_1_0, c1_1_1, f1_1_1, c1_1_2, f1_1_2, hz1_0, hz1_1, ne0, ne1, ne2, ne3]; done)
  have f2_0_0 : w2.frozen? ⟨w.heap.size, 0, none⟩ = false := by
    rw [hf2 _ _ (by first | omega | (simp only [World.size_alloc, World.size_setCell]; omega))]
    first | assumption | (simp [go_sem, c1_0_0, f1_0_0, c1_0_1, f1_0_1, c1_1_0, f1_1_0, c1_1_1, f1_1_1, c1_1_2, f1_1_2, hz1_0, hz1_1, ne0, ne1, ne2, ne3]; done)
  have c2_0_1 : w2.cell? ⟨w.heap.size, 1, none⟩ = some (.float .f64 pl) := by
    rw [hc2 _ _ (by first | omega | (simp only [World.size_alloc, World.size_setCell]; omega))]
    first | assumption | (simp [go_sem, c1_0_0, f1_0_0, c1_0_1, f1_0_1, c1_1_0, f1_1_0, c1_1_1, f1_1_1, c1_1_2, f1_1_2, hz1_0, hz1_1, ne0, ne1, ne2, ne3]; done)
  have f2_0_1 : w2.frozen? ⟨w.heap.size, 1, none⟩ = false := by
    rw [hf2 _ _ (by first | omega | (simp only [World.size_alloc, World.size_setCell]; omega))]
    first | assumption | (simp [go_sem, c1_0_0, f1_0_0, c1_0_1, f1_0_1, c1_1_0, f1_1_0, c1_1_1, f1_1_1, c1_1_2, f1_1_2, hz1_0, hz1_1, ne0, ne1, ne2, ne3]; done)
  have c2_1_0 : w2.cell? ⟨w.heap.size + 1, 0, none⟩ = some (.bool false) := by
    rw [hc2 _ _ (by first | omega | (simp only [World.size_alloc, World.size_setCell]; omega))]
    first | assumption | (simp [go_sem, c1_0_0, f1_0_0, c1_0_1, f1_0_1, c1_1_0, f1_1_0, c1_1_1, f1_1_1, c1_1_2, f1_1_2, hz1_0, hz1_1, ne0, ne1, ne2, ne3]; done)
  have f2_1_0 : w2.frozen? ⟨w.heap.size + 1, 0, none⟩ = false := by
    rw [hf2 _ _ (by first | omega | (simp only [World.size_alloc, World.size_setCell]; omega))]
    first | assumption | (simp [go_sem, c1_0_0, f1_0_0, c1_0_1, f1_0_1, c1_1_0, f1_1_0, c1_1_1, f1_1_1, c1_1_2, f1_1_2, hz1_0, hz1_1, ne0, ne1, ne2, ne3]; done)
  have c2_1_1 : w2.cell? ⟨w.heap.size + 1, 1, none⟩ = some (.slice none 0 0) := by
    rw [hc2 _ _ (by first | omega | (simp only [World.size_alloc, World.size_setCell]; omega))]
    first | assumption | (simp [go_sem, c1_0_0, f1_0_0, c1_0_1, f1_0_1, c1_1_0, f1_1_0, c1_1_1, f1_1_1, c1_1_2, f1_1_2, hz1_0, hz1_1, ne0, ne1, ne2, ne3]; done)
  have f2_1_1 : w2.frozen? ⟨w.heap.size + 1, 1, none⟩ = false := by
    rw [hf2 _ _ (by first | omega | (simp only [World.size_alloc, World.size_setCell]; omega))]
    first | assumption | (simp [go_sem, c1_0_0, f1_0_0, c1_0_1, f1_0_1, c1_1_0, f1_1_0, c1_1_1, f1_1_1, c1_1_2, f1_1_2, hz1_0, hz1_1, ne0, ne1, ne2, ne3]; done)
  have c2_1_2 : w2.cell? ⟨w.heap.size + 1, 2, none⟩ = some (.int .i64 0) := by
    rw [hc2 _ _ (by first | omega | (simp only [World.size_alloc, World.size_setCell]; omega))]
    first | assumption | (simp [go_sem, c1_0_0, f1_0_0, c1_0_1, f1_0_1, c1_1_0, f1_1_0, c1_1_1, f1_1_1, c1_1_2, f1_1_2, hz1_0, hz1_1, ne0, ne1, ne2, ne3]; done)
  have f2_1_2 : w2.frozen? ⟨w.heap.size + 1, 2, none⟩ = false := by
    rw [hf2 _ _ (by first | omega | (simp only [World.size_alloc, World.size_setCell]; omega))]
    first | assumption | (simp [go_sem, c1_0_0, f1_0_0, c1_0_1, f1_0_1, c1_1_0, f1_1_0, c1_1_1, f1_1_1, c1_1_2, f1_1_2, hz1_0, hz1_1, ne0, ne1, ne2, ne3]; done)
  have c2_2_0 : w2.cell? ⟨w1.heap.size, 0, none⟩ = some (.bool nP) := by
    rw [hc2 _ _ (by first | omega | (simp only [World.size_alloc, World.size_setCell]; omega))]
    first | assumption | (simp [go_sem, c1_0_0, f1_0_0, c1_0_1, f1_0_1, c1_1_0, f1_1_0, c1_1_1, f1_1_1, c1_1_2, f1_1_2, hz1_0, hz1_1, ne0, ne1, ne2, ne3]; done)
  have f2_2_0 : w2.frozen? ⟨w1.heap.size, 0, none⟩ = false := by
    rw [hf2 _ _ (by first | omega | (simp only [World.size_alloc, World.size_setCell]; omega))]
    first | assumption | (simp [go_sem, c1_0_0, f1_0_0, c1_0_1, f1_0_1, c1_1_0, f1_1_0, c1_1_1, f1_1_1, c1_1_2, f1_1_2, hz1_0, hz1_1, ne0, ne1, ne2, ne3]; done)
  have c2_2_1 : w2.cell? ⟨w1.heap.size, 1, none⟩ = some (.slice aP (ws XP).length cP) := by
    rw [hc2 _ _ (by first | omega | (simp only [World.size_alloc, World.size_setCell]; omega))]
    first | assumption | (simp [go_sem, c1_0_0, f1_0_0, c1_0_1, f1_0_1, c1_1_0, f1_1_0, c1_1_1, f1_1_1, c1_1_2, f1_1_2, hz1_0, hz1_1, ne0, ne1, ne2, ne3]; done)
  have f2_2_1 : w2.frozen? ⟨w1.heap.size, 1, none⟩ = false := by
    rw [hf2 _ _ (by first | omega | (simp only [World.size_alloc, World.size_setCell]; omega))]
    first | assumption | (simp [go_sem, c1_0_0, f1_0_0, c1_0_1, f1_0_1, c1_1_0, f1_1_0, c1_1_1, f1_1_1, c1_1_2, f1_1_2, hz1_0, hz1_1, ne0, ne1, ne2, ne3]; done)
  have c2_2_2 : w2.cell? ⟨w1.heap.size, 2, none⟩ = some (.int .i64 eP) := by
    rw [hc2 _ _ (by first | omega | (simp only [World.size_alloc, World.size_setCell]; omega))]
    first | assumption | (simp [go_sem, c1_0_0, f1_0_0, c1_0_1, f1_0_1, c1_1_0, f1_1_0, c1_1_1, f1_1_1, c1_1_2, f1_1_2, hz1_0, hz1_1, ne0, ne1, ne2, ne3]; done)
  have f2_2_2 : w2.frozen? ⟨w1.heap.size, 2, none⟩ = false := by
    rw [hf2 _ _ (by first | omega | (simp only [World.size_alloc, World.size_setCell]; omega))]
    first | assumption | (simp [go_sem, c1_0_0, f1_0_0, c1_0_1, f1_0_1, c1_1_0, f1_1_0, c1_1_1, f1_1_1, c1_1_2, f1_1_2, hz1_0, hz1_1, ne0, ne1, ne2, ne3]; done)
  clear hc2 hf2 c1_0_0 f1_0_0 c1_0_1 f1_0_1 c1_1_0 f1_1_0 c1_1_1 f1_1_1 c1_1_2 f1_1_2
  have ne4 : w.heap.size ≠ w2.heap.size := by omega
  have ne5 : w.heap.size + 1 ≠ w2.heap.size := by omega
  have ne6 : w1.heap.size ≠ w2.heap.size := by omega
  go_wp2_with fail
  refine (Calls.mono (HA.out _ _ _ _ _ (AP.below (by repeat (first | exact Below.refl _ _ | assumption | exact Nat.le_refl _ | (simp only [World.size_alloc, World.size_setCell]; omega) | omega | refine Below.alloc ?_ ?_ _ | refine Below.setCell ?_ ?_ _ | refine Below.drew ?_))) (AQ.below (by repeat (first | exact Below.refl _ _ | assumption | exact Nat.le_refl _ | (simp only [World.size_alloc, World.size_setCell]; omega) | omega | refine Below.alloc ?_ ?_ _ | refine Below.setCell ?_ ?_ _ | refine Below.drew ?_))))) ?_
  rintro r w3 ⟨⟨v3, rfl, N3⟩, hb3⟩
  obtain ⟨aS, cS, rfl, AS⟩ := N3.arg (by omega)
  have NN := Aside.intro (show Nt (w.heap.size + 2) w3 (.slice aS (ws XS).length cS) XS from N3.mono (by simp only [World.size_alloc, World.size_setCell]; omega))
  clear N3
  clear HA
  have hy3 : w2.heap.size ≤ w3.heap.size := by
    have := hb3.size
    try simp only [World.size_alloc, World.size_setCell] at this
    omega
  have hz3_0 : w.heap.size < w3.heap.size := by
    have := hb3.size
    try simp only [World.size_alloc, World.size_setCell] at this
    omega
  have hz3_1 : w.heap.size + 1 < w3.heap.size := by
    have := hb3.size
    try simp only [World.size_alloc, World.size_setCell] at this
    omega
  have hz3_2 : w1.heap.size < w3.heap.size := by
    have := hb3.size
    try simp only [World.size_alloc, World.size_setCell] at this
    omega
  have hz3_3 : w2.heap.size < w3.heap.size := by
    have := hb3.size
    try simp only [World.size_alloc, World.size_setCell] at this
    omega
  have B3 := Aside.intro (Below.trans (B := w2.heap.size) (a := w2) (by repeat (first | exact Below.refl _ _ | assumption | exact Nat.le_refl _ | (simp only [World.size_alloc, World.size_setCell]; omega) | omega | refine Below.alloc ?_ ?_ _ | refine Below.setCell ?_ ?_ _ | refine Below.drew ?_)) (hb3.mono (by first | omega | (simp only [World.size_alloc, World.size_setCell]; omega))))
  have S3 := Aside.intro (S2.out.trans (B3.out.mono S2.out.size))
  clear S2
  replace AP := AP.below B3.out
  replace AQ := AQ.below B3.out
  obtain ⟨hc3, hf3⟩ := bcell hb3
  clear hb3 B3
  have c3_0_0 : w3.cell? ⟨w.heap.size, 0, none⟩ = some (.float .f64 ph) := by
    rw [hc3 _ _ (by first | omega | (simp only [World.size_alloc, World.size_setCell]; omega))]
    first | assumption | (simp [go_sem, c2_0_0, f2_0_0, c2_0_1, f2_0_1, c2_1_0, f2_1_0, c2_1_1, f2_1_1, c2_1_2, f2_1_2, c2_2_0, f2_2_0, c2_2_1, f2_2_1, c2_2_2, f2_2_2, hz2_0, hz2_1, hz2_2, ne0, ne1, ne2, ne3, ne4, ne5, ne6]; done)
  have f3_0_0 : w3.frozen? ⟨w.heap.size, 0, none⟩ = false := by
    rw [hf3 _ _ (by first | omega | (simp only [World.size_alloc, World.size_setCell]; omega))]
    first | assumption | (simp [go_sem, c2_0_0, f2_0_0, c2_0_1, f2_0_1, c2_1_0, f2_1_0, c2_1_1, f2_1_1, c2_1_2, f2_1_2, c2_2_0, f2_2_0, c2_2_1, f2_2_1, c2_2_2, f2_2_2, hz2_0, hz2_1, hz2_2, ne0, ne1, ne2, ne3, ne4, ne5, ne6]; done)
  have c3_0_1 : w3.cell? ⟨w.heap.size, 1, none⟩ = some (.float .f64 pl) := by
    rw [hc3 _ _ (by first | omega | (simp only [World.size_alloc, World.size_setCell]; omega))]
    first | assumption | (simp [go_sem, c2_0_0, f2_0_0, c2_0_1, f2_0_1, c2_1_0, f2_1_0, c2_1_1, f2_1_1, c2_1_2, f2_1_2, c2_2_0, f2_2_0, c2_2_1, f2_2_1, c2_2_2, f2_2_2, hz2_0, hz2_1, hz2_2, ne0, ne1, ne2, ne3, ne4, ne5, ne6]; done)
  have f3_0_1 : w3.frozen? ⟨w.heap.size, 1, none⟩ = false := by
    rw [hf3 _ _ (by first | omega | (simp only [World.size_alloc, World.size_setCell]; omega))]
    first | assumption | (simp [go_sem, c2_0_0, f2_0_0, c2_0_1, f2_0_1, c2_1_0, f2_1_0, c2_1_1, f2_1_1, c2_1_2, f2_1_2, c2_2_0, f2_2_0, c2_2_1, f2_2_1, c2_2_2, f2_2_2, hz2_0, hz2_1, hz2_2, ne0, ne1, ne2, ne3, ne4, ne5, ne6]; done)
  have c3_1_0 : w3.cell? ⟨w.heap.size + 1, 0, none⟩ = some (.bool false) := by
    rw [hc3 _ _ (by first | omega | (simp only [World.size_alloc, World.size_setCell]; omega))]
    first | assumption | (simp [go_sem, c2_0_0, f2_0_0, c2_0_1, f2_0_1, c2_1_0, f2_1_0, c2_1_1, f2_1_1, c2_1_2, f2_1_2, c2_2_0, f2_2_0, c2_2_1, f2_2_1, c2_2_2, f2_2_2, hz2_0, hz2_1, hz2_2, ne0, ne1, ne2, ne3, ne4, ne5, ne6]; done)
  have f3_1_0 : w3.frozen? ⟨w.heap.size + 1, 0, none⟩ = false := by
    rw [hf3 _ _ (by first | omega | (simp only [World.size_alloc, World.size_setCell]; omega))]
    first | assumption | (simp [go_sem, c2_0_0, f2_0_0, c2_0_1, f2_0_1, c2_1_0, f2_1_0, c2_1_1, f2_1_1, c2_1_2, f2_1_2, c2_2_0, f2_2_0, c2_2_1, f2_2_1, c2_2_2, f2_2_2, hz2_0, hz2_1, hz2_2, ne0, ne1, ne2, ne3, ne4, ne5, ne6]; done)
  have c3_1_1 : w3.cell? ⟨w.heap.size + 1, 1, none⟩ = some (.slice none 0 0) := by
    rw [hc3 _ _ (by first | omega | (simp only [World.size_alloc, World.size_setCell]; omega))]
    first | assumption | (simp [go_sem, c2_0_0, f2_0_0, c2_0_1, f2_0_1, c2_1_0, f2_1_0, c2_1_1, f2_1_1, c2_1_2, f2_1_2, c2_2_0, f2_2_0, c2_2_1, f2_2_1, c2_2_2, f2_2_2, hz2_0, hz2_1, hz2_2, ne0, ne1, ne2, ne3, ne4, ne5, ne6]; done)
  have f3_1_1 : w3.frozen? ⟨w.heap.size + 1, 1, none⟩ = false := by
    rw [hf3 _ _ (by first | omega | (simp only [World.size_alloc, World.size_setCell]; omega))]
    first | assumption | (simp [go_sem, c2_0_0, f2_0_0, c2_0_1, f2_0_1, c2_1_0, f2_1_0, c2_1_1, f2_1_1, c2_1_2, f2_1_2, c2_2_0, f2_2_0, c2_2_1, f2_2_1, c2_2_2, f2_2_2, hz2_0, hz2_1, hz2_2, ne0, ne1, ne2, ne3, ne4, ne5, ne6]; done)
  have c3_1_2 : w3.cell? ⟨w.heap.size + 1, 2, none⟩ = some (.int .i64 0) := by
    rw [hc3 _ _ (by first | omega | (simp only [World.size_alloc, World.size_setCell]; omega))]
    first | assumption | (simp [go_sem, c2_0_0, f2_0_0, c2_0_1, f2_0_1, c2_1_0, f2_1_0, c2_1_1, f2_1_1, c2_1_2, f2_1_2, c2_2_0, f2_2_0, c2_2_1, f2_2_1, c2_2_2, f2_2_2, hz2_0, hz2_1, hz2_2, ne0, ne1, ne2, ne3, ne4, ne5, ne6]; done)
  have f3_1_2 : w3.frozen? ⟨w.heap.size + 1, 2, none⟩ = false := by
    rw [hf3 _ _ (by first | omega | (simp only [World.size_alloc, World.size_setCell]; omega))]
    first | assumption | (simp [go_sem, c2_0_0, f2_0_0, c2_0_1, f2_0_1, c2_1_0, f2_1_0, c2_1_1, f2_1_1, c2_1_2, f2_1_2, c2_2_0, f2_2_0, c2_2_1, f2_2_1, c2_2_2, f2_2_2, hz2_0, hz2_1, hz2_2, ne0, ne1, ne2, ne3, ne4, ne5, ne6]; done)
  have c3_2_0 : w3.cell? ⟨w1.heap.size, 0, none⟩ = some (.bool nP) := by
    rw [hc3 _ _ (by first | omega | (simp only [World.size_alloc, World.size_setCell]; omega))]
    first | assumption | (simp [go_sem, c2_0_0, f2_0_0, c2_0_1, f2_0_1, c2_1_0, f2_1_0, c2_1_1, f2_1_1, c2_1_2, f2_1_2, c2_2_0, f2_2_0, c2_2_1, f2_2_1, c2_2_2, f2_2_2, hz2_0, hz2_1, hz2_2, ne0, ne1, ne2, ne3, ne4, ne5, ne6]; done)
  have f3_2_0 : w3.frozen? ⟨w1.heap.size, 0, none⟩ = false := by
    rw [hf3 _ _ (by first | omega | (simp only [World.size_alloc, World.size_setCell]; omega))]
    first | assumption | (simp [go_sem, c2_0_0, f2_0_0, c2_0_1, f2_0_1, c2_1_0, f2_1_0, c2_1_1, f2_1_1, c2_1_2, f2_1_2, c2_2_0, f2_2_0, c2_2_1, f2_2_1, c2_2_2, f2_2_2, hz2_0, hz2_1, hz2_2, ne0, ne1, ne2, ne3, ne4, ne5, ne6]; done)
  have c3_2_1 : w3.cell? ⟨w1.heap.size, 1, none⟩ = some (.slice aP (ws XP).length cP) := by
    rw [hc3 _ _ (by first | omega | (simp only [World.size_alloc, World.size_setCell]; omega))]
    first | assumption | (simp [go_sem, c2_0_0, f2_0_0, c2_0_1, f2_0_1, c2_1_0, f2_1_0, c2_1_1, f2_1_1, c2_1_2, f2_1_2, c2_2_0, f2_2_0, c2_2_1, f2_2_1, c2_2_2, f2_2_2, hz2_0, hz2_1, hz2_2, ne0, ne1, ne2, ne3, ne4, ne5, ne6]; done)
  have f3_2_1 : w3.frozen? ⟨w1.heap.size, 1, none⟩ = false := by
    rw [hf3 _ _ (by first | omega | (simp only [World.size_alloc, World.size_setCell]; omega))]
    first | assumption | (simp [go_sem, c2_0_0, f2_0_0, c2_0_1, f2_0_1, c2_1_0, f2_1_0, c2_1_1, f2_1_1, c2_1_2, f2_1_2, c2_2_0, f2_2_0, c2_2_1, f2_2_1, c2_2_2, f2_2_2, hz2_0, hz2_1, hz2_2, ne0, ne1, ne2, ne3, ne4, ne5, ne6]; done)
  have c3_2_2 : w3.cell? ⟨w1.heap.size, 2, none⟩ = some (.int .i64 eP) := by
    rw [hc3 _ _ (by first | omega | (simp only [World.size_alloc, World.size_setCell]; omega))]
    first | assumption | (simp [go_sem, c2_0_0, f2_0_0, c2_0_1, f2_0_1, c2_1_0, f2_1_0, c2_1_1, f2_1_1, c2_1_2, f2_1_2, c2_2_0, f2_2_0, c2_2_1, f2_2_1, c2_2_2, f2_2_2, hz2_0, hz2_1, hz2_2, ne0, ne1, ne2, ne3, ne4, ne5, ne6]; done)
  have f3_2_2 : w3.frozen? ⟨w1.heap.size, 2, none⟩ = false := by
    rw [hf3 _ _ (by first | omega | (simp only [World.size_alloc, World.size_setCell]; omega))]
    first | assumption | (simp [go_sem, c2_0_0, f2_0_0, c2_0_1, f2_0_1, c2_1_0, f2_1_0, c2_1_1, f2_1_1, c2_1_2, f2_1_2, c2_2_0, f2_2_0, c2_2_1, f2_2_1, c2_2_2, f2_2_2, hz2_0, hz2_1, hz2_2, ne0, ne1, ne2, ne3, ne4, ne5, ne6]; done)
  have c3_3_0 : w3.cell? ⟨w2.heap.size, 0, none⟩ = some (.bool nQ) := by
    rw [hc3 _ _ (by first | omega | (simp only [World.size_alloc, World.size_setCell]; omega))]
    first | assumption | (simp [go_sem, c2_0_0, f2_0_0, c2_0_1, f2_0_1, c2_1_0, f2_1_0, c2_1_1, f2_1_1, c2_1_2, f2_1_2, c2_2_0, f2_2_0, c2_2_1, f2_2_1, c2_2_2, f2_2_2, hz2_0, hz2_1, hz2_2, ne0, ne1, ne2, ne3, ne4, ne5, ne6]; done)
  have f3_3_0 : w3.frozen? ⟨w2.heap.size, 0, none⟩ = false := by
    rw [hf3 _ _ (by first | omega | (simp only [World.size_alloc, World.size_setCell]; omega))]
    first | assumption | (simp [go_sem, c2_0_0, f2_0_0, c2_0_1, f2_0_1, c2_1_0, f2_1_0, c2_1_1, f2_1_1, c2_1_2, f2_1_2, c2_2_0, f2_2_0, c2_2_1, f2_2_1, c2_2_2, f2_2_2, hz2_0, hz2_1, hz2_2, ne0, ne1, ne2, ne3, ne4, ne5, ne6]; done)
  have c3_3_1 : w3.cell? ⟨w2.heap.size, 1, none⟩ = some (.slice aQ (ws XQ).length cQ) := by
    rw [hc3 _ _ (by first | omega | (simp only [World.size_alloc, World.size_setCell]; omega))]
    first | assumption | (simp [go_sem, c2_0_0, f2_0_0, c2_0_1, f2_0_1, c2_1_0, f2_1_0, c2_1_1, f2_1_1, c2_1_2, f2_1_2, c2_2_0, f2_2_0, c2_2_1, f2_2_1, c2_2_2, f2_2_2, hz2_0, hz2_1, hz2_2, ne0, ne1, ne2, ne3, ne4, ne5, ne6]; done)
  have f3_3_1 : w3.frozen? ⟨w2.heap.size, 1, none⟩ = false := by
    rw [hf3 _ _ (by first | omega | (simp only [World.size_alloc, World.size_setCell]; omega))]
    first | assumption | (simp [go_sem, c2_0_0, f2_0_0, c2_0_1, f2_0_1, c2_1_0, f2_1_0, c2_1_1, f2_1_1, c2_1_2, f2_1_2, c2_2_0, f2_2_0, c2_2_1, f2_2_1, c2_2_2, f2_2_2, hz2_0, hz2_1, hz2_2, ne0, ne1, ne2, ne3, ne4, ne5, ne6]; done)
  have c3_3_2 : w3.cell? ⟨w2.heap.size, 2, none⟩ = some (.int .i64 eQ) := by
    rw [hc3 _ _ (by first | omega | (simp only [World.size_alloc, World.size_setCell]; omega))]
    first | assumption | (simp [go_sem, c2_0_0, f2_0_0, c2_0_1, f2_0_1, c2_1_0, f2_1_0, c2_1_1, f2_1_1, c2_1_2, f2_1_2, c2_2_0, f2_2_0, c2_2_1, f2_2_1, c2_2_2, f2_2_2, hz2_0, hz2_1, hz2_2, ne0, ne1, ne2, ne3, ne4, ne5, ne6]; done)
  have f3_3_2 : w3.frozen? ⟨w2.heap.size, 2, none⟩ = false := by
    rw [hf3 _ _ (by first | omega | (simp only [World.size_alloc, World.size_setCell]; omega))]
    first | assumption | (simp [go_sem, c2_0_0, f2_0_0, c2_0_1, f2_0_1, c2_1_0, f2_1_0, c2_1_1, f2_1_1, c2_1_2, f2_1_2, c2_2_0, f2_2_0, c2_2_1, f2_2_1, c2_2_2, f2_2_2, hz2_0, hz2_1, hz2_2, ne0, ne1, ne2, ne3, ne4, ne5, ne6]; done)
  clear hc3 hf3 c2_0_0 f2_0_0 c2_0_1 f2_0_1 c2_1_0 f2_1_0 c2_1_1 f2_1_1 c2_1_2 f2_1_2 c2_2_0 f2_2_0 c2_2_1 f2_2_1 c2_2_2 f2_2_2
  have ne7 : w.heap.size ≠ w3.heap.size := by omega
  have ne8 : w.heap.size + 1 ≠ w3.heap.size := by omega
  have ne9 : w3.heap.size ≠ w.heap.size := by omega
  have ne10 : w3.heap.size ≠ w.heap.size + 1 := by omega
  go_wp2
  have SS := S3.out
  have HF : Fin w.heap.size (w.heap.size + 2) w w3 (.slice aS (ws XS).length cS) XS := ⟨NN.out, SS, by omega⟩
  exact bodyPost_ret (v := .tuple #[.agg #[.bool nS, .slice aS (ws XS).length cS, .int .i64 eS], .bool true]) (by simp [results, Try.results34, go_sem, c3_0_0, f3_0_0, c3_0_1, f3_0_1, c3_1_0, f3_1_0, c3_1_1, f3_1_1, c3_1_2, f3_1_2, c3_2_0, f3_2_0, c3_2_1, f3_2_1, c3_2_2, f3_2_2, c3_3_0, f3_3_0, c3_3_1, f3_3_1, c3_3_2, f3_3_2, hz3_0, hz3_1, hz3_2, hz3_3, ne0, ne1, ne2, ne3, ne4, ne5, ne6, ne7, ne8, ne9, ne10]) rfl (Fin.dans (m := w.heap.size + 2) (by repeat (first | exact HF | refine Fin.alloc ?_ _ | refine Fin.set ?_ _ _ _ (by omega) (by omega))) (by omega))
set_option maxHeartbeats 4000000 in
theorem just_core (ph pl : Nat) (nS nX : Bool) (aX : Option Addr) (XS XX cX : Nat) (eS eX : Int) (w : World) (AX : Arg w aX (ws XX).length cX (ws XX)) (lX : (ws XX).length ≤ 8192) (lS : (ws XS).length ≤ 8192)
    (HW : Hid (∀ u, Calls Try.prog 34 #[.agg #[.float .f64 ph, .float .f64 pl]] u fun r w' => (∃ v, r = .returned (.tuple #[.agg #[.bool nS, v, .int .i64 eS], .bool true]) ∧ Nt u.heap.size w' v XS) ∧ Below u.heap.size u w'))
    (HC : Hid (∀ u a b c d, Arg u a (ws XS).length c (ws XS) → Arg u b (ws XX).length d (ws XX) → Calls Try.prog 49 #[.agg #[.bool nS, .slice a (ws XS).length c, .int .i64 eS], .agg #[.bool nX, .slice b (ws XX).length d, .int .i64 eX]] u fun r w' => r = .returned (.int .i64 0) ∧ Below u.heap.size u w')) :
    Calls Try.prog 48 #[.agg #[.float .f64 ph, .float .f64 pl], .agg #[.bool nX, .slice aX (ws XX).length cX, .int .i64 eX]] w fun r w' => r = .returned (.bool true) ∧ Below w.heap.size w w' := by
  go_enter Try.func48, Try.ntmps48
  go_wp2_with fail
  refine (Calls.mono (HW.out _)) ?_
  rintro r w1 ⟨⟨v1, rfl, N1⟩, hb1⟩
  obtain ⟨aS, cS, rfl, AS⟩ := N1.arg (by omega)
  clear N1
  clear HW
  have hy1 : w.heap.size ≤ w1.heap.size := by
    have := hb1.size
    try simp only [World.size_alloc, World.size_setCell] at this
    omega
  have hz1_0 : w.heap.size < w1.heap.size := by
    have := hb1.size
    try simp only [World.size_alloc, World.size_setCell] at this
    omega
  have hz1_1 : w.heap.size + 1 < w1.heap.size := by
    have := hb1.size
    try simp only [World.size_alloc, World.size_setCell] at this
    omega
  have B1 := Aside.intro (Below.trans (B := w.heap.size) (a := w) (by repeat (first | exact Below.refl _ _ | assumption | exact Nat.le_refl _ | (simp only [World.size_alloc, World.size_setCell]; omega) | omega | refine Below.alloc ?_ ?_ _ | refine Below.setCell ?_ ?_ _ | refine Below.drew ?_)) (hb1.mono (by first | omega | (simp only [World.size_alloc, World.size_setCell]; omega))))
  have S1 := B1
  replace AX := AX.below B1.out
  obtain ⟨hc1, hf1⟩ := bcell hb1
  clear hb1 B1
  have c1_0_0 : w1.cell? ⟨w.heap.size, 0, none⟩ = some (.float .f64 ph) := by
    rw [hc1 _ _ (by first | omega | (simp only [World.size_alloc, World.size_setCell]; omega))]
    first | assumption | (simp [go_sem]; done)
  have f1_0_0 : w1.frozen? ⟨w.heap.size, 0, none⟩ = false := by
    rw [hf1 _ _ (by first | omega | (simp only [World.size_alloc, World.size_setCell]; omega))]
    first | assumption | (simp [go_sem]; done)
  have c1_0_1 : w1.cell? ⟨w.heap.size, 1, none⟩ = some (.float .f64 pl) := by
    rw [hc1 _ _ (by first | omega | (simp only [World.size_alloc, World.size_setCell]; omega))]
    first | assumption | (simp [go_sem]; done)
  have f1_0_1 : w1.frozen? ⟨w.heap.size, 1, none⟩ = false := by
    rw [hf1 _ _ (by first | omega | (simp only [World.size_alloc, World.size_setCell]; omega))]
    first | assumption | (simp [go_sem]; done)
  have c1_1_0 : w1.cell? ⟨w.heap.size + 1, 0, none⟩ = some (.bool nX) := by
    rw [hc1 _ _ (by first | omega | (simp only [World.size_alloc, World.size_setCell]; omega))]
    first | assumption | (simp [go_sem]; done)
  have f1_1_0 : w1.frozen? ⟨w.heap.size + 1, 0, none⟩ = false := by
    rw [hf1 _ _ (by first | omega | (simp only [World.size_alloc, World.size_setCell]; omega))]
    first | assumption | (simp [go_sem]; done)
  have c1_1_1 : w1.cell? ⟨w.heap.size + 1, 1, none⟩ = some (.slice aX (ws XX).length cX) := by
    rw [hc1 _ _ (by first | omega | (simp only [World.size_alloc, World.size_setCell]; omega))]
    first | assumption | (simp [go_sem]; done)
  have f1_1_1 : w1.frozen? ⟨w.heap.size + 1, 1, none⟩ = false := by
    rw [hf1 _ _ (by first | omega | (simp only [World.size_alloc, World.size_setCell]; omega))]
    first | assumption | (simp [go_sem]; done)
  have c1_1_2 : w1.cell? ⟨w.heap.size + 1, 2, none⟩ = some (.int .i64 eX) := by
    rw [hc1 _ _ (by first | omega | (simp only [World.size_alloc, World.size_setCell]; omega))]
    first | assumption | (simp [go_sem]; done)
  have f1_1_2 : w1.frozen? ⟨w.heap.size + 1, 2, none⟩ = false := by
    rw [hf1 _ _ (by first | omega | (simp only [World.size_alloc, World.size_setCell]; omega))]
    first | assumption | (simp [go_sem]; done)
  clear hc1 hf1 
  have ne0 : w.heap.size ≠ w1.heap.size := by omega
  have ne1 : w.heap.size + 1 ≠ w1.heap.size := by omega
  go_wp2_with fail
  refine (Calls.mono (HC.out _ _ _ _ _ (AS.below (by repeat (first | exact Below.refl _ _ | assumption | exact Nat.le_refl _ | (simp only [World.size_alloc, World.size_setCell]; omega) | omega | refine Below.alloc ?_ ?_ _ | refine Below.setCell ?_ ?_ _ | refine Below.drew ?_))) (AX.below (by repeat (first | exact Below.refl _ _ | assumption | exact Nat.le_refl _ | (simp only [World.size_alloc, World.size_setCell]; omega) | omega | refine Below.alloc ?_ ?_ _ | refine Below.setCell ?_ ?_ _ | refine Below.drew ?_))))) ?_
  rintro r w2 ⟨rfl, hb2⟩
  clear HC
  have hy2 : w1.heap.size ≤ w2.heap.size := by
    have := hb2.size
    try simp only [World.size_alloc, World.size_setCell] at this
    omega
  have hz2_0 : w.heap.size < w2.heap.size := by
    have := hb2.size
    try simp only [World.size_alloc, World.size_setCell] at this
    omega
  have hz2_1 : w.heap.size + 1 < w2.heap.size := by
    have := hb2.size
    try simp only [World.size_alloc, World.size_setCell] at this
    omega
  have B2 := Aside.intro (Below.trans (B := w1.heap.size) (a := w1) (by repeat (first | exact Below.refl _ _ | assumption | exact Nat.le_refl _ | (simp only [World.size_alloc, World.size_setCell]; omega) | omega | refine Below.alloc ?_ ?_ _ | refine Below.setCell ?_ ?_ _ | refine Below.drew ?_)) (hb2.mono (by first | omega | (simp only [World.size_alloc, World.size_setCell]; omega))))
  have S2 := Aside.intro (S1.out.trans (B2.out.mono S1.out.size))
  clear S1
  replace AX := AX.below B2.out
  replace AS := AS.below B2.out
  obtain ⟨hc2, hf2⟩ := bcell hb2
  clear hb2 B2
  have c2_0_0 : w2.cell? ⟨w.heap.size, 0, none⟩ = some (.float .f64 ph) := by
    rw [hc2 _ _ (by first | omega | (simp only [World.size_alloc, World.size_setCell]; omega))]
    first | assumption | (simp [go_sem, c1_0_0, f1_0_0, c1_0_1, f1_0_1, c1_1_0, f1_1_0, c1_1_1, f1_1_1, c1_1_2, f1_1_2, hz1_0, hz1_1, ne0, ne1]; done)
  have f2_0_0 : w2.frozen? ⟨w.heap.size, 0, none⟩ = false := by
    rw [hf2 _ _ (by first | omega | (simp only [World.size_alloc, World.size_setCell]; omega))]
    first | assumption | (simp [go_sem, c1_0_0, f1_0_0, c1_0_1, f1_0_1, c1_1_0, f1_1_0, c1_1_1, f1_1_1, c1_1_2, f1_1_2, hz1_0, hz1_1, ne0, ne1]; done)
  have c2_0_1 : w2.cell? ⟨w.heap.size, 1, none⟩ = some (.float .f64 pl) := by
    rw [hc2 _ _ (by first | omega | (simp only [World.size_alloc, World.size_setCell]; omega))]
    first | assumption | (simp [go_sem, c1_0_0, f1_0_0, c1_0_1, f1_0_1, c1_1_0, f1_1_0, c1_1_1, f1_1_1, c1_1_2, f1_1_2, hz1_0, hz1_1, ne0, ne1]; done)
  have f2_0_1 : w2.frozen? ⟨w.heap.size, 1, none⟩ = false := by
    rw [hf2 _ _ (by first | omega | (simp only [World.size_alloc, World.size_setCell]; omega))]
    first | assumption | (simp [go_sem, c1_0_0, f1_0_0, c1_0_1, f1_0_1, c1_1_0, f1_1_0, c1_1_1, f1_1_1, c1_1_2, f1_1_2, hz1_0, hz1_1, ne0, ne1]; done)
  have c2_1_0 : w2.cell? ⟨w.heap.size + 1, 0, none⟩ = some (.bool nX) := by
    rw [hc2 _ _ (by first | omega | (simp only [World.size_alloc, World.size_setCell]; omega))]
    first | assumption | (simp [go_sem, c1_0_0, f1_0_0, c1_0_1, f1_0_1, c1_1_0, f1_1_0, c1_1_1, f1_1_1, c1_1_2, f1_1_2, hz1_0, hz1_1, ne0, ne1]; done)
  have f2_1_0 : w2.frozen? ⟨w.heap.size + 1, 0, none⟩ = false := by
    rw [hf2 _ _ (by first | omega | (simp only [World.size_alloc, World.size_setCell]; omega))]
    first | assumption | (simp [go_sem, c1_0_0, f1_0_0, c1_0_1, f1_0_1, c1_1_0, f1_1_0, c1_1_1, f1_1_1, c1_1_2, f1_1_2, hz1_0, hz1_1, ne0, ne1]; done)
  have c2_1_1 : w2.cell? ⟨w.heap.size + 1, 1, none⟩ = some (.slice aX (ws XX).length cX) := by
    rw [hc2 _ _ (by first | omega | (simp only [World.size_alloc, World.size_setCell]; omega))]
    first | assumption | (simp [go_sem, c1_0_0, f1_0_0, c1_0_1, f1_0_1, c1_1_0, f1_1_0, c1_1_1, f1_1_1, c1_1_2, f1_1_2, hz1_0, hz1_1, ne0, ne1]; done)
  have f2_1_1 : w2.frozen? ⟨w.heap.size + 1, 1, none⟩ = false := by
    rw [hf2 _ _ (by first | omega | (simp only [World.size_alloc, World.size_setCell]; omega))]
    first | assumption | (simp [go_sem, c1_0_0, f1_0_0, c1_0_1, f1_0_1, c1_1_0, f1_1_0, c1_1_1, f1_1_1, c1_1_2, f1_1_2, hz1_0, hz1_1, ne0, ne1]; done)
  have c2_1_2 : w2.cell? ⟨w.heap.size + 1, 2, none⟩ = some (.int .i64 eX) := by
    rw [hc2 _ _ (by first | omega | (simp only [World.size_alloc, World.size_setCell]; omega))]
    first | assumption | (simp [go_sem, c1_0_0, f1_0_0, c1_0_1, f1_0_1, c1_1_0, f1_1_0, c1_1_1, f1_1_1, c1_1_2, f1_1_2, hz1_0, hz1_1, ne0, ne1]; done)
  have f2_1_2 : w2.frozen? ⟨w.heap.size + 1, 2, none⟩ = false := by
    rw [hf2 _ _ (by first | omega | (simp only [World.size_alloc, World.size_setCell]; omega))]
    first | assumption | (simp [go_sem, c1_0_0, f1_0_0, c1_0_1, f1_0_1, c1_1_0, f1_1_0, c1_1_1, f1_1_1, c1_1_2, f1_1_2, hz1_0, hz1_1, ne0, ne1]; done)
  clear hc2 hf2 c1_0_0 f1_0_0 c1_0_1 f1_0_1 c1_1_0 f1_1_0 c1_1_1 f1_1_1 c1_1_2 f1_1_2
  go_wp2
  have SS := S2.out
  exact bodyPost_ret (v := .bool true) (by simp [results, Try.results48, go_sem, c2_0_0, f2_0_0, c2_0_1, f2_0_1, c2_1_0, f2_1_0, c2_1_1, f2_1_1, c2_1_2, f2_1_2, hz2_0, hz2_1, ne0, ne1]) rfl ⟨rfl, (by repeat (first | exact Below.refl _ _ | assumption | exact Nat.le_refl _ | (simp only [World.size_alloc, World.size_setCell]; omega) | omega | refine Below.alloc ?_ ?_ _ | refine Below.setCell ?_ ?_ _ | refine Below.drew ?_))⟩
end Go.Proofs.Ythilnddhehbjiab

/- Numbers' forms against powers of two, and against one another. -/
namespace Go.Proofs.Ythilnddhehbjiab
open Go.RowKit J
set_option linter.unusedVariables false
set_option maxRecDepth 20000
set_option linter.unusedSimpArgs false

/-- A value's size. -/
theorem fo_abs {n : Bool} {X : Nat} {e z L H : Int} (h : Fo (some (n, X, e)) z L H) : X * 2 ^ (e - -2097152).toNat = z.natAbs * SS := by
  obtain ⟨F, hv, _⟩ := h.frm
  unfold zv at hv
  simp only at hv
  have := congrArg Int.natAbs hv
  rw [Int.natAbs_mul, Int.natAbs_mul, Int.natAbs_natCast, Int.natAbs_natCast] at this
  rw [← this]
  unfold sg1; cases n <;> simp
theorem fo_zero {n : Bool} {X : Nat} {e z L H : Int} (h : Fo (some (n, X, e)) z L H) : X = 0 ↔ z = 0 := by
  have a := fo_abs h
  have hS := S_pos
  constructor
  · intro hX
    rw [hX, Nat.zero_mul] at a
    rcases Nat.mul_eq_zero.1 a.symm with q | q <;> omega
  · intro hz
    rw [hz, Int.natAbs_zero, Nat.zero_mul] at a
    rcases Nat.mul_eq_zero.1 a with q | q
    · exact q
    · have := Nat.two_pow_pos (e - -2097152).toNat; omega
theorem cmpZ_scale (x y : Int) (k : Nat) (hk : 0 < k) : cmpZ (x * (k : Int)) (y * (k : Int)) = cmpZ x y := by
  have hlt : ∀ a b : Int, a * (k : Int) < b * (k : Int) ↔ a < b := fun a b => ⟨fun h => Int.lt_of_mul_lt_mul_right h (by omega), fun h => Int.mul_lt_mul_of_pos_right h (by omega)⟩
  unfold cmpZ
  simp only [hlt]
/-- Two forms. -/
theorem cmp_fo {n m : Bool} {X Y : Nat} {e f x y L H L' H' : Int} (h1 : Fo (some (n, X, e)) x L H) (h2 : Fo (some (m, Y, f)) y L' H') : cmpV n X e m Y f = cmpZ x y := by
  obtain ⟨F, hv, _⟩ := h1.frm
  obtain ⟨G, hw, _⟩ := h2.frm
  have d1 := F.down
  have d2 := G.down
  rw [cmpV_z n X e m Y f (-2097152) (by omega) (by omega)]
  have a1 : sg1 n * ((X * 2 ^ (e - -2097152).toNat : Nat) : Int) = x * (SS : Int) := hv
  have a2 : sg1 m * ((Y * 2 ^ (f - -2097152).toNat : Nat) : Int) = y * (SS : Int) := hw
  rw [a1, a2, cmpZ_scale x y SS S_pos]
/-- Two sizes. -/
theorem cmp_size {n m : Bool} {X Y : Nat} {e f x y L H L' H' : Int} (h1 : Fo (some (n, X, e)) x L H) (h2 : Fo (some (m, Y, f)) y L' H') : cmpV false X e false Y f = cmpZ (x.natAbs : Int) (y.natAbs : Int) := by
  have d1 := h1.frm.1.down
  have d2 := h2.frm.1.down
  rw [cmpV_z false X e false Y f (-2097152) (by omega) (by omega), fo_abs h1, fo_abs h2]
  unfold sg1
  simp only [Bool.false_eq_true, if_false, Int.one_mul, Int.natCast_mul]
  rw [cmpZ_scale _ _ SS S_pos]
/-- A size and a power of two. -/
theorem cmp_pow {n : Bool} {X : Nat} {e x L H : Int} (h1 : Fo (some (n, X, e)) x L H) (m : Int) (k : Nat) (hk : (k : Int) = m + 2148) (hm : -2148 ≤ m) : cmpV false X e false 1 m = cmpZ (x.natAbs : Int) ((2 ^ k : Nat) : Int) := by
  have d1 := h1.frm.1.down
  rw [cmpV_z false X e false 1 m (-2097152) (by omega) (by omega), fo_abs h1]
  have e1 : 2 ^ (m - -2097152).toNat = 2 ^ k * SS := by
    have a1 : (m - -2097152).toNat = k + ES := by have : ES = 2095004 := rfl; omega
    rw [a1, S_eq, Nat.pow_add]
  rw [Nat.one_mul, e1]
  unfold sg1
  simp only [Bool.false_eq_true, if_false, Int.one_mul]
  rw [Int.natCast_mul, Int.natCast_mul, cmpZ_scale _ _ SS S_pos]

theorem finite_fin {x : Nat} (hx : Wd x) (fx : finW x) {n : Bool} {X : Nat} {e : Int} (h : ofK (negW x) (magW x) = some (n, X, e)) (lX : (ws X).length ≤ 8192) (u : World) :
    Calls Try.prog 29 #[.float .f64 x] u fun r w' => (∃ v, r = .returned (.tuple #[.agg #[.bool n, v, .int .i64 e], .bool true]) ∧ Nt u.heap.size w' v X) ∧ Below u.heap.size u w' := by
  have H := hid fun u => of_wd (negW x) (magW x) fx h u
  rw [← wd_of x hx] at H
  exact finite_core x n X e 0 u lX H
theorem within_fo {n : Bool} {X : Nat} {e z L H : Int} (h : Fo (some (n, X, e)) z L H) (m : Int) (k : Nat) (hk : (k : Int) = m + 2148) (hm : -2148 ≤ m) (hm2 : m ≤ 100000) {b : Bool} (hb : decide (z.natAbs ≤ 2 ^ k) = b) (u : World) (a : Option Addr) (c : Nat) (A : Arg u a (ws X).length c (ws X)) :
    Calls Try.prog 47 #[.agg #[.bool n, .slice a (ws X).length c, .int .i64 e], .int .i64 m] u fun r w' => r = .returned (.bool b) ∧ Below u.heap.size u w' := by
  have l1 := frmLen h.frm.1
  have d1 := h.frm.1.down
  have d2 := h.frm.1.up
  have HC := hid fun u a b c d (A : Arg u a (ws X).length c (ws X)) (C : Arg u b 1 d [1]) => rCmp_any3 A C (by omega) (by omega) false false e m (by omega) (by omega) (by omega) (by omega)
  have hv : val [1] = 1 := rfl
  simp only [val_ws, hv, cmp_pow h m k hk hm] at HC
  have hc : decide (cmpZ (z.natAbs : Int) ((2 ^ k : Nat) : Int) ≤ 0) = b := by
    rw [← hb, decide_eq_decide, cmpZ_le]; omega
  rw [← hc]
  exact within_core n a X c e m _ u A l1 HC
theorem worth_two {p : Nat × Nat} {V : Int} (t : Two p V) : ∃ n X e, Fo (some (n, X, e)) (V * (UU : Int)) (-1074) 1025 ∧ ∀ u, Calls Try.prog 34 #[.agg #[.float .f64 p.1, .float .f64 p.2]] u fun r w' => (∃ v, r = .returned (.tuple #[.agg #[.bool n, v, .int .i64 e], .bool true]) ∧ Nt u.heap.size w' v X) ∧ Below u.heap.size u w' := by
  obtain ⟨n1, X1, e1, o1, F1, _⟩ := of_fo (negW p.1) (magW p.1) t.f1
  obtain ⟨n2, X2, e2, o2, F2, _⟩ := of_fo (negW p.2) (magW p.2) t.f2
  have FA := F1.add F2 (by omega) (by omega) (by omega)
  rw [← Int.add_mul] at FA
  have hv : B.sg (negW p.1) (vK (magW p.1)) + B.sg (negW p.2) (vK (magW p.2)) = V := t.val
  rw [hv] at FA
  obtain ⟨nS, S, eS, hS, _⟩ := FA.ex
  have HA := hid fun u a b c d A C => add_fm F1.frm.1 F2.frm.1 hS rfl u a b c d A C
  rw [hS] at FA
  refine ⟨nS, S, eS, FA, fun u => ?_⟩
  exact worth_core p.1 p.2 n1 n2 nS X1 X2 S e1 e2 eS u (frmLen F1.frm.1) (frmLen F2.frm.1) (frmLen FA.frm.1) (hid fun u => finite_fin t.w1 t.f1 o1 (frmLen F1.frm.1) u) (hid fun u => finite_fin t.w2 t.f2 o2 (frmLen F2.frm.1) u) HA
theorem just_two {p : Nat × Nat} {V : Int} (t : Two p V) {n : Bool} {X : Nat} {e L H : Int} (h : Fo (some (n, X, e)) (V * (UU : Int)) L H) (u : World) (a : Option Addr) (c : Nat) (A : Arg u a (ws X).length c (ws X)) :
    Calls Try.prog 48 #[.agg #[.float .f64 p.1, .float .f64 p.2], .agg #[.bool n, .slice a (ws X).length c, .int .i64 e]] u fun r w' => r = .returned (.bool true) ∧ Below u.heap.size u w' := by
  obtain ⟨nS, S, eS, FS, HW⟩ := worth_two t
  have l1 := frmLen h.frm.1
  have l2 := frmLen FS.frm.1
  have d1 := h.frm.1.down
  have d2 := h.frm.1.up
  have d3 := FS.frm.1.down
  have d4 := FS.frm.1.up
  have HC := hid fun u a b c d (A : Arg u a (ws S).length c (ws S)) (C : Arg u b (ws X).length d (ws X)) => rCmp_any3 A C (by omega) (by omega) nS n eS e (by omega) (by omega) (by omega) (by omega)
  have hz : cmpZ (V * (UU : Int)) (V * (UU : Int)) = 0 := by unfold cmpZ; rw [if_neg (Int.lt_irrefl _), if_neg (Int.lt_irrefl _)]
  simp only [val_ws, cmp_fo FS h, hz] at HC
  exact just_core p.1 p.2 nS n a S X c eS e u A l1 l2 (hid HW) HC
end Go.Proofs.Ythilnddhehbjiab

/- The chapter's examples, call by call. -/
namespace Go.Proofs.Ythilnddhehbjiab
open Go.RowKit J
set_option linter.unusedVariables false
set_option maxRecDepth 20000
set_option linter.unusedSimpArgs false
attribute [local go_sem] B.f64bits B.f64frombits

theorem power_lit (n : Int) (z : Nat) (h0 : -1022 ≤ n) (h1 : n ≤ 1023) (hz : (z : Int) = (n + 1023) * 4503599627370496) (w : World) : Calls Try.prog 15 #[.int .i64 n] w fun r w' => r = .returned (.float .f64 z) ∧ Below w.heap.size w w' := by
  have e1 : decide (n < -1022) = false := by simp; omega
  have e2 : IntKind.i64.wrap (n + 1023) = n + 1023 := by rw [IntKind.wrap_i64]; omega
  have e3 : IntKind.u64.wrap (n + 1023) = n + 1023 := by rw [IntKind.wrap_u64]; omega
  have e4 : IntKind.u64.wrap ((n + 1023) * 4503599627370496) = (z : Int) := by rw [IntKind.wrap_u64, hz]; omega
  have e5 : ((n + 1023) * 4503599627370496).toNat = z := by omega
  go_enter Try.func15, Try.ntmps15
  go_wp2
  exact bodyPost_ret (v := .float .f64 z) (by simp [results, Try.results15, go_sem, e1, e2, e3, e4, e5]) rfl ⟨rfl, Below.refl _ _⟩
theorem q_turn (u : World) : Calls Try.prog 10 #[.float .f64 0] u fun r w' => r = .returned (.float .f64 9223372036854775808) ∧ Below u.heap.size u w' :=
  (rTurned_any 0 (by decide) u).mono fun r w' h => ⟨h.1, by rw [h.2]; exact Below.refl _ _⟩
theorem q_odd (u : World) : Calls Try.prog 9 #[] u fun r w' => r = .returned (.float .f64 9221120237041090560) ∧ Below u.heap.size u w' :=
  (rOdd_any u).mono fun r w' h => ⟨h.1, by rw [h.2]; exact Below.refl _ _⟩
theorem q_value (u : World) : Calls Try.prog 27 #[.agg #[.float .f64 4607182418800017408, .float .f64 4336966441157787648]] u fun r w' => r = .returned (.float .f64 4607182418800017408) ∧ Below u.heap.size u w' := by
  have h := Value_all 4607182418800017408 4336966441157787648 u
  rw [show plW 4607182418800017408 4336966441157787648 = 4607182418800017408 from by kernel_rfl] at h
  exact h
theorem q_same (u : World) : Calls Try.prog 26 #[.float .f64 4607182418800017408, .float .f64 4607182418800017408] u fun r w' => r = .returned (.bool true) ∧ Below u.heap.size u w' :=
  (rSame_w _ _ u).mono fun r w' h => ⟨by rw [h.1]; simp, by rw [h.2]; exact Below.refl _ _⟩
theorem q0 (u : World) : Calls Try.prog 15 #[.int .i64 27] u fun r w' => r = .returned (.float .f64 4728779608739020800) ∧ Below u.heap.size u w' := power_lit 27 4728779608739020800 (by omega) (by omega) (by decide) u
theorem q1 (u : World) : Calls Try.prog 15 #[.int .i64 (-60)] u fun r w' => r = .returned (.float .f64 4336966441157787648) ∧ Below u.heap.size u w' := power_lit (-60) 4336966441157787648 (by omega) (by omega) (by decide) u
theorem q2 (u : World) : Calls Try.prog 12 #[.float .f64 4607182418800017408, .float .f64 4336966441157787648] u fun r w' => r = .returned (.agg #[.float .f64 4607182418800017408, .float .f64 4336966441157787648]) ∧ Below u.heap.size u w' := by
  have h := Sum_all 4607182418800017408 4336966441157787648 u
  rw [show sumP 4607182418800017408 4336966441157787648 = (4607182418800017408, 4336966441157787648) from by kernel_rfl] at h
  exact h
theorem q3 (u : World) : Calls Try.prog 11 #[.agg #[.float .f64 4607182418800017408, .float .f64 4336966441157787648], .float .f64 4607182418800017408, .float .f64 4336966441157787648] u fun r w' => r = .returned (.bool true) ∧ Below u.heap.size u w' := by
  have h := is_any 4607182418800017408 4336966441157787648 4607182418800017408 4336966441157787648 u
  rw [show ((4607182418800017408 : Nat) == 4607182418800017408 && (4336966441157787648 : Nat) == 4336966441157787648) = true from by decide] at h
  exact h
theorem q4 (u : World) : Calls Try.prog 15 #[.int .i64 60] u fun r w' => r = .returned (.float .f64 4877398396442247168) ∧ Below u.heap.size u w' := power_lit 60 4877398396442247168 (by omega) (by omega) (by decide) u
theorem q5 (u : World) : Calls Try.prog 18 #[.float .f64 4607182418800017408, .float .f64 4877398396442247169] u fun r w' => r = .returned (.agg #[.float .f64 4877398396442247169, .float .f64 0]) ∧ Below u.heap.size u w' := by
  have h := Quick_all 4607182418800017408 4877398396442247169 u
  rw [show quickP 4607182418800017408 4877398396442247169 = (4877398396442247169, 0) from by kernel_rfl] at h
  exact h
theorem q6 (u : World) : Calls Try.prog 11 #[.agg #[.float .f64 4877398396442247169, .float .f64 0], .float .f64 4877398396442247169, .float .f64 0] u fun r w' => r = .returned (.bool true) ∧ Below u.heap.size u w' := by
  have h := is_any 4877398396442247169 0 4877398396442247169 0 u
  rw [show ((4877398396442247169 : Nat) == 4877398396442247169 && (0 : Nat) == 0) = true from by decide] at h
  exact h
theorem q7 (u : World) : Calls Try.prog 12 #[.float .f64 9223372036854775808, .float .f64 9223372036854775808] u fun r w' => r = .returned (.agg #[.float .f64 9223372036854775808, .float .f64 0]) ∧ Below u.heap.size u w' := by
  have h := Sum_all 9223372036854775808 9223372036854775808 u
  rw [show sumP 9223372036854775808 9223372036854775808 = (9223372036854775808, 0) from by kernel_rfl] at h
  exact h
theorem q8 (u : World) : Calls Try.prog 11 #[.agg #[.float .f64 9223372036854775808, .float .f64 0], .float .f64 9223372036854775808, .float .f64 0] u fun r w' => r = .returned (.bool true) ∧ Below u.heap.size u w' := by
  have h := is_any 9223372036854775808 0 9223372036854775808 0 u
  rw [show ((9223372036854775808 : Nat) == 9223372036854775808 && (0 : Nat) == 0) = true from by decide] at h
  exact h
theorem q9 (u : World) : Calls Try.prog 12 #[.float .f64 9221120237041090560, .float .f64 4607182418800017408] u fun r w' => r = .returned (.agg #[.float .f64 9221120237041090560, .float .f64 9221120237041090560]) ∧ Below u.heap.size u w' := by
  have h := Sum_all 9221120237041090560 4607182418800017408 u
  rw [show sumP 9221120237041090560 4607182418800017408 = (9221120237041090560, 9221120237041090560) from by kernel_rfl] at h
  exact h
theorem q10 (u : World) : Calls Try.prog 11 #[.agg #[.float .f64 9221120237041090560, .float .f64 9221120237041090560], .float .f64 9221120237041090560, .float .f64 9221120237041090560] u fun r w' => r = .returned (.bool true) ∧ Below u.heap.size u w' := by
  have h := is_any 9221120237041090560 9221120237041090560 9221120237041090560 9221120237041090560 u
  rw [show ((9221120237041090560 : Nat) == 9221120237041090560 && (9221120237041090560 : Nat) == 9221120237041090560) = true from by decide] at h
  exact h
theorem q11 (u : World) : Calls Try.prog 13 #[.float .f64 4728779608772575232] u fun r w' => r = .returned (.agg #[.float .f64 4728779608739020800, .float .f64 4607182418800017408]) ∧ Below u.heap.size u w' := by
  have h := Halves_all 4728779608772575232 u
  rw [show halfP 4728779608772575232 = (4728779608739020800, 4607182418800017408) from by kernel_rfl] at h
  exact h
theorem q12 (u : World) : Calls Try.prog 11 #[.agg #[.float .f64 4728779608739020800, .float .f64 4607182418800017408], .float .f64 4728779608739020800, .float .f64 4607182418800017408] u fun r w' => r = .returned (.bool true) ∧ Below u.heap.size u w' := by
  have h := is_any 4728779608739020800 4607182418800017408 4728779608739020800 4607182418800017408 u
  rw [show ((4728779608739020800 : Nat) == 4728779608739020800 && (4607182418800017408 : Nat) == 4607182418800017408) = true from by decide] at h
  exact h
theorem q13 (u : World) : Calls Try.prog 14 #[.float .f64 4728779608772575232, .float .f64 4728779608772575232] u fun r w' => r = .returned (.agg #[.float .f64 4850376798745133056, .float .f64 4607182418800017408]) ∧ Below u.heap.size u w' := by
  have h := Product_all 4728779608772575232 4728779608772575232 u
  rw [show prodP 4728779608772575232 4728779608772575232 = (4850376798745133056, 4607182418800017408) from by kernel_rfl] at h
  exact h
theorem q14 (u : World) : Calls Try.prog 15 #[.int .i64 54] u fun r w' => r = .returned (.float .f64 4850376798678024192) ∧ Below u.heap.size u w' := power_lit 54 4850376798678024192 (by omega) (by omega) (by decide) u
theorem q15 (u : World) : Calls Try.prog 15 #[.int .i64 28] u fun r w' => r = .returned (.float .f64 4733283208366391296) ∧ Below u.heap.size u w' := power_lit 28 4733283208366391296 (by omega) (by omega) (by decide) u
theorem q16 (u : World) : Calls Try.prog 11 #[.agg #[.float .f64 4850376798745133056, .float .f64 4607182418800017408], .float .f64 4850376798745133056, .float .f64 4607182418800017408] u fun r w' => r = .returned (.bool true) ∧ Below u.heap.size u w' := by
  have h := is_any 4850376798745133056 4607182418800017408 4850376798745133056 4607182418800017408 u
  rw [show ((4850376798745133056 : Nat) == 4850376798745133056 && (4607182418800017408 : Nat) == 4607182418800017408) = true from by decide] at h
  exact h
theorem q17 (u : World) : Calls Try.prog 22 #[.agg #[.float .f64 4607182418800017408, .float .f64 4336966441157787648], .agg #[.float .f64 13830554455654793216, .float .f64 0]] u fun r w' => r = .returned (.agg #[.float .f64 4336966441157787648, .float .f64 0]) ∧ Below u.heap.size u w' := by
  have h := Add_all 4607182418800017408 4336966441157787648 13830554455654793216 0 u
  rw [show addP 4607182418800017408 4336966441157787648 13830554455654793216 0 = (4336966441157787648, 0) from by kernel_rfl] at h
  exact h
theorem q18 (u : World) : Calls Try.prog 11 #[.agg #[.float .f64 4336966441157787648, .float .f64 0], .float .f64 4336966441157787648, .float .f64 0] u fun r w' => r = .returned (.bool true) ∧ Below u.heap.size u w' := by
  have h := is_any 4336966441157787648 0 4336966441157787648 0 u
  rw [show ((4336966441157787648 : Nat) == 4336966441157787648 && (0 : Nat) == 0) = true from by decide] at h
  exact h
theorem q19 (u : World) : Calls Try.prog 15 #[.int .i64 53] u fun r w' => r = .returned (.float .f64 4845873199050653696) ∧ Below u.heap.size u w' := power_lit 53 4845873199050653696 (by omega) (by omega) (by decide) u
theorem q20 (u : World) : Calls Try.prog 24 #[.agg #[.float .f64 4845873199050653696, .float .f64 4607182418800017408], .agg #[.float .f64 4611686018427387904, .float .f64 0]] u fun r w' => r = .returned (.agg #[.float .f64 4850376798678024192, .float .f64 4611686018427387904]) ∧ Below u.heap.size u w' := by
  have h := Mul_all 4845873199050653696 4607182418800017408 4611686018427387904 0 u
  rw [show mulP 4845873199050653696 4607182418800017408 4611686018427387904 0 = (4850376798678024192, 4611686018427387904) from by kernel_rfl] at h
  exact h
theorem q21 (u : World) : Calls Try.prog 11 #[.agg #[.float .f64 4850376798678024192, .float .f64 4611686018427387904], .float .f64 4850376798678024192, .float .f64 4611686018427387904] u fun r w' => r = .returned (.bool true) ∧ Below u.heap.size u w' := by
  have h := is_any 4850376798678024192 4611686018427387904 4850376798678024192 4611686018427387904 u
  rw [show ((4850376798678024192 : Nat) == 4850376798678024192 && (4611686018427387904 : Nat) == 4611686018427387904) = true from by decide] at h
  exact h
theorem q22 (u : World) : Calls Try.prog 12 #[.float .f64 4591870180066957722, .float .f64 4596373779694328218] u fun r w' => r = .returned (.agg #[.float .f64 4599075939470750516, .float .f64 13582856476149415936]) ∧ Below u.heap.size u w' := by
  have h := Sum_all 4591870180066957722 4596373779694328218 u
  rw [show sumP 4591870180066957722 4596373779694328218 = (4599075939470750516, 13582856476149415936) from by kernel_rfl] at h
  exact h
theorem q23 (u : World) : Calls Try.prog 11 #[.agg #[.float .f64 4599075939470750516, .float .f64 13582856476149415936], .float .f64 4599075939470750516, .float .f64 13582856476149415936] u fun r w' => r = .returned (.bool true) ∧ Below u.heap.size u w' := by
  have h := is_any 4599075939470750516 13582856476149415936 4599075939470750516 13582856476149415936 u
  rw [show ((4599075939470750516 : Nat) == 4599075939470750516 && (13582856476149415936 : Nat) == 13582856476149415936) = true from by decide] at h
  exact h
theorem q24 (u : World) : Calls Try.prog 12 #[.float .f64 9218868437227405311, .float .f64 9218868437227405311] u fun r w' => r = .returned (.agg #[.float .f64 9218868437227405312, .float .f64 9221120237041090560]) ∧ Below u.heap.size u w' := by
  have h := Sum_all 9218868437227405311 9218868437227405311 u
  rw [show sumP 9218868437227405311 9218868437227405311 = (9218868437227405312, 9221120237041090560) from by kernel_rfl] at h
  exact h
theorem q25 (u : World) : Calls Try.prog 11 #[.agg #[.float .f64 9218868437227405312, .float .f64 9221120237041090560], .float .f64 9218868437227405312, .float .f64 9221120237041090560] u fun r w' => r = .returned (.bool true) ∧ Below u.heap.size u w' := by
  have h := is_any 9218868437227405312 9221120237041090560 9218868437227405312 9221120237041090560 u
  rw [show ((9218868437227405312 : Nat) == 9218868437227405312 && (9221120237041090560 : Nat) == 9221120237041090560) = true from by decide] at h
  exact h
theorem q26 (u : World) : Calls Try.prog 12 #[.float .f64 9218868437227405312, .float .f64 4607182418800017408] u fun r w' => r = .returned (.agg #[.float .f64 9218868437227405312, .float .f64 9221120237041090560]) ∧ Below u.heap.size u w' := by
  have h := Sum_all 9218868437227405312 4607182418800017408 u
  rw [show sumP 9218868437227405312 4607182418800017408 = (9218868437227405312, 9221120237041090560) from by kernel_rfl] at h
  exact h
theorem q27 (u : World) : Calls Try.prog 13 #[.float .f64 9223372036854775808] u fun r w' => r = .returned (.agg #[.float .f64 0, .float .f64 9223372036854775808]) ∧ Below u.heap.size u w' := by
  have h := Halves_all 9223372036854775808 u
  rw [show halfP 9223372036854775808 = (0, 9223372036854775808) from by kernel_rfl] at h
  exact h
theorem q28 (u : World) : Calls Try.prog 11 #[.agg #[.float .f64 0, .float .f64 9223372036854775808], .float .f64 0, .float .f64 9223372036854775808] u fun r w' => r = .returned (.bool true) ∧ Below u.heap.size u w' := by
  have h := is_any 0 9223372036854775808 0 9223372036854775808 u
  rw [show ((0 : Nat) == 0 && (9223372036854775808 : Nat) == 9223372036854775808) = true from by decide] at h
  exact h
theorem q29 (u : World) : Calls Try.prog 14 #[.float .f64 4591870180066957722, .float .f64 4621819117588971520] u fun r w' => r = .returned (.agg #[.float .f64 4607182418800017408, .float .f64 4363988038922010624]) ∧ Below u.heap.size u w' := by
  have h := Product_all 4591870180066957722 4621819117588971520 u
  rw [show prodP 4591870180066957722 4621819117588971520 = (4607182418800017408, 4363988038922010624) from by kernel_rfl] at h
  exact h
theorem q30 (u : World) : Calls Try.prog 11 #[.agg #[.float .f64 4607182418800017408, .float .f64 4363988038922010624], .float .f64 4607182418800017408, .float .f64 4363988038922010624] u fun r w' => r = .returned (.bool true) ∧ Below u.heap.size u w' := by
  have h := is_any 4607182418800017408 4363988038922010624 4607182418800017408 4363988038922010624 u
  rw [show ((4607182418800017408 : Nat) == 4607182418800017408 && (4363988038922010624 : Nat) == 4363988038922010624) = true from by decide] at h
  exact h
theorem q31 (u : World) : Calls Try.prog 14 #[.float .f64 13830554455654793216, .float .f64 0] u fun r w' => r = .returned (.agg #[.float .f64 9223372036854775808, .float .f64 0]) ∧ Below u.heap.size u w' := by
  have h := Product_all 13830554455654793216 0 u
  rw [show prodP 13830554455654793216 0 = (9223372036854775808, 0) from by kernel_rfl] at h
  exact h
theorem q32 (u : World) : Calls Try.prog 15 #[.int .i64 1000] u fun r w' => r = .returned (.float .f64 9110782046170513408) ∧ Below u.heap.size u w' := power_lit 1000 9110782046170513408 (by omega) (by omega) (by decide) u
theorem q33 (u : World) : Calls Try.prog 14 #[.float .f64 9110782046170513408, .float .f64 4607182418800017408] u fun r w' => r = .returned (.agg #[.float .f64 9110782046170513408, .float .f64 9221120237041090560]) ∧ Below u.heap.size u w' := by
  have h := Product_all 9110782046170513408 4607182418800017408 u
  rw [show prodP 9110782046170513408 4607182418800017408 = (9110782046170513408, 9221120237041090560) from by kernel_rfl] at h
  exact h
theorem q34 (u : World) : Calls Try.prog 11 #[.agg #[.float .f64 9110782046170513408, .float .f64 9221120237041090560], .float .f64 9110782046170513408, .float .f64 9221120237041090560] u fun r w' => r = .returned (.bool true) ∧ Below u.heap.size u w' := by
  have h := is_any 9110782046170513408 9221120237041090560 9110782046170513408 9221120237041090560 u
  rw [show ((9110782046170513408 : Nat) == 9110782046170513408 && (9221120237041090560 : Nat) == 9221120237041090560) = true from by decide] at h
  exact h
theorem q35 (u : World) : Calls Try.prog 12 #[.float .f64 4607182418800017408, .float .f64 13830554455654793216] u fun r w' => r = .returned (.agg #[.float .f64 0, .float .f64 0]) ∧ Below u.heap.size u w' := by
  have h := Sum_all 4607182418800017408 13830554455654793216 u
  rw [show sumP 4607182418800017408 13830554455654793216 = (0, 0) from by kernel_rfl] at h
  exact h
theorem q36 (u : World) : Calls Try.prog 11 #[.agg #[.float .f64 0, .float .f64 0], .float .f64 0, .float .f64 0] u fun r w' => r = .returned (.bool true) ∧ Below u.heap.size u w' := by
  have h := is_any 0 0 0 0 u
  rw [show ((0 : Nat) == 0 && (0 : Nat) == 0) = true from by decide] at h
  exact h
end Go.Proofs.Ythilnddhehbjiab

/- awake: the chapter's examples. -/
namespace Go.Proofs.Ythilnddhehbjiab
open Go.RowKit J
set_option linter.unusedVariables false
set_option maxRecDepth 20000
set_option linter.unusedSimpArgs false

set_option maxHeartbeats 8000000 in
theorem awake_all (w : World) : Calls Try.prog 7 #[] w fun r w' => r = .returned (.bool true) ∧ Below w.heap.size w w' := by
  have d1 : ∀ w, (binOp .add 23 (.float .f64 4728779608739020800) (.float .f64 4607182418800017408)).run Try.prog w = .ok (.float .f64 4728779608772575232) w := fun w => run_float_arith w .add _ .f64 _ _ _ (by kernel_rfl)
  have d2 : ∀ w, (binOp .add 23 (.float .f64 4877398396442247168) (.float .f64 4643211215818981376)).run Try.prog w = .ok (.float .f64 4877398396442247169) w := fun w => run_float_arith w .add _ .f64 _ _ _ (by kernel_rfl)
  have d3 : ∀ w, (binOp .add 23 (.float .f64 4850376798678024192) (.float .f64 4733283208366391296)).run Try.prog w = .ok (.float .f64 4850376798745133056) w := fun w => run_float_arith w .add _ .f64 _ _ _ (by kernel_rfl)
  go_enter Try.func7, Try.ntmps7
  go_wp2_with (simp only [d1, d2, d3])
  refine (Calls.mono (q0 _)) ?_
  rintro r w1 ⟨rfl, hb1⟩
  have S1 := Aside.intro hb1
  clear hb1
  go_wp2_with (simp only [d1, d2, d3])
  refine (Calls.mono (q_turn _)) ?_
  rintro r w2 ⟨rfl, hb2⟩
  have S2 := Aside.intro (S1.out.trans (hb2.mono S1.out.size))
  clear hb2 S1
  go_wp2_with (simp only [d1, d2, d3])
  refine (Calls.mono (q_odd _)) ?_
  rintro r w3 ⟨rfl, hb3⟩
  have S3 := Aside.intro (S2.out.trans (hb3.mono S2.out.size))
  clear hb3 S2
  go_wp2_with (simp only [d1, d2, d3])
  refine (Calls.mono (q1 _)) ?_
  rintro r w4 ⟨rfl, hb4⟩
  have S4 := Aside.intro (S3.out.trans (hb4.mono S3.out.size))
  clear hb4 S3
  go_wp2_with (simp only [d1, d2, d3])
  refine (Calls.mono (q2 _)) ?_
  rintro r w5 ⟨rfl, hb5⟩
  have S5 := Aside.intro (S4.out.trans (hb5.mono S4.out.size))
  clear hb5 S4
  go_wp2_with (simp only [d1, d2, d3])
  refine (Calls.mono (q1 _)) ?_
  rintro r w6 ⟨rfl, hb6⟩
  have S6 := Aside.intro (S5.out.trans (hb6.mono S5.out.size))
  clear hb6 S5
  go_wp2_with (simp only [d1, d2, d3])
  refine (Calls.mono (q3 _)) ?_
  rintro r w7 ⟨rfl, hb7⟩
  have S7 := Aside.intro (S6.out.trans (hb7.mono S6.out.size))
  clear hb7 S6
  go_wp2_with (simp only [d1, d2, d3])
  refine (Calls.mono (q4 _)) ?_
  rintro r w8 ⟨rfl, hb8⟩
  have S8 := Aside.intro (S7.out.trans (hb8.mono S7.out.size))
  clear hb8 S7
  go_wp2_with (simp only [d1, d2, d3])
  refine (Calls.mono (q5 _)) ?_
  rintro r w9 ⟨rfl, hb9⟩
  have S9 := Aside.intro (S8.out.trans (hb9.mono S8.out.size))
  clear hb9 S8
  go_wp2_with (simp only [d1, d2, d3])
  refine (Calls.mono (q4 _)) ?_
  rintro r w10 ⟨rfl, hb10⟩
  have S10 := Aside.intro (S9.out.trans (hb10.mono S9.out.size))
  clear hb10 S9
  go_wp2_with (simp only [d1, d2, d3])
  refine (Calls.mono (q6 _)) ?_
  rintro r w11 ⟨rfl, hb11⟩
  have S11 := Aside.intro (S10.out.trans (hb11.mono S10.out.size))
  clear hb11 S10
  go_wp2_with (simp only [d1, d2, d3])
  refine (Calls.mono (q7 _)) ?_
  rintro r w12 ⟨rfl, hb12⟩
  have S12 := Aside.intro (S11.out.trans (hb12.mono S11.out.size))
  clear hb12 S11
  go_wp2_with (simp only [d1, d2, d3])
  refine (Calls.mono (q8 _)) ?_
  rintro r w13 ⟨rfl, hb13⟩
  have S13 := Aside.intro (S12.out.trans (hb13.mono S12.out.size))
  clear hb13 S12
  go_wp2_with (simp only [d1, d2, d3])
  refine (Calls.mono (q9 _)) ?_
  rintro r w14 ⟨rfl, hb14⟩
  have S14 := Aside.intro (S13.out.trans (hb14.mono S13.out.size))
  clear hb14 S13
  go_wp2_with (simp only [d1, d2, d3])
  refine (Calls.mono (q10 _)) ?_
  rintro r w15 ⟨rfl, hb15⟩
  have S15 := Aside.intro (S14.out.trans (hb15.mono S14.out.size))
  clear hb15 S14
  go_wp2_with (simp only [d1, d2, d3])
  refine (Calls.mono (q11 _)) ?_
  rintro r w16 ⟨rfl, hb16⟩
  have S16 := Aside.intro (S15.out.trans (hb16.mono S15.out.size))
  clear hb16 S15
  go_wp2_with (simp only [d1, d2, d3])
  refine (Calls.mono (q0 _)) ?_
  rintro r w17 ⟨rfl, hb17⟩
  have S17 := Aside.intro (S16.out.trans (hb17.mono S16.out.size))
  clear hb17 S16
  go_wp2_with (simp only [d1, d2, d3])
  refine (Calls.mono (q12 _)) ?_
  rintro r w18 ⟨rfl, hb18⟩
  have S18 := Aside.intro (S17.out.trans (hb18.mono S17.out.size))
  clear hb18 S17
  go_wp2_with (simp only [d1, d2, d3])
  refine (Calls.mono (q13 _)) ?_
  rintro r w19 ⟨rfl, hb19⟩
  have S19 := Aside.intro (S18.out.trans (hb19.mono S18.out.size))
  clear hb19 S18
  go_wp2_with (simp only [d1, d2, d3])
  refine (Calls.mono (q14 _)) ?_
  rintro r w20 ⟨rfl, hb20⟩
  have S20 := Aside.intro (S19.out.trans (hb20.mono S19.out.size))
  clear hb20 S19
  go_wp2_with (simp only [d1, d2, d3])
  refine (Calls.mono (q15 _)) ?_
  rintro r w21 ⟨rfl, hb21⟩
  have S21 := Aside.intro (S20.out.trans (hb21.mono S20.out.size))
  clear hb21 S20
  go_wp2_with (simp only [d1, d2, d3])
  refine (Calls.mono (q16 _)) ?_
  rintro r w22 ⟨rfl, hb22⟩
  have S22 := Aside.intro (S21.out.trans (hb22.mono S21.out.size))
  clear hb22 S21
  go_wp2_with (simp only [d1, d2, d3])
  refine (Calls.mono (q1 _)) ?_
  rintro r w23 ⟨rfl, hb23⟩
  have S23 := Aside.intro (S22.out.trans (hb23.mono S22.out.size))
  clear hb23 S22
  go_wp2_with (simp only [d1, d2, d3])
  refine (Calls.mono (q17 _)) ?_
  rintro r w24 ⟨rfl, hb24⟩
  have S24 := Aside.intro (S23.out.trans (hb24.mono S23.out.size))
  clear hb24 S23
  go_wp2_with (simp only [d1, d2, d3])
  refine (Calls.mono (q1 _)) ?_
  rintro r w25 ⟨rfl, hb25⟩
  have S25 := Aside.intro (S24.out.trans (hb25.mono S24.out.size))
  clear hb25 S24
  go_wp2_with (simp only [d1, d2, d3])
  refine (Calls.mono (q18 _)) ?_
  rintro r w26 ⟨rfl, hb26⟩
  have S26 := Aside.intro (S25.out.trans (hb26.mono S25.out.size))
  clear hb26 S25
  go_wp2_with (simp only [d1, d2, d3])
  refine (Calls.mono (q19 _)) ?_
  rintro r w27 ⟨rfl, hb27⟩
  have S27 := Aside.intro (S26.out.trans (hb27.mono S26.out.size))
  clear hb27 S26
  go_wp2_with (simp only [d1, d2, d3])
  refine (Calls.mono (q20 _)) ?_
  rintro r w28 ⟨rfl, hb28⟩
  have S28 := Aside.intro (S27.out.trans (hb28.mono S27.out.size))
  clear hb28 S27
  go_wp2_with (simp only [d1, d2, d3])
  refine (Calls.mono (q14 _)) ?_
  rintro r w29 ⟨rfl, hb29⟩
  have S29 := Aside.intro (S28.out.trans (hb29.mono S28.out.size))
  clear hb29 S28
  go_wp2_with (simp only [d1, d2, d3])
  refine (Calls.mono (q21 _)) ?_
  rintro r w30 ⟨rfl, hb30⟩
  have S30 := Aside.intro (S29.out.trans (hb30.mono S29.out.size))
  clear hb30 S29
  go_wp2_with (simp only [d1, d2, d3])
  refine (Calls.mono (q1 _)) ?_
  rintro r w31 ⟨rfl, hb31⟩
  have S31 := Aside.intro (S30.out.trans (hb31.mono S30.out.size))
  clear hb31 S30
  go_wp2_with (simp only [d1, d2, d3])
  refine (Calls.mono (q_value _)) ?_
  rintro r w32 ⟨rfl, hb32⟩
  have S32 := Aside.intro (S31.out.trans (hb32.mono S31.out.size))
  clear hb32 S31
  go_wp2_with (simp only [d1, d2, d3])
  refine (Calls.mono (q_same _)) ?_
  rintro r w33 ⟨rfl, hb33⟩
  have S33 := Aside.intro (S32.out.trans (hb33.mono S32.out.size))
  clear hb33 S32
  go_wp2
  exact bodyPost_ret (v := .bool true) (by simp [results, Try.results7, go_sem]) rfl ⟨rfl, S33.out⟩
end Go.Proofs.Ythilnddhehbjiab

