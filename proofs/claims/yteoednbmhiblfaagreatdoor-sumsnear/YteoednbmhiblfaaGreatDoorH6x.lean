/- The program's Exact. -/
import Derived.Test.YteoednbmhiblfaaGreatDoorM1x
import Derived.Test.YteoednbmhiblfaaGreatDoorD21x
import Derived.Test.YteoednbmhiblfaaGreatDoorBIeeex
import Derived.Test.YteoednbmhiblfaaGreatDoorM10x
import Derived.Test.YteoednbmhiblfaaGreatDoorS13x
import Derived.Test.YteoednbmhiblfaaGreatDoorD2x
import Derived.Test.YteoednbmhiblfaaGreatDoorD16x
import Derived.Deep.Cut
import Derived.Deep.RegionHeld3
namespace Go.Proofs.YteoednbmhiblfaaGreatDoor
open Go.RowKit
set_option linter.unusedVariables false
set_option maxRecDepth 20000
set_option linter.unusedSimpArgs false

/-- A list's exact sum, in units; its counts. -/
def vS (l : List Nat) : Int := l.foldl (fun v x => v + pT x 4607182418800017408) 0
def sS (l : List Nat) : Sp := l.foldl (fun s x => s.cnt (pK x 4607182418800017408) 1) ⟨0, 0, 0, 0, 0, 0⟩
theorem take_snoc10 (l : List Nat) (k : Nat) (h : k < l.length) : l.take (k + 1) = l.take k ++ [l.getD k 0] := by
  rw [List.take_succ_eq_append_getElem h, List.getD_eq_getElem?_getD, List.getElem?_eq_getElem h]; rfl
theorem vS_take (l : List Nat) (k : Nat) (h : k < l.length) : vS (l.take (k + 1)) = vS (l.take k) + pT (l.getD k 0) 4607182418800017408 := by
  rw [take_snoc10 l k h]; simp [vS, List.foldl_append]
theorem sS_take (l : List Nat) (k : Nat) (h : k < l.length) : sS (l.take (k + 1)) = (sS (l.take k)).cnt (pK (l.getD k 0) 4607182418800017408) 1 := by
  rw [take_snoc10 l k h]; simp [sS, List.foldl_append]
theorem vS_bound (l : List Nat) (hl : W64 l) : ∀ k, k ≤ l.length → -((k * QB : Nat) : Int) ≤ vS (l.take k) ∧ vS (l.take k) ≤ ((k * QB : Nat) : Int)
  | 0, _ => by simp [vS]
  | k + 1, h => by
    obtain ⟨h1, h2⟩ := vS_bound l hl k (by omega)
    have h3 := pT_small (l.getD k 0) 4607182418800017408 (hl.get k) (by decide)
    rw [vS_take l k h]
    have e : ((k + 1) * QB : Nat) = k * QB + QB := by rw [Nat.add_mul, Nat.one_mul]
    omega
theorem sS_pos (l : List Nat) : ∀ k, k ≤ l.length → (sS (l.take k)).pos ∧ (sS (l.take k)).a = k
  | 0, _ => ⟨by rw [List.take_zero]; unfold Sp.pos sS; decide, rfl⟩
  | k + 1, h => by
    obtain ⟨h1, h2⟩ := sS_pos l k (by omega)
    rw [sS_take l k h]
    refine ⟨h1.cnt _ (pk_le _ _ _), ?_⟩
    rw [cnt_a, h2]
    omega

set_option maxHeartbeats 4000000 in
theorem exact_core (xs : List Nat) (a : Option Addr) (n c : Nat) (mode pa pb : Int) (X : Nat) (er : Int) (w : World) (hn : n = xs.length) (hF : Fs w.heap.size w a xs) (hW : W64 xs) (hT : Tab w) (hm0 : 0 ≤ mode) (hm1 : mode ≤ 4) (hab : may pa pb = true) (hl : n ≤ 65536)
    (HR : Hid (∀ (g : Nat) (u : World), Acc7 u g (vS xs) (sS xs) → (sS xs).ok → Tab u → Calls Tryz.prog 62 #[.pointer (some ⟨g, 0, none⟩), .int .i64 mode, .agg #[.int .i64 pa, .int .i64 pb]] u fun r w' => r = .returned (.tuple #[.float .f64 X, .int .i64 er]) ∧ Below u.heap.size u w')) :
    Calls Tryz.prog 26 #[.slice a n c, .int .i64 mode, .agg #[.int .i64 pa, .int .i64 pb]] w fun r w' => r = .returned (.tuple #[.float .f64 X, .int .i64 er]) ∧ Below w.heap.size w w' := by
  have HM := hid (fun u : World => May_any pa pb u)
  rw [hab] at HM
  have HX := Aside.intro (And.intro hn (And.intro hF (And.intro hW (And.intro hT hl))))
  have b0 : decide (mode < 0) = false := by simp; omega
  have b1 : decide (4 < mode) = false := by simp; omega
  have b2 : decide ((65536 : Int) < (n : Int)) = false := by simp; omega
  have b3 : decide (65536 < n) = false := by simp; omega
  clear hn hF hW hT hm0 hm1 hab hl
  go_enter Tryz.func26, Tryz.ntmps26
  go_wp2_with fail
  refine (HM.out _).mono ?_
  rintro r w1 ⟨rfl, hb1⟩
  have P1 : Aside (Bl w1 w.heap.size 45 [.int .i64 pa, .int .i64 pb] ∧ Below w.heap.size w w1 ∧ w.heap.size < w1.heap.size) := by
    have e0 := bel_alloc w (Obj.cells #[.int .i64 pa, .int .i64 pb] 45)
    exact ⟨(Bl.new w 45 [_, _]).below hb1 (by simp), e0.trans (hb1.mono (by simp)), by have := hb1.size; simp at this; omega⟩
  clear hb1 HM
  go_wp2_with fail
  refine (New7 w1).mono ?_
  rintro r w2 ⟨rfl, hA, hb2⟩
  obtain ⟨g, hg⟩ : ∃ g, g = w1.heap.size := ⟨_, rfl⟩
  rw [← hg] at hA ⊢
  have P2 : Aside (Bl w2 w.heap.size 45 [.int .i64 pa, .int .i64 pb] ∧ Below w.heap.size w w2 ∧ w.heap.size < g ∧ Acc7 w2 g 0 ⟨0, 0, 0, 0, 0, 0⟩) :=
    ⟨P1.out.1.below hb2 P1.out.2.2, P1.out.2.1.trans (hb2.mono P1.out.2.1.size), by rw [hg]; exact P1.out.2.2, hA⟩
  clear hb2 hA hg P1
  go_wp2
  go_loopg [30] n (fun gk i wr => ∃ k : Nat, gk + k = n ∧ i = .int .i64 (k : Nat) ∧ Aside (Acc7 wr g (vS (xs.take k)) (sS (xs.take k)) ∧ Bl wr w.heap.size 45 [.int .i64 pa, .int .i64 pb] ∧ Below w.heap.size w wr))
  case atStart => exact ⟨0, by omega, by simp, by simpa [vS, sS] using P2.out.2.2.2, P2.out.1, P2.out.2.1⟩
  case round =>
    obtain ⟨k, hgk, rfl, HA⟩ := hrel
    by_cases hk : k < n
    · obtain ⟨b, off, rfl, hc⟩ := HX.out.2.1.at HA.out.2.2 k (by rw [← HX.out.1]; exact hk)
      obtain ⟨x, hx⟩ : ∃ x, x = xs.getD k 0 := ⟨_, rfl⟩
      rw [← hx] at hc
      have C : Hid (Calls Tryz.prog 61 #[.pointer (some ⟨g, 0, none⟩), .float .f64 x] wr (Did g wr (0, vS (xs.take (k + 1)), sS (xs.take (k + 1))))) := by
        have hk2 : k < xs.length := by rw [← HX.out.1]; exact hk
        obtain ⟨p1, p2⟩ := sS_pos xs k (by omega)
        obtain ⟨v1, v2⟩ := vS_bound xs HX.out.2.2.1 k (by omega)
        have hx64 : x < 18446744073709551616 := by rw [hx]; exact HX.out.2.2.1.get k
        have hsm := pT_small x 4607182418800017408 hx64 (by decide)
        have hl := HX.out.2.2.2.2
        have hkq : k * QB ≤ 65536 * QB := Nat.mul_le_mul_right _ (by omega)
        have hQ := QB_HB
        have hqp := QB_pos
        have C := Add7 g (vS (xs.take k)) (sS (xs.take k)) x wr HA.out.1 (p1.ok (by omega)) hx64
        rw [put_ok _ _ _ _ (by omega) (by omega) (by omega)] at C
        rw [vS_take xs k hk2, sS_take xs k hk2, ← hx]
        exact C
      have hkb : k < 4611686018427387904 := by have := HX.out.2.2.2.2; omega
      clear hx
      go_wp2_with fail
      refine (C.out).mono ?_
      rintro r w3 ⟨rfl, hA3, hbut⟩
      have H3 := Aside.intro (And.intro hA3 (And.intro (HA.out.2.1.but hbut (by have := P2.out.2.2.1; omega)) (But.below HA.out.2.2 hbut HA.out.2.2.size (by have := P2.out.2.2.1; omega))))
      clear hA3 hbut C
      go_wp2
      go_roundg (gk - 1)
      case measure => omega
      case rel => exact ⟨k + 1, by omega, by first | rfl | simp, H3.out⟩
    · have hd : decide ((k : Int) < n) = false := by simp; omega
      have q0 := HA.out.2.1.cell 0 _ rfl
      have q1 := HA.out.2.1.cell 1 _ rfl
      have C : Hid (Calls Tryz.prog 62 #[.pointer (some ⟨g, 0, none⟩), .int .i64 mode, .agg #[.int .i64 pa, .int .i64 pb]] wr fun r w' => r = .returned (.tuple #[.float .f64 X, .int .i64 er]) ∧ Below wr.heap.size wr w') := by
        have e : xs.take k = xs := by rw [List.take_of_length_le]; rw [← HX.out.1]; omega
        have hA := HA.out.1
        obtain ⟨p1, p2⟩ := sS_pos xs k (by rw [← HX.out.1]; omega)
        rw [e] at hA p1 p2
        have hl := HX.out.2.2.2.2
        exact HR.out g wr hA (p1.ok (by omega)) (HX.out.2.2.2.1.belows HA.out.2.2)
      clear HR
      go_wp2_with fail
      refine (C.out).mono ?_
      rintro r w3 ⟨rfl, hb3⟩
      have B3 := Aside.intro (HA.out.2.2.trans (hb3.mono HA.out.2.2.size))
      clear hb3 C
      go_wp2
      go_ret2
      exact ⟨rfl, B3.out⟩
theorem Exact10 (xs : List Nat) (a : Option Addr) (n c : Nat) (mode pa pb : Int) (w : World) (hn : n = xs.length) (hF : Fs w.heap.size w a xs) (hW : W64 xs) (hT : Tab w) (hm0 : 0 ≤ mode) (hm1 : mode ≤ 4) (hab : may pa pb = true) (hl : n ≤ 65536) (ha : pa ≠ 2) (hb : pb ≠ 2) :
    Calls Tryz.prog 26 #[.slice a n c, .int .i64 mode, .agg #[.int .i64 pa, .int .i64 pb]] w fun r w' => r = .returned (.tuple #[.float .f64 (rd7 (vS xs) (sS xs) mode pa pb).1, .int .i64 (rd7 (vS xs) (sS xs) mode pa pb).2]) ∧ Below w.heap.size w w' :=
  exact_core xs a n c mode pa pb _ _ w hn hF hW hT hm0 hm1 hab hl (hid fun g u hA hs hT => Round7 g (vS xs) (sS xs) mode pa pb u hA hs hT hm0 hm1 hab ha hb)
end Go.Proofs.YteoednbmhiblfaaGreatDoor

/- The program's steps: a sum, a difference, a product of any two numbers, and a NaN made the one that is answered. -/
namespace Go.Proofs.YteoednbmhiblfaaGreatDoor
open Go.RowKit
set_option linter.unusedVariables false
set_option maxRecDepth 20000
attribute [local go_sem] B.f64bits B.f64frombits
theorem st_float {P : Program} {w : World} (a : Addr) (k : FloatKind) (n : Nat) (m : Mode) : (store a (.float k n) m).run P w = stored P w a (.float k n) m := run_store P w a _ m rfl

/-- The NaN that is answered. -/
def oddW : Nat := 9221120237041090560
/-- A step: the answer's bits. -/
def arW (op : BinOp) (x y : Nat) : Nat := (floatBits op .f64 x y).getD oddW

/-- A step that has no answer: some NaN comes of it. -/
theorem run_float_none {P : Program} (w : World) (op : BinOp) (t : TypeId) (x y : Nat) (ho : op = .add ∨ op = .sub ∨ op = .mul) (h : floatBits op .f64 x y = none) :
    ∃ z, (9218868437227405312 < z % 9223372036854775808 ∧ z < 18446744073709551616) ∧ (binOp op t (.float .f64 x) (.float .f64 y)).run P w = .ok (.float .f64 z) w.drew := by
  refine ⟨(Question.nanBits .f64 x y).cut (w.tape w.drawn (.nanBits .f64 x y)), ?_, ?_⟩
  · unfold Question.cut
    generalize w.tape w.drawn (.nanBits .f64 x y) = t
    show 9218868437227405312 < ((t % 2) * 9223372036854775808 + 9218868437227405312 + 1 + (t / 2) % 4503599627370495) % 9223372036854775808 ∧ ((t % 2) * 9223372036854775808 + 9218868437227405312 + 1 + (t / 2) % 4503599627370495) < 18446744073709551616
    have h1 : (t / 2) % 4503599627370495 < 4503599627370495 := Nat.mod_lt _ (by decide)
    generalize (t / 2) % 4503599627370495 = q at *
    rcases Nat.mod_two_eq_zero_or_one t with h2 | h2 <;> rw [h2] <;> omega
  · unfold floatBits at h
    rcases ho with rfl | rfl | rfl <;> simp only at h <;> simp [binOp, Op.floatArith, h, Question.forced]

/-- What is written of a number or an infinity is no NaN. -/
theorem write_fin (d : Ieee.Datum) (h : d.isNaN = false) : Ieee.double.write d % 9223372036854775808 ≤ 9218868437227405312 ∧ Ieee.double.write d < 18446744073709551616 := by
  have hw : ∀ (s : Bool) (r : Nat), r ≤ 9218868437227405312 → Ieee.double.word s r % 9223372036854775808 ≤ 9218868437227405312 ∧ Ieee.double.word s r < 18446744073709551616 := by
    intro s r hr
    have e : Ieee.double.word s r = (if s then 9223372036854775808 + r else r) := rfl
    rw [e]
    cases s <;> simp <;> omega
  cases d with
  | number n m p =>
    show Ieee.double.nearest n m p % _ ≤ _ ∧ Ieee.double.nearest n m p < _
    unfold Ieee.Format.nearest
    split
    · exact hw _ _ (by omega)
    · exact hw _ _ (Nat.min_le_right _ _)
  | infinity n => exact hw _ _ (Nat.le_refl _)
  | nan n f => cases h
theorem sum_fin {a b d : Ieee.Datum} (h : a.sum b = some d) : d.isNaN = false := by
  cases a <;> cases b <;> simp only [Ieee.Datum.sum] at h <;> first | (cases h; rfl) | (cases h; done) | (split at h <;> first | (cases h; rfl) | (cases h; done))
theorem product_fin {a b d : Ieee.Datum} (h : a.product b = some d) : d.isNaN = false := by
  cases a <;> cases b <;> simp only [Ieee.Datum.product] at h <;> first | (cases h; rfl) | (cases h; done) | (split at h <;> first | (cases h; rfl) | (cases h; done))
theorem bits_fin {op : BinOp} {x y z : Nat} (ho : op = .add ∨ op = .sub ∨ op = .mul) (h : floatBits op .f64 x y = some z) : z % 9223372036854775808 ≤ 9218868437227405312 ∧ z < 18446744073709551616 := by
  unfold floatBits at h
  rcases ho with rfl | rfl | rfl
  · obtain ⟨d, h1, h2⟩ := Option.map_eq_some_iff.1 (show ((Ieee.double.read x).sum (Ieee.double.read y)).map Ieee.double.write = some z from h)
    rw [← h2]; exact write_fin d (sum_fin h1)
  · obtain ⟨d, h1, h2⟩ := Option.map_eq_some_iff.1 (show ((Ieee.double.read x).sum (Ieee.double.read y).opposite).map Ieee.double.write = some z from h)
    rw [← h2]; exact write_fin d (sum_fin h1)
  · obtain ⟨d, h1, h2⟩ := Option.map_eq_some_iff.1 (show ((Ieee.double.read x).product (Ieee.double.read y)).map Ieee.double.write = some z from h)
    rw [← h2]; exact write_fin d (product_fin h1)

/-- Is a word a NaN? -/
def nanW (z : Nat) : Bool := decide (9218868437227405312 < z % 9223372036854775808)
theorem bwz (z : Nat) (h : z < 18446744073709551616) : ∃ s e f, e < 2048 ∧ f < 4503599627370496 ∧ z = B.bw s e f ∧ B.odd e f = nanW z := by
  refine ⟨decide (9223372036854775808 ≤ z), z % 9223372036854775808 / 4503599627370496, z % 4503599627370496, by omega, by omega, ?_, ?_⟩
  · unfold B.bw
    by_cases h1 : 9223372036854775808 ≤ z
    · simp only [h1, decide_true, Bool.toNat_true]; omega
    · simp only [h1, decide_false, Bool.toNat_false]; omega
  · unfold B.odd nanW
    rw [Bool.eq_iff_iff]
    simp only [Bool.and_eq_true, beq_iff_eq, bne_iff_ne, ne_eq, decide_eq_true_eq]
    omega
theorem isNaN_w (z : Nat) (h : z < 18446744073709551616) (w : World) : Calls Tryz.prog 110 #[.float .f64 z] w fun r w' => r = .returned (.bool (nanW z)) ∧ w' = w := by
  obtain ⟨s, e, f, he, hf, h1, h2⟩ := bwz z h
  rw [← h2, h1]
  exact B.isNaN_any s e f he hf w

end Go.Proofs.YteoednbmhiblfaaGreatDoor

/- dyad's Mul. -/
namespace Go.Proofs.YteoednbmhiblfaaGreatDoor
open Go.RowKit
set_option linter.unusedVariables false
set_option maxRecDepth 20000
set_option linter.unusedSimpArgs false

theorem mul_res (W : World) (g : Nat) (n : Bool) (v : Value) (e k : Int) (tmps : Array Value) (ht : tmps[4]?.getD undef = .pointer (some ⟨g, 0, none⟩)) (hk : tmps[5]?.getD undef = .int .i64 k) (D : Dk W g n v e) :
    (results Tryz.f57 tmps).run Tryz.prog W = .ok (.tuple #[.agg #[.bool n, v, .int .i64 e], .int .i64 k]) W := by
  obtain ⟨x0, x1, x2, xf0, xf1, xf2⟩ := D.facts
  simp [results, Tryz.results57, ht, hk, go_sem, x0, x1, x2]

set_option maxHeartbeats 4000000 in
theorem mul_bad {w : World} {a b : Option Addr} {l c k d : Nat} (n m : Bool) (e f : Int) (HFM : Hid (∀ u, Below w.heap.size w u → Calls Tryz.prog 49 #[.agg #[.bool n, .slice a l c, .int .i64 e], .agg #[.bool m, .slice b k d, .int .i64 f]] u fun r w' => r = .returned (.tuple #[.agg #[.bool false, .slice none 0 0, .int .i64 0], .agg #[.bool false, .slice none 0 0, .int .i64 0], .int .i64 2]) ∧ Below u.heap.size u w')) : Calls Tryz.prog 57 #[.agg #[.bool n, .slice a l c, .int .i64 e], .agg #[.bool m, .slice b k d, .int .i64 f]] w fun r w' => r = .returned (.tuple #[.agg #[.bool false, .slice none 0 0, .int .i64 0], .int .i64 2]) ∧ Below w.heap.size w w' := by
  obtain ⟨W1, hW1⟩ : ∃ W, W = ((w.alloc (.cells #[.bool n, .slice a l c, .int .i64 e] 37)).alloc (.cells #[.bool m, .slice b k d, .int .i64 f] 37)).alloc (.cells #[.bool false, .slice none 0 0, .int .i64 0] 37) := ⟨_, rfl⟩
  obtain ⟨hB, hz1, DA, DB, DR⟩ := add_begin w n m (.slice a l c) (.slice b k d) e f W1 hW1
  have H1 := hid (HFM.out W1 hB)
  have SB := (Aside.intro (And.intro hB (And.intro hz1 (And.intro DA (And.intro DB DR)))))
  clear hB hz1 DA DB DR HFM
  go_enter Tryz.func57, Tryz.ntmps57
  go_wp2_with fail
  rw [← hW1]
  clear hW1
  refine (Calls.mono H1.out) ?_
  rintro r u1 ⟨rfl, hb⟩
  obtain ⟨hB, hz1, DA, DB, DR⟩ := SB.out
  have EA := DA.below hb
  have EB := DB.below hb
  have ER := DR.below hb
  obtain ⟨x0, x1, x2, xf0, xf1, xf2⟩ := EA.facts
  obtain ⟨y0, y1, y2, yf0, yf1, yf2⟩ := EB.facts
  obtain ⟨r0, r1, r2, rf0, rf1, rf2⟩ := ER.facts
  have F1 := Aside.intro (show Fin w.heap.size (w.heap.size + 3) w u1 (.slice none 0 0) 0 from ⟨Nt.nil _ _, hB.trans (hb.mono (by omega)), by have := hb.size; omega⟩)
  have SE := Aside.intro ER
  clear hb H1 hB hz1 DA DB DR EA EB ER SB
  go_wp2
  refine bodyPost_ret (mul_res _ (w.heap.size + 1 + 1) false (.slice none 0 0) 0 2 _ rfl rfl (((SE.out.other _ (by omega) _ _ _).other _ (by omega) _ _ _).set _ _ _)) rfl ⟨rfl, ?_⟩
  refine Fin.bel (m := w.heap.size + 3) (v := .slice none 0 0) (X := 0) ?_
  repeat (with_reducible first | exact F1.out | refine Fin.drew ?_ | refine Fin.alloc ?_ _ | refine Fin.set ?_ _ _ _ (by omega) (by omega))

set_option maxHeartbeats 4000000 in
theorem mul_long {w : World} {a b : Option Addr} {l c k d : Nat} (n m : Bool) (e f : Int) (n1 m1 : Bool) (X Y : Nat) (e1 f1 : Int) (lX : (ws X).length ≤ 8192) (lY : (ws Y).length ≤ 8192) (be0 : -1048576 ≤ e1) (be1 : e1 ≤ 1048576) (bf0 : -1048576 ≤ f1) (bf1 : f1 ≤ 1048576)
    (HFM : Hid (∀ u, Below w.heap.size w u → Calls Tryz.prog 49 #[.agg #[.bool n, .slice a l c, .int .i64 e], .agg #[.bool m, .slice b k d, .int .i64 f]] u fun r w' => ∃ v v', r = .returned (.tuple #[.agg #[.bool n1, v, .int .i64 e1], .agg #[.bool m1, v', .int .i64 f1], .int .i64 0]) ∧ Nt u.heap.size w' v X ∧ Nt u.heap.size w' v' Y ∧ Below u.heap.size u w'))
    (HSH : Hid (∀ (u : World) (p : Option Addr) (q : Nat) (p2 : Option Addr) (q2 : Nat), Below w.heap.size w u → Arg u p (ws X).length q (ws X) → Arg u p2 (ws Y).length q2 (ws Y) → Calls Tryz.prog 95 #[.slice p (ws X).length q, .slice p2 (ws Y).length q2] u fun r w' => ∃ v, r = .returned (.tuple #[v, .int .i64 2]) ∧ Nt u.heap.size w' v 0 ∧ Below u.heap.size u w')) : Calls Tryz.prog 57 #[.agg #[.bool n, .slice a l c, .int .i64 e], .agg #[.bool m, .slice b k d, .int .i64 f]] w fun r w' => r = .returned (.tuple #[.agg #[.bool false, .slice none 0 0, .int .i64 0], .int .i64 2]) ∧ Below w.heap.size w w' := by
  have l0 : (ws 0).length = 0 := by rw [ws_zero]; rfl
  obtain ⟨W1, hW1⟩ : ∃ W, W = ((w.alloc (.cells #[.bool n, .slice a l c, .int .i64 e] 37)).alloc (.cells #[.bool m, .slice b k d, .int .i64 f] 37)).alloc (.cells #[.bool false, .slice none 0 0, .int .i64 0] 37) := ⟨_, rfl⟩
  obtain ⟨hB, hz1, DA, DB, DR⟩ := add_begin w n m (.slice a l c) (.slice b k d) e f W1 hW1
  have H1 := hid (HFM.out W1 hB)
  have SB := (Aside.intro (And.intro hB (And.intro hz1 (And.intro DA (And.intro DB DR)))))
  clear hB hz1 DA DB DR HFM
  go_enter Tryz.func57, Tryz.ntmps57
  go_wp2_with fail
  rw [← hW1]
  clear hW1
  refine (Calls.mono H1.out) ?_
  rintro r u1 ⟨v, v', rfl, hN, hM, hb⟩
  obtain ⟨a1, c1, rfl, _⟩ := hN.arg (by omega)
  obtain ⟨a2, c2, rfl, _⟩ := hM.arg (by omega)
  obtain ⟨hB, hz1, DA, DB, DR⟩ := SB.out
  have EA := DA.below hb
  have EB := DB.below hb
  have ER := DR.below hb
  obtain ⟨x0, x1, x2, xf0, xf1, xf2⟩ := EA.facts
  obtain ⟨y0, y1, y2, yf0, yf1, yf2⟩ := EB.facts
  obtain ⟨r0, r1, r2, rf0, rf1, rf2⟩ := ER.facts
  have FX := Aside.intro (show Fin w.heap.size (w.heap.size + 3) w u1 (.slice a1 (ws X).length c1) X from ⟨by rw [← hz1]; exact hN, hB.trans (hb.mono (by omega)), by have := hb.size; omega⟩)
  have FY := Aside.intro (show Fin w.heap.size (w.heap.size + 3) w u1 (.slice a2 (ws Y).length c2) Y from ⟨by rw [← hz1]; exact hM, hB.trans (hb.mono (by omega)), by have := hb.size; omega⟩)
  have SE := (Aside.intro (And.intro EA (And.intro EB ER)))
  clear hN hM hb H1 hB hz1 DA DB DR EA EB ER SB
  obtain ⟨EA, EB, ER⟩ := SE.out
  obtain ⟨U1, hU1⟩ : ∃ U, U = st3 (st3 u1 w.heap.size (.bool n1) (.slice a1 (ws X).length c1) (.int .i64 e1)) (w.heap.size + 1) (.bool m1) (.slice a2 (ws Y).length c2) (.int .i64 f1) := ⟨_, rfl⟩
  have IA : Dk U1 w.heap.size n1 (.slice a1 (ws X).length c1) e1 := by rw [hU1]; exact ((EA.set _ _ _).other _ (by omega) _ _ _)
  have IB : Dk U1 (w.heap.size + 1) m1 (.slice a2 (ws Y).length c2) f1 := by rw [hU1]; exact ((EB.other _ (by omega) _ _ _).set _ _ _)
  have IR : Dk U1 (w.heap.size + 1 + 1) false (.slice none 0 0) 0 := by rw [hU1]; exact ((ER.other _ (by omega) _ _ _).other _ (by omega) _ _ _)
  have GX : Fin w.heap.size (w.heap.size + 3) w U1 (.slice a1 (ws X).length c1) X := by rw [hU1]; exact (Fin.st3 (Fin.st3 FX.out _ _ _ _ (by omega) (by omega)) _ _ _ _ (by omega) (by omega))
  have GY : Fin w.heap.size (w.heap.size + 3) w U1 (.slice a2 (ws Y).length c2) Y := by rw [hU1]; exact (Fin.st3 (Fin.st3 FY.out _ _ _ _ (by omega) (by omega)) _ _ _ _ (by omega) (by omega))
  have H2 := hid (HSH.out U1 a1 c1 a2 c2 GX.bel (GX.nt.arg' (by omega)).2 (GY.nt.arg' (by omega)).2)
  have S1 := (Aside.intro (And.intro IA (And.intro IB (And.intro IR (And.intro GX GY)))))
  have hzU : w.heap.size + 3 ≤ U1.heap.size := by have := IR.lt; omega
  clear EA EB ER IA IB IR GX GY SE HSH
  unfold st3 at hU1
  go_wp2_with fail
  rw [← hU1]
  clear hU1 x0 x1 x2 xf0 xf1 xf2 y0 y1 y2 yf0 yf1 yf2 r0 r1 r2 rf0 rf1 rf2
  refine (Calls.mono H2.out) ?_
  rintro r u2 ⟨v, rfl, hN, hb⟩
  obtain ⟨a3, c3, rfl, _⟩ := hN.arg (by omega)
  obtain ⟨IA, IB, IR, GX, GY⟩ := S1.out
  obtain ⟨x0, x1, x2, xf0, xf1, xf2⟩ := (IA.below hb).facts
  obtain ⟨y0, y1, y2, yf0, yf1, yf2⟩ := (IB.below hb).facts
  obtain ⟨r0, r1, r2, rf0, rf1, rf2⟩ := (IR.below hb).facts
  have S2 := (Aside.intro (And.intro (IR.below hb) (GX.below hb)))
  clear hN hb H2 S1 IA IB IR GX GY
  go_wp2
  refine bodyPost_ret (mul_res _ (w.heap.size + 1 + 1) false (.slice none 0 0) 0 2 _ rfl rfl (S2.out.1.set _ _ _)) rfl ⟨rfl, ?_⟩
  refine Fin.bel (m := w.heap.size + 3) (v := .slice a1 (ws X).length c1) (X := X) ?_
  repeat (with_reducible first | exact S2.out.2 | refine Fin.drew ?_ | refine Fin.alloc ?_ _ | refine Fin.set ?_ _ _ _ (by omega) (by omega))

set_option maxHeartbeats 4000000 in
theorem mul_ok {w : World} {a b : Option Addr} {l c k d : Nat} (n m : Bool) (e f : Int) (n1 m1 : Bool) (X Y : Nat) (e1 f1 : Int) (lX : (ws X).length ≤ 8192) (lY : (ws Y).length ≤ 8192) (be0 : -1048576 ≤ e1) (be1 : e1 ≤ 1048576) (bf0 : -1048576 ≤ f1) (bf1 : f1 ≤ 1048576)
    (HFM : Hid (∀ u, Below w.heap.size w u → Calls Tryz.prog 49 #[.agg #[.bool n, .slice a l c, .int .i64 e], .agg #[.bool m, .slice b k d, .int .i64 f]] u fun r w' => ∃ v v', r = .returned (.tuple #[.agg #[.bool n1, v, .int .i64 e1], .agg #[.bool m1, v', .int .i64 f1], .int .i64 0]) ∧ Nt u.heap.size w' v X ∧ Nt u.heap.size w' v' Y ∧ Below u.heap.size u w')) (L : Nat) (lL : (ws L).length ≤ 8192) (dn : Bool) (V : Nat) (de er : Int) (lV : (ws V).length ≤ 8192)
    (HSH : Hid (∀ (u : World) (p : Option Addr) (q : Nat) (p2 : Option Addr) (q2 : Nat), Below w.heap.size w u → Arg u p (ws X).length q (ws X) → Arg u p2 (ws Y).length q2 (ws Y) → Calls Tryz.prog 95 #[.slice p (ws X).length q, .slice p2 (ws Y).length q2] u fun r w' => ∃ v, r = .returned (.tuple #[v, .int .i64 0]) ∧ Nt u.heap.size w' v L ∧ Below u.heap.size u w'))
    (HT : Hid (∀ (u : World) (p : Option Addr) (s : Nat), Below w.heap.size w u → Arg u p (ws L).length s (ws L) → Calls Tryz.prog 47 #[.bool (n1 != m1), .slice p (ws L).length s, .int .i64 (e1 + f1)] u fun r w' => (∃ v, r = .returned (.tuple #[.agg #[.bool dn, v, .int .i64 de], .int .i64 er]) ∧ Nt u.heap.size w' v V) ∧ Below u.heap.size u w')) : Calls Tryz.prog 57 #[.agg #[.bool n, .slice a l c, .int .i64 e], .agg #[.bool m, .slice b k d, .int .i64 f]] w fun r w' => (∃ v, r = .returned (.tuple #[.agg #[.bool dn, v, .int .i64 de], .int .i64 er]) ∧ Nt w.heap.size w' v V) ∧ Below w.heap.size w w' := by
  obtain ⟨W1, hW1⟩ : ∃ W, W = ((w.alloc (.cells #[.bool n, .slice a l c, .int .i64 e] 37)).alloc (.cells #[.bool m, .slice b k d, .int .i64 f] 37)).alloc (.cells #[.bool false, .slice none 0 0, .int .i64 0] 37) := ⟨_, rfl⟩
  obtain ⟨hB, hz1, DA, DB, DR⟩ := add_begin w n m (.slice a l c) (.slice b k d) e f W1 hW1
  have H1 := hid (HFM.out W1 hB)
  have SB := (Aside.intro (And.intro hB (And.intro hz1 (And.intro DA (And.intro DB DR)))))
  clear hB hz1 DA DB DR HFM
  go_enter Tryz.func57, Tryz.ntmps57
  go_wp2_with fail
  rw [← hW1]
  clear hW1
  refine (Calls.mono H1.out) ?_
  rintro r u1 ⟨v, v', rfl, hN, hM, hb⟩
  obtain ⟨a1, c1, rfl, _⟩ := hN.arg (by omega)
  obtain ⟨a2, c2, rfl, _⟩ := hM.arg (by omega)
  obtain ⟨hB, hz1, DA, DB, DR⟩ := SB.out
  have EA := DA.below hb
  have EB := DB.below hb
  have ER := DR.below hb
  obtain ⟨x0, x1, x2, xf0, xf1, xf2⟩ := EA.facts
  obtain ⟨y0, y1, y2, yf0, yf1, yf2⟩ := EB.facts
  obtain ⟨r0, r1, r2, rf0, rf1, rf2⟩ := ER.facts
  have FX := Aside.intro (show Fin w.heap.size (w.heap.size + 3) w u1 (.slice a1 (ws X).length c1) X from ⟨by rw [← hz1]; exact hN, hB.trans (hb.mono (by omega)), by have := hb.size; omega⟩)
  have FY := Aside.intro (show Fin w.heap.size (w.heap.size + 3) w u1 (.slice a2 (ws Y).length c2) Y from ⟨by rw [← hz1]; exact hM, hB.trans (hb.mono (by omega)), by have := hb.size; omega⟩)
  have SE := (Aside.intro (And.intro EA (And.intro EB ER)))
  clear hN hM hb H1 hB hz1 DA DB DR EA EB ER SB
  obtain ⟨EA, EB, ER⟩ := SE.out
  obtain ⟨U1, hU1⟩ : ∃ U, U = st3 (st3 u1 w.heap.size (.bool n1) (.slice a1 (ws X).length c1) (.int .i64 e1)) (w.heap.size + 1) (.bool m1) (.slice a2 (ws Y).length c2) (.int .i64 f1) := ⟨_, rfl⟩
  have IA : Dk U1 w.heap.size n1 (.slice a1 (ws X).length c1) e1 := by rw [hU1]; exact ((EA.set _ _ _).other _ (by omega) _ _ _)
  have IB : Dk U1 (w.heap.size + 1) m1 (.slice a2 (ws Y).length c2) f1 := by rw [hU1]; exact ((EB.other _ (by omega) _ _ _).set _ _ _)
  have IR : Dk U1 (w.heap.size + 1 + 1) false (.slice none 0 0) 0 := by rw [hU1]; exact ((ER.other _ (by omega) _ _ _).other _ (by omega) _ _ _)
  have GX : Fin w.heap.size (w.heap.size + 3) w U1 (.slice a1 (ws X).length c1) X := by rw [hU1]; exact (Fin.st3 (Fin.st3 FX.out _ _ _ _ (by omega) (by omega)) _ _ _ _ (by omega) (by omega))
  have GY : Fin w.heap.size (w.heap.size + 3) w U1 (.slice a2 (ws Y).length c2) Y := by rw [hU1]; exact (Fin.st3 (Fin.st3 FY.out _ _ _ _ (by omega) (by omega)) _ _ _ _ (by omega) (by omega))
  have H2 := hid (HSH.out U1 a1 c1 a2 c2 GX.bel (GX.nt.arg' (by omega)).2 (GY.nt.arg' (by omega)).2)
  have S1 := (Aside.intro (And.intro IA (And.intro IB (And.intro IR (And.intro GX GY)))))
  have hzU : w.heap.size + 3 ≤ U1.heap.size := by have := IR.lt; omega
  clear EA EB ER IA IB IR GX GY SE HSH
  unfold st3 at hU1
  go_wp2_with fail
  rw [← hU1]
  clear hU1 x0 x1 x2 xf0 xf1 xf2 y0 y1 y2 yf0 yf1 yf2 r0 r1 r2 rf0 rf1 rf2
  refine (Calls.mono H2.out) ?_
  rintro r u2 ⟨v, rfl, hN, hb⟩
  obtain ⟨a3, c3, rfl, _⟩ := hN.arg (by omega)
  obtain ⟨IA, IB, IR, GX, GY⟩ := S1.out
  obtain ⟨x0, x1, x2, xf0, xf1, xf2⟩ := (IA.below hb).facts
  obtain ⟨y0, y1, y2, yf0, yf1, yf2⟩ := (IB.below hb).facts
  obtain ⟨r0, r1, r2, rf0, rf1, rf2⟩ := (IR.below hb).facts
  have H3 := hid (HT.out u2 a3 c3 (GX.below hb).bel (hN.arg' (by omega)).2)
  have S2 := (Aside.intro (And.intro (IR.below hb) (GX.below hb)))
  have hz2 : w.heap.size + 3 ≤ u2.heap.size := by have := hb.size; omega
  clear hN hb H2 S1 IA IB IR GX GY HT
  go_wp2_with fail
  refine (Calls.mono H3.out) ?_
  rintro r u3 ⟨⟨v, rfl, hN⟩, hb⟩
  obtain ⟨a4, c4, rfl, _⟩ := hN.arg (by omega)
  have IR := S2.out.1.below hb
  obtain ⟨s0, s1, s2, sf0, sf1, sf2⟩ := IR.facts
  have FV := Aside.intro (show Fin w.heap.size (w.heap.size + 3) w u3 (.slice a4 (ws V).length c4) V from ⟨hN.mono hz2, (S2.out.2.below hb).bel, by have := hb.size; omega⟩)
  have S3 := Aside.intro IR
  clear hN hb IR H3 S2
  go_wp2
  refine bodyPost_ret (mul_res _ (w.heap.size + 1 + 1) dn (.slice a4 (ws V).length c4) de er _ rfl rfl (S3.out.set _ _ _)) rfl ?_
  refine Fin.dans (m := w.heap.size + 3) ?_ (by omega)
  repeat (with_reducible first | exact FV.out | refine Fin.drew ?_ | refine Fin.alloc ?_ _ | refine Fin.set ?_ _ _ _ (by omega) (by omega))


/-- The product of two forms. -/
def mulF (x y : Bool × Nat × Int) : Option (Bool × Nat × Int) := mkS (x.1 != y.1) (x.2.1 * y.2.1) (x.2.2 + y.2.2)
def mulD (o p : Option (Bool × Nat × Int)) : Option (Bool × Nat × Int) :=
  match o, p with
  | some x, some y => mulF x y
  | _, _ => none

theorem Mul_one {w : World} {p q : Option Addr} {s t X Y : Nat} (L : Nat) (er : Int) (hA : Arg w p (ws X).length s (ws X)) (hB : Arg w q (ws Y).length t (ws Y)) (h : mulS X Y = (L, er)) :
    Calls Tryz.prog 95 #[.slice p (ws X).length s, .slice q (ws Y).length t] w fun r w' => ∃ v, r = .returned (.tuple #[v, .int .i64 er]) ∧ Nt w.heap.size w' v L ∧ Below w.heap.size w w' := by
  have := Mul_any (ws X) (ws Y) p q (ws X).length s (ws Y).length t w.heap.size w hA.len hB.len hA.cap hB.cap (by have := hA.big; omega) (by have := hB.big; omega) hA.wf hB.wf hA.rd hB.rd (Nat.le_refl _)
  rw [val_ws, val_ws, h] at this
  exact this.mono fun r w' ⟨⟨v, h1, h2⟩, h3⟩ => ⟨v, h1, h2, h3⟩

theorem lo_odd1 {X : Nat} (h : X % 2 = 1) : lo X = 0 := by
  have := lo_eq 0 (X / 2)
  rw [show 2 ^ 0 * (2 * (X / 2) + 1) = X by omega] at this
  exact this

theorem Mul_any3 {w : World} {a b : Option Addr} {l c k d : Nat} {xs ys : List Nat} (h1 : Arg w a l c xs) (h2 : Arg w b k d ys) (hT : Tab w) (n m : Bool) (e f : Int) (he0 : -9223372036854775808 ≤ e) (he1 : e ≤ 9223372036854775807) (hf0 : -9223372036854775808 ≤ f) (hf1 : f ≤ 9223372036854775807) :
    Calls Tryz.prog 57 #[.agg #[.bool n, .slice a l c, .int .i64 e], .agg #[.bool m, .slice b k d, .int .i64 f]] w fun r w' => DAns w.heap.size w' r (mulD (mkS n (val xs) e) (mkS m (val ys) f)) ∧ Below w.heap.size w w' := by
  have zero : ∀ {r : Ending} {w' : World}, (r = .returned (.tuple #[.agg #[.bool false, .slice none 0 0, .int .i64 0], .int .i64 2]) ∧ Below w.heap.size w w') → DAns w.heap.size w' r none ∧ Below w.heap.size w w' := fun ⟨h1, h2⟩ => ⟨⟨_, h1, Nt.nil _ _⟩, h2⟩
  cases hx : mkS n (val xs) e with
  | none =>
    exact (mul_bad n m e f (hid fun u hu => forms_bad1 (h1.below hu) (h2.below hu) (hT.belows hu) n m e f he0 he1 hf0 hf1 hx)).mono fun r w' h => zero h
  | some x =>
    obtain ⟨n1, X, e1⟩ := x
    cases hy : mkS m (val ys) f with
    | none =>
      exact (mul_bad n m e f (hid fun u hu => forms_bad2 (h1.below hu) (h2.below hu) (hT.belows hu) n m e f he0 he1 hf0 hf1 n1 X e1 hx hy)).mono fun r w' h => zero h
    | some y =>
      obtain ⟨m1, Y, f1⟩ := y
      have HFM := hid fun u (hu : Below w.heap.size w u) => forms_ok (h1.below hu) (h2.below hu) (hT.belows hu) n m e f he0 he1 hf0 hf1 n1 m1 X Y e1 f1 hx hy
      have FX := mkS_frm hx
      have FY := mkS_frm hy
      have lX := frm_len FX
      have lY := frm_len FY
      have := FX.up; have := FX.down; have := FY.up; have := FY.down
      show Calls _ _ _ _ fun r w' => DAns w.heap.size w' r (mkS (n1 != m1) (X * Y) (e1 + f1)) ∧ _
      by_cases hL : LG (X * Y)
      · have hs : mulS X Y = (0, 2) := by unfold mulS; rw [if_neg (by intro h; rcases h with h | h; exact notLG FX.size h; exact notLG FY.size h), if_pos hL]
        have hno : mkS (n1 != m1) (X * Y) (e1 + f1) = none := by
          have hb := (LG_bl _).1 hL
          have h0 : X * Y ≠ 0 := by intro h; rw [h, bl_zero] at hb; omega
          have oX : X % 2 = 1 := by rcases FX.odd with h | h; exact h; rw [h.1, Nat.zero_mul] at h0; exact absurd rfl h0
          have oY : Y % 2 = 1 := by rcases FY.odd with h | h; exact h; rw [h.1, Nat.mul_zero] at h0; exact absurd rfl h0
          have hlo : lo (X * Y) = 0 := lo_odd1 (by rw [Nat.mul_mod, oX, oY])
          unfold mkS
          rw [if_neg h0, if_pos (.inl (by rw [hlo]; omega))]
        rw [hno]
        exact (mul_long n m e f n1 m1 X Y e1 f1 lX lY (by omega) (by omega) (by omega) (by omega) HFM (hid fun u p q p2 q2 hu hA hB => Mul_one 0 2 hA hB hs)).mono fun r w' h => zero h
      · have hs : mulS X Y = (X * Y, 0) := by unfold mulS; rw [if_neg (by intro h; rcases h with h | h; exact notLG FX.size h; exact notLG FY.size h), if_neg hL]
        obtain ⟨L, hLe⟩ : ∃ L, X * Y = L := ⟨_, rfl⟩
        rw [hLe] at hs hL ⊢
        have lL : (ws L).length ≤ 8192 := by unfold LG at hL; omega
        exact mul_ok n m e f n1 m1 X Y e1 f1 lX lY (by omega) (by omega) (by omega) (by omega) HFM L lL _ _ _ _ (mkS_len (n1 != m1) L (e1 + f1)) (hid fun u p q p2 q2 hu hA hB => Mul_one L 0 hA hB hs)
          (hid fun u p s hu hA => by have := Make_any hA (hT.belows hu) (n1 != m1) (e1 + f1) (by omega) (by omega); rw [val_ws] at this; exact this)
end Go.Proofs.YteoednbmhiblfaaGreatDoor

/- The document's Mul. -/
namespace Go.Proofs.YteoednbmhiblfaaGreatDoor
open Go.RowKit
set_option linter.unusedVariables false
set_option maxRecDepth 20000
set_option linter.unusedSimpArgs false

theorem wrap64 (x : Int) (h0 : -9223372036854775808 ≤ x) (h1 : x ≤ 9223372036854775807) : IntKind.i64.wrap x = x := by rw [IntKind.wrap_i64]; omega

end Go.Proofs.YteoednbmhiblfaaGreatDoor

/- The document's Add. -/
namespace Go.Proofs.YteoednbmhiblfaaGreatDoor
open Go.RowKit
set_option linter.unusedVariables false
set_option maxRecDepth 20000
set_option linter.unusedSimpArgs false

theorem radd_res (W : World) (g : Nat) (n : Bool) (v : Value) (e k : Int) (tmps : Array Value) (ht : tmps[4]?.getD undef = .pointer (some ⟨g, 0, none⟩)) (hk : tmps[5]?.getD undef = .int .i64 k) (D : Dk W g n v e) :
    (results Tryz.f77 tmps).run Tryz.prog W = .ok (.tuple #[.agg #[.bool n, v, .int .i64 e], .int .i64 k]) W := by
  obtain ⟨x0, x1, x2, xf0, xf1, xf2⟩ := D.facts
  simp [results, Tryz.results77, ht, hk, go_sem, x0, x1, x2]

set_option maxHeartbeats 4000000 in
theorem radd_ff {w : World} {a b : Option Addr} {l c k d : Nat} (n m : Bool) (e f : Int) (n1 m1 : Bool) (X Y : Nat) (e1 f1 : Int) (lX : (ws X).length ≤ 8192) (lY : (ws Y).length ≤ 8192)
    (HF1 : Hid (∀ u, Below w.heap.size w u → Calls Tryz.prog 116 #[.agg #[.bool n, .slice a l c, .int .i64 e]] u fun r w' => (∃ v, r = .returned (.tuple #[.agg #[.bool n1, v, .int .i64 e1], .bool false]) ∧ Nt u.heap.size w' v X) ∧ Below u.heap.size u w'))
    (HF2 : Hid (∀ u, Below w.heap.size w u → Calls Tryz.prog 116 #[.agg #[.bool m, .slice b k d, .int .i64 f]] u fun r w' => (∃ v, r = .returned (.tuple #[.agg #[.bool m1, v, .int .i64 f1], .bool false]) ∧ Nt u.heap.size w' v Y) ∧ Below u.heap.size u w')) : Calls Tryz.prog 77 #[.agg #[.bool n, .slice a l c, .int .i64 e], .agg #[.bool m, .slice b k d, .int .i64 f]] w fun r w' => r = .returned (.tuple #[.agg #[.bool false, .slice none 0 0, .int .i64 0], .int .i64 2]) ∧ Below w.heap.size w w' := by
  obtain ⟨W1, hW1⟩ : ∃ W, W = ((w.alloc (.cells #[.bool n, .slice a l c, .int .i64 e] 37)).alloc (.cells #[.bool m, .slice b k d, .int .i64 f] 37)).alloc (.cells #[.bool false, .slice none 0 0, .int .i64 0] 37) := ⟨_, rfl⟩
  obtain ⟨hB, hz1, DA, DB, DR⟩ := add_begin w n m (.slice a l c) (.slice b k d) e f W1 hW1
  have H1 := hid (HF1.out W1 hB)
  have SB := (Aside.intro (And.intro hB (And.intro hz1 (And.intro DA (And.intro DB DR)))))
  clear hB hz1 DA DB DR HF1
  go_enter Tryz.func77, Tryz.ntmps77
  go_wp2_with fail
  rw [← hW1]
  clear hW1
  refine (Calls.mono H1.out) ?_
  rintro r u1 ⟨⟨v, rfl, hN⟩, hb⟩
  obtain ⟨a1, c1, rfl, _⟩ := hN.arg (by omega)
  obtain ⟨hB, hz1, DA, DB, DR⟩ := SB.out
  obtain ⟨U1, hU1⟩ : ∃ U, U = u1.alloc (.cells #[.bool n1, .slice a1 (ws X).length c1, .int .i64 e1] 37) := ⟨_, rfl⟩
  have hA : Below u1.heap.size u1 U1 := by rw [hU1]; exact below_alloc _ _
  have hs1 : w.heap.size + 3 ≤ u1.heap.size := by have := hb.size; omega
  have hs2 : u1.heap.size < U1.heap.size := by rw [hU1]; simp
  have FB := (DB.below hb).below hA
  have FR := (DR.below hb).below hA
  have DX : Dk U1 u1.heap.size n1 (.slice a1 (ws X).length c1) e1 := by rw [hU1]; exact Dk.new _ _ _ _
  have NX : Nt (w.heap.size + 3) U1 (.slice a1 (ws X).length c1) X := (hN.mono (by omega)).below hA
  have BU : Below w.heap.size w U1 := (hB.trans (hb.mono (by omega))).trans (hA.mono (by omega))
  have H2 := hid (HF2.out U1 BU)
  obtain ⟨y0, y1, y2, yf0, yf1, yf2⟩ := FB.facts
  have S1 := (Aside.intro (And.intro BU (And.intro FR (And.intro DX NX))))
  clear hN hb H1 hB hz1 hA DA DB DR FB FR DX NX BU SB HF2
  go_upto_region 2 with fail
  rw [← hU1]
  clear hU1
  go_wp2_with fail
  clear y0 y1 y2 yf0 yf1 yf2
  refine (Calls.mono H2.out) ?_
  rintro r u2 ⟨⟨v, rfl, hM⟩, hb⟩
  obtain ⟨a2, c2, rfl, _⟩ := hM.arg (by omega)
  obtain ⟨BU, FR, DX, NX⟩ := S1.out
  obtain ⟨U2, hU2⟩ : ∃ U, U = u2.alloc (.cells #[.bool m1, .slice a2 (ws Y).length c2, .int .i64 f1] 37) := ⟨_, rfl⟩
  have hA : Below u2.heap.size u2 U2 := by rw [hU2]; exact below_alloc _ _
  have hs3 : U1.heap.size ≤ u2.heap.size := hb.size
  have hs4 : u2.heap.size < U2.heap.size := by rw [hU2]; simp
  have GR := (FR.below hb).below hA
  have GX := (DX.below hb).below hA
  have GY : Dk U2 u2.heap.size m1 (.slice a2 (ws Y).length c2) f1 := by rw [hU2]; exact Dk.new _ _ _ _
  have MX := (NX.below hb).below hA
  have MY : Nt (w.heap.size + 3) U2 (.slice a2 (ws Y).length c2) Y := (hM.mono (by omega)).below hA
  have BV : Below w.heap.size w U2 := (BU.trans (hb.mono (by omega))).trans (hA.mono (by omega))
  have S2 := (Aside.intro (And.intro BV (And.intro GR (And.intro GX (And.intro GY (And.intro MX MY))))))
  clear hM hb H2 hA FR DX NX BU GR GX GY MX MY BV S1
  go_upto_region 3 with fail
  rw [← hU2]
  clear hU2
  obtain ⟨r0, r1, r2, rf0, rf1, rf2⟩ := S2.out.2.1.facts
  obtain ⟨x0, x1, x2, xf0, xf1, xf2⟩ := S2.out.2.2.1.facts
  obtain ⟨y0, y1, y2, yf0, yf1, yf2⟩ := S2.out.2.2.2.1.facts
  go_wp2
  refine bodyPost_ret (radd_res _ (w.heap.size + 1 + 1) false (.slice none 0 0) 0 2 _ rfl rfl (S2.out.2.1.set _ _ _)) rfl ⟨rfl, ?_⟩
  refine Fin.bel (m := w.heap.size + 3) (v := .slice a1 (ws X).length c1) (X := X) ?_
  have FE : Fin w.heap.size (w.heap.size + 3) w U2 (.slice a1 (ws X).length c1) X := ⟨S2.out.2.2.2.2.1, S2.out.1, by omega⟩
  repeat (with_reducible first | exact FE | refine Fin.drew ?_ | refine Fin.alloc ?_ _ | refine Fin.set ?_ _ _ _ (by omega) (by omega))

set_option maxHeartbeats 4000000 in
theorem radd_ft {w : World} {a b : Option Addr} {l c k d : Nat} (n m : Bool) (e f : Int) (n1 m1 : Bool) (X Y : Nat) (e1 f1 : Int) (lX : (ws X).length ≤ 8192) (lY : (ws Y).length ≤ 8192)
    (HF1 : Hid (∀ u, Below w.heap.size w u → Calls Tryz.prog 116 #[.agg #[.bool n, .slice a l c, .int .i64 e]] u fun r w' => (∃ v, r = .returned (.tuple #[.agg #[.bool n1, v, .int .i64 e1], .bool false]) ∧ Nt u.heap.size w' v X) ∧ Below u.heap.size u w'))
    (HF2 : Hid (∀ u, Below w.heap.size w u → Calls Tryz.prog 116 #[.agg #[.bool m, .slice b k d, .int .i64 f]] u fun r w' => (∃ v, r = .returned (.tuple #[.agg #[.bool m1, v, .int .i64 f1], .bool true]) ∧ Nt u.heap.size w' v Y) ∧ Below u.heap.size u w')) : Calls Tryz.prog 77 #[.agg #[.bool n, .slice a l c, .int .i64 e], .agg #[.bool m, .slice b k d, .int .i64 f]] w fun r w' => r = .returned (.tuple #[.agg #[.bool false, .slice none 0 0, .int .i64 0], .int .i64 2]) ∧ Below w.heap.size w w' := by
  obtain ⟨W1, hW1⟩ : ∃ W, W = ((w.alloc (.cells #[.bool n, .slice a l c, .int .i64 e] 37)).alloc (.cells #[.bool m, .slice b k d, .int .i64 f] 37)).alloc (.cells #[.bool false, .slice none 0 0, .int .i64 0] 37) := ⟨_, rfl⟩
  obtain ⟨hB, hz1, DA, DB, DR⟩ := add_begin w n m (.slice a l c) (.slice b k d) e f W1 hW1
  have H1 := hid (HF1.out W1 hB)
  have SB := (Aside.intro (And.intro hB (And.intro hz1 (And.intro DA (And.intro DB DR)))))
  clear hB hz1 DA DB DR HF1
  go_enter Tryz.func77, Tryz.ntmps77
  go_wp2_with fail
  rw [← hW1]
  clear hW1
  refine (Calls.mono H1.out) ?_
  rintro r u1 ⟨⟨v, rfl, hN⟩, hb⟩
  obtain ⟨a1, c1, rfl, _⟩ := hN.arg (by omega)
  obtain ⟨hB, hz1, DA, DB, DR⟩ := SB.out
  obtain ⟨U1, hU1⟩ : ∃ U, U = u1.alloc (.cells #[.bool n1, .slice a1 (ws X).length c1, .int .i64 e1] 37) := ⟨_, rfl⟩
  have hA : Below u1.heap.size u1 U1 := by rw [hU1]; exact below_alloc _ _
  have hs1 : w.heap.size + 3 ≤ u1.heap.size := by have := hb.size; omega
  have hs2 : u1.heap.size < U1.heap.size := by rw [hU1]; simp
  have FB := (DB.below hb).below hA
  have FR := (DR.below hb).below hA
  have DX : Dk U1 u1.heap.size n1 (.slice a1 (ws X).length c1) e1 := by rw [hU1]; exact Dk.new _ _ _ _
  have NX : Nt (w.heap.size + 3) U1 (.slice a1 (ws X).length c1) X := (hN.mono (by omega)).below hA
  have BU : Below w.heap.size w U1 := (hB.trans (hb.mono (by omega))).trans (hA.mono (by omega))
  have H2 := hid (HF2.out U1 BU)
  obtain ⟨y0, y1, y2, yf0, yf1, yf2⟩ := FB.facts
  have S1 := (Aside.intro (And.intro BU (And.intro FR (And.intro DX NX))))
  clear hN hb H1 hB hz1 hA DA DB DR FB FR DX NX BU SB HF2
  go_upto_region 2 with fail
  rw [← hU1]
  clear hU1
  go_wp2_with fail
  clear y0 y1 y2 yf0 yf1 yf2
  refine (Calls.mono H2.out) ?_
  rintro r u2 ⟨⟨v, rfl, hM⟩, hb⟩
  obtain ⟨a2, c2, rfl, _⟩ := hM.arg (by omega)
  obtain ⟨BU, FR, DX, NX⟩ := S1.out
  obtain ⟨U2, hU2⟩ : ∃ U, U = u2.alloc (.cells #[.bool m1, .slice a2 (ws Y).length c2, .int .i64 f1] 37) := ⟨_, rfl⟩
  have hA : Below u2.heap.size u2 U2 := by rw [hU2]; exact below_alloc _ _
  have hs3 : U1.heap.size ≤ u2.heap.size := hb.size
  have hs4 : u2.heap.size < U2.heap.size := by rw [hU2]; simp
  have GR := (FR.below hb).below hA
  have GX := (DX.below hb).below hA
  have GY : Dk U2 u2.heap.size m1 (.slice a2 (ws Y).length c2) f1 := by rw [hU2]; exact Dk.new _ _ _ _
  have MX := (NX.below hb).below hA
  have MY : Nt (w.heap.size + 3) U2 (.slice a2 (ws Y).length c2) Y := (hM.mono (by omega)).below hA
  have BV : Below w.heap.size w U2 := (BU.trans (hb.mono (by omega))).trans (hA.mono (by omega))
  have S2 := (Aside.intro (And.intro BV (And.intro GR (And.intro GX (And.intro GY (And.intro MX MY))))))
  clear hM hb H2 hA FR DX NX BU GR GX GY MX MY BV S1
  go_upto_region 3 with fail
  rw [← hU2]
  clear hU2
  obtain ⟨r0, r1, r2, rf0, rf1, rf2⟩ := S2.out.2.1.facts
  obtain ⟨x0, x1, x2, xf0, xf1, xf2⟩ := S2.out.2.2.1.facts
  obtain ⟨y0, y1, y2, yf0, yf1, yf2⟩ := S2.out.2.2.2.1.facts
  go_wp2
  refine bodyPost_ret (radd_res _ (w.heap.size + 1 + 1) false (.slice none 0 0) 0 2 _ rfl rfl (S2.out.2.1.set _ _ _)) rfl ⟨rfl, ?_⟩
  refine Fin.bel (m := w.heap.size + 3) (v := .slice a1 (ws X).length c1) (X := X) ?_
  have FE : Fin w.heap.size (w.heap.size + 3) w U2 (.slice a1 (ws X).length c1) X := ⟨S2.out.2.2.2.2.1, S2.out.1, by omega⟩
  repeat (with_reducible first | exact FE | refine Fin.drew ?_ | refine Fin.alloc ?_ _ | refine Fin.set ?_ _ _ _ (by omega) (by omega))

set_option maxHeartbeats 4000000 in
theorem radd_tf {w : World} {a b : Option Addr} {l c k d : Nat} (n m : Bool) (e f : Int) (n1 m1 : Bool) (X Y : Nat) (e1 f1 : Int) (lX : (ws X).length ≤ 8192) (lY : (ws Y).length ≤ 8192)
    (HF1 : Hid (∀ u, Below w.heap.size w u → Calls Tryz.prog 116 #[.agg #[.bool n, .slice a l c, .int .i64 e]] u fun r w' => (∃ v, r = .returned (.tuple #[.agg #[.bool n1, v, .int .i64 e1], .bool true]) ∧ Nt u.heap.size w' v X) ∧ Below u.heap.size u w'))
    (HF2 : Hid (∀ u, Below w.heap.size w u → Calls Tryz.prog 116 #[.agg #[.bool m, .slice b k d, .int .i64 f]] u fun r w' => (∃ v, r = .returned (.tuple #[.agg #[.bool m1, v, .int .i64 f1], .bool false]) ∧ Nt u.heap.size w' v Y) ∧ Below u.heap.size u w')) : Calls Tryz.prog 77 #[.agg #[.bool n, .slice a l c, .int .i64 e], .agg #[.bool m, .slice b k d, .int .i64 f]] w fun r w' => r = .returned (.tuple #[.agg #[.bool false, .slice none 0 0, .int .i64 0], .int .i64 2]) ∧ Below w.heap.size w w' := by
  obtain ⟨W1, hW1⟩ : ∃ W, W = ((w.alloc (.cells #[.bool n, .slice a l c, .int .i64 e] 37)).alloc (.cells #[.bool m, .slice b k d, .int .i64 f] 37)).alloc (.cells #[.bool false, .slice none 0 0, .int .i64 0] 37) := ⟨_, rfl⟩
  obtain ⟨hB, hz1, DA, DB, DR⟩ := add_begin w n m (.slice a l c) (.slice b k d) e f W1 hW1
  have H1 := hid (HF1.out W1 hB)
  have SB := (Aside.intro (And.intro hB (And.intro hz1 (And.intro DA (And.intro DB DR)))))
  clear hB hz1 DA DB DR HF1
  go_enter Tryz.func77, Tryz.ntmps77
  go_wp2_with fail
  rw [← hW1]
  clear hW1
  refine (Calls.mono H1.out) ?_
  rintro r u1 ⟨⟨v, rfl, hN⟩, hb⟩
  obtain ⟨a1, c1, rfl, _⟩ := hN.arg (by omega)
  obtain ⟨hB, hz1, DA, DB, DR⟩ := SB.out
  obtain ⟨U1, hU1⟩ : ∃ U, U = u1.alloc (.cells #[.bool n1, .slice a1 (ws X).length c1, .int .i64 e1] 37) := ⟨_, rfl⟩
  have hA : Below u1.heap.size u1 U1 := by rw [hU1]; exact below_alloc _ _
  have hs1 : w.heap.size + 3 ≤ u1.heap.size := by have := hb.size; omega
  have hs2 : u1.heap.size < U1.heap.size := by rw [hU1]; simp
  have FB := (DB.below hb).below hA
  have FR := (DR.below hb).below hA
  have DX : Dk U1 u1.heap.size n1 (.slice a1 (ws X).length c1) e1 := by rw [hU1]; exact Dk.new _ _ _ _
  have NX : Nt (w.heap.size + 3) U1 (.slice a1 (ws X).length c1) X := (hN.mono (by omega)).below hA
  have BU : Below w.heap.size w U1 := (hB.trans (hb.mono (by omega))).trans (hA.mono (by omega))
  have H2 := hid (HF2.out U1 BU)
  obtain ⟨y0, y1, y2, yf0, yf1, yf2⟩ := FB.facts
  have S1 := (Aside.intro (And.intro BU (And.intro FR (And.intro DX NX))))
  clear hN hb H1 hB hz1 hA DA DB DR FB FR DX NX BU SB HF2
  go_upto_region 2 with fail
  rw [← hU1]
  clear hU1
  go_wp2_with fail
  clear y0 y1 y2 yf0 yf1 yf2
  refine (Calls.mono H2.out) ?_
  rintro r u2 ⟨⟨v, rfl, hM⟩, hb⟩
  obtain ⟨a2, c2, rfl, _⟩ := hM.arg (by omega)
  obtain ⟨BU, FR, DX, NX⟩ := S1.out
  obtain ⟨U2, hU2⟩ : ∃ U, U = u2.alloc (.cells #[.bool m1, .slice a2 (ws Y).length c2, .int .i64 f1] 37) := ⟨_, rfl⟩
  have hA : Below u2.heap.size u2 U2 := by rw [hU2]; exact below_alloc _ _
  have hs3 : U1.heap.size ≤ u2.heap.size := hb.size
  have hs4 : u2.heap.size < U2.heap.size := by rw [hU2]; simp
  have GR := (FR.below hb).below hA
  have GX := (DX.below hb).below hA
  have GY : Dk U2 u2.heap.size m1 (.slice a2 (ws Y).length c2) f1 := by rw [hU2]; exact Dk.new _ _ _ _
  have MX := (NX.below hb).below hA
  have MY : Nt (w.heap.size + 3) U2 (.slice a2 (ws Y).length c2) Y := (hM.mono (by omega)).below hA
  have BV : Below w.heap.size w U2 := (BU.trans (hb.mono (by omega))).trans (hA.mono (by omega))
  have S2 := (Aside.intro (And.intro BV (And.intro GR (And.intro GX (And.intro GY (And.intro MX MY))))))
  clear hM hb H2 hA FR DX NX BU GR GX GY MX MY BV S1
  go_upto_region 3 with fail
  rw [← hU2]
  clear hU2
  obtain ⟨r0, r1, r2, rf0, rf1, rf2⟩ := S2.out.2.1.facts
  obtain ⟨x0, x1, x2, xf0, xf1, xf2⟩ := S2.out.2.2.1.facts
  obtain ⟨y0, y1, y2, yf0, yf1, yf2⟩ := S2.out.2.2.2.1.facts
  go_wp2
  refine bodyPost_ret (radd_res _ (w.heap.size + 1 + 1) false (.slice none 0 0) 0 2 _ rfl rfl (S2.out.2.1.set _ _ _)) rfl ⟨rfl, ?_⟩
  refine Fin.bel (m := w.heap.size + 3) (v := .slice a1 (ws X).length c1) (X := X) ?_
  have FE : Fin w.heap.size (w.heap.size + 3) w U2 (.slice a1 (ws X).length c1) X := ⟨S2.out.2.2.2.2.1, S2.out.1, by omega⟩
  repeat (with_reducible first | exact FE | refine Fin.drew ?_ | refine Fin.alloc ?_ _ | refine Fin.set ?_ _ _ _ (by omega) (by omega))

set_option maxHeartbeats 4000000 in
theorem radd_left {w : World} {a b : Option Addr} {l c k d : Nat} (n m : Bool) (e f : Int) (n1 m1 : Bool) (X Y : Nat) (e1 f1 : Int) (lX : (ws X).length ≤ 8192) (lY : (ws Y).length ≤ 8192) (hX : (ws X).length = 0)
    (HF1 : Hid (∀ u, Below w.heap.size w u → Calls Tryz.prog 116 #[.agg #[.bool n, .slice a l c, .int .i64 e]] u fun r w' => (∃ v, r = .returned (.tuple #[.agg #[.bool n1, v, .int .i64 e1], .bool true]) ∧ Nt u.heap.size w' v X) ∧ Below u.heap.size u w'))
    (HF2 : Hid (∀ u, Below w.heap.size w u → Calls Tryz.prog 116 #[.agg #[.bool m, .slice b k d, .int .i64 f]] u fun r w' => (∃ v, r = .returned (.tuple #[.agg #[.bool m1, v, .int .i64 f1], .bool true]) ∧ Nt u.heap.size w' v Y) ∧ Below u.heap.size u w')) : Calls Tryz.prog 77 #[.agg #[.bool n, .slice a l c, .int .i64 e], .agg #[.bool m, .slice b k d, .int .i64 f]] w fun r w' => DAns w.heap.size w' r (some (m1, Y, f1)) ∧ Below w.heap.size w w' := by
  have HH := Aside.intro hX
  clear hX
  obtain ⟨W1, hW1⟩ : ∃ W, W = ((w.alloc (.cells #[.bool n, .slice a l c, .int .i64 e] 37)).alloc (.cells #[.bool m, .slice b k d, .int .i64 f] 37)).alloc (.cells #[.bool false, .slice none 0 0, .int .i64 0] 37) := ⟨_, rfl⟩
  obtain ⟨hB, hz1, DA, DB, DR⟩ := add_begin w n m (.slice a l c) (.slice b k d) e f W1 hW1
  have H1 := hid (HF1.out W1 hB)
  have SB := (Aside.intro (And.intro hB (And.intro hz1 (And.intro DA (And.intro DB DR)))))
  clear hB hz1 DA DB DR HF1
  go_enter Tryz.func77, Tryz.ntmps77
  go_wp2_with fail
  rw [← hW1]
  clear hW1
  refine (Calls.mono H1.out) ?_
  rintro r u1 ⟨⟨v, rfl, hN⟩, hb⟩
  obtain ⟨a1, c1, rfl, _⟩ := hN.arg (by omega)
  obtain ⟨hB, hz1, DA, DB, DR⟩ := SB.out
  obtain ⟨U1, hU1⟩ : ∃ U, U = u1.alloc (.cells #[.bool n1, .slice a1 (ws X).length c1, .int .i64 e1] 37) := ⟨_, rfl⟩
  have hA : Below u1.heap.size u1 U1 := by rw [hU1]; exact below_alloc _ _
  have hs1 : w.heap.size + 3 ≤ u1.heap.size := by have := hb.size; omega
  have hs2 : u1.heap.size < U1.heap.size := by rw [hU1]; simp
  have FB := (DB.below hb).below hA
  have FR := (DR.below hb).below hA
  have DX : Dk U1 u1.heap.size n1 (.slice a1 (ws X).length c1) e1 := by rw [hU1]; exact Dk.new _ _ _ _
  have NX : Nt (w.heap.size + 3) U1 (.slice a1 (ws X).length c1) X := (hN.mono (by omega)).below hA
  have BU : Below w.heap.size w U1 := (hB.trans (hb.mono (by omega))).trans (hA.mono (by omega))
  have H2 := hid (HF2.out U1 BU)
  obtain ⟨y0, y1, y2, yf0, yf1, yf2⟩ := FB.facts
  have S1 := (Aside.intro (And.intro BU (And.intro FR (And.intro DX NX))))
  clear hN hb H1 hB hz1 hA DA DB DR FB FR DX NX BU SB HF2
  go_upto_region 2 with fail
  rw [← hU1]
  clear hU1
  go_wp2_with fail
  clear y0 y1 y2 yf0 yf1 yf2
  refine (Calls.mono H2.out) ?_
  rintro r u2 ⟨⟨v, rfl, hM⟩, hb⟩
  obtain ⟨a2, c2, rfl, _⟩ := hM.arg (by omega)
  obtain ⟨BU, FR, DX, NX⟩ := S1.out
  obtain ⟨U2, hU2⟩ : ∃ U, U = u2.alloc (.cells #[.bool m1, .slice a2 (ws Y).length c2, .int .i64 f1] 37) := ⟨_, rfl⟩
  have hA : Below u2.heap.size u2 U2 := by rw [hU2]; exact below_alloc _ _
  have hs3 : U1.heap.size ≤ u2.heap.size := hb.size
  have hs4 : u2.heap.size < U2.heap.size := by rw [hU2]; simp
  have GR := (FR.below hb).below hA
  have GX := (DX.below hb).below hA
  have GY : Dk U2 u2.heap.size m1 (.slice a2 (ws Y).length c2) f1 := by rw [hU2]; exact Dk.new _ _ _ _
  have MX := (NX.below hb).below hA
  have MY : Nt (w.heap.size + 3) U2 (.slice a2 (ws Y).length c2) Y := (hM.mono (by omega)).below hA
  have BV : Below w.heap.size w U2 := (BU.trans (hb.mono (by omega))).trans (hA.mono (by omega))
  have S2 := (Aside.intro (And.intro BV (And.intro GR (And.intro GX (And.intro GY (And.intro MX MY))))))
  clear hM hb H2 hA FR DX NX BU GR GX GY MX MY BV S1
  go_upto_region 5 with fail
  rw [← hU2]
  clear hU2
  obtain ⟨r0, r1, r2, rf0, rf1, rf2⟩ := S2.out.2.1.facts
  obtain ⟨x0, x1, x2, xf0, xf1, xf2⟩ := S2.out.2.2.1.facts
  obtain ⟨y0, y1, y2, yf0, yf1, yf2⟩ := S2.out.2.2.2.1.facts
  have hX := HH.out
  go_wp2
  refine bodyPost_ret (radd_res _ (w.heap.size + 1 + 1) m1 (.slice a2 (ws Y).length c2) f1 0 _ rfl rfl (S2.out.2.1.set _ _ _)) rfl ?_
  refine Fin.dans (m := w.heap.size + 3) ?_ (by omega)
  have FE : Fin w.heap.size (w.heap.size + 3) w U2 _ _ := ⟨S2.out.2.2.2.2.2, S2.out.1, by omega⟩
  repeat (with_reducible first | exact FE | refine Fin.drew ?_ | refine Fin.alloc ?_ _ | refine Fin.set ?_ _ _ _ (by omega) (by omega))
  exact FE

set_option maxHeartbeats 4000000 in
theorem radd_right {w : World} {a b : Option Addr} {l c k d : Nat} (n m : Bool) (e f : Int) (n1 m1 : Bool) (X Y : Nat) (e1 f1 : Int) (lX : (ws X).length ≤ 8192) (lY : (ws Y).length ≤ 8192) (hX : ((((ws X).length : Nat) : Int) == 0) = false) (hY : (ws Y).length = 0)
    (HF1 : Hid (∀ u, Below w.heap.size w u → Calls Tryz.prog 116 #[.agg #[.bool n, .slice a l c, .int .i64 e]] u fun r w' => (∃ v, r = .returned (.tuple #[.agg #[.bool n1, v, .int .i64 e1], .bool true]) ∧ Nt u.heap.size w' v X) ∧ Below u.heap.size u w'))
    (HF2 : Hid (∀ u, Below w.heap.size w u → Calls Tryz.prog 116 #[.agg #[.bool m, .slice b k d, .int .i64 f]] u fun r w' => (∃ v, r = .returned (.tuple #[.agg #[.bool m1, v, .int .i64 f1], .bool true]) ∧ Nt u.heap.size w' v Y) ∧ Below u.heap.size u w')) : Calls Tryz.prog 77 #[.agg #[.bool n, .slice a l c, .int .i64 e], .agg #[.bool m, .slice b k d, .int .i64 f]] w fun r w' => DAns w.heap.size w' r (some (n1, X, e1)) ∧ Below w.heap.size w w' := by
  have HH := Aside.intro hY
  clear hY
  obtain ⟨W1, hW1⟩ : ∃ W, W = ((w.alloc (.cells #[.bool n, .slice a l c, .int .i64 e] 37)).alloc (.cells #[.bool m, .slice b k d, .int .i64 f] 37)).alloc (.cells #[.bool false, .slice none 0 0, .int .i64 0] 37) := ⟨_, rfl⟩
  obtain ⟨hB, hz1, DA, DB, DR⟩ := add_begin w n m (.slice a l c) (.slice b k d) e f W1 hW1
  have H1 := hid (HF1.out W1 hB)
  have SB := (Aside.intro (And.intro hB (And.intro hz1 (And.intro DA (And.intro DB DR)))))
  clear hB hz1 DA DB DR HF1
  go_enter Tryz.func77, Tryz.ntmps77
  go_wp2_with fail
  rw [← hW1]
  clear hW1
  refine (Calls.mono H1.out) ?_
  rintro r u1 ⟨⟨v, rfl, hN⟩, hb⟩
  obtain ⟨a1, c1, rfl, _⟩ := hN.arg (by omega)
  obtain ⟨hB, hz1, DA, DB, DR⟩ := SB.out
  obtain ⟨U1, hU1⟩ : ∃ U, U = u1.alloc (.cells #[.bool n1, .slice a1 (ws X).length c1, .int .i64 e1] 37) := ⟨_, rfl⟩
  have hA : Below u1.heap.size u1 U1 := by rw [hU1]; exact below_alloc _ _
  have hs1 : w.heap.size + 3 ≤ u1.heap.size := by have := hb.size; omega
  have hs2 : u1.heap.size < U1.heap.size := by rw [hU1]; simp
  have FB := (DB.below hb).below hA
  have FR := (DR.below hb).below hA
  have DX : Dk U1 u1.heap.size n1 (.slice a1 (ws X).length c1) e1 := by rw [hU1]; exact Dk.new _ _ _ _
  have NX : Nt (w.heap.size + 3) U1 (.slice a1 (ws X).length c1) X := (hN.mono (by omega)).below hA
  have BU : Below w.heap.size w U1 := (hB.trans (hb.mono (by omega))).trans (hA.mono (by omega))
  have H2 := hid (HF2.out U1 BU)
  obtain ⟨y0, y1, y2, yf0, yf1, yf2⟩ := FB.facts
  have S1 := (Aside.intro (And.intro BU (And.intro FR (And.intro DX NX))))
  clear hN hb H1 hB hz1 hA DA DB DR FB FR DX NX BU SB HF2
  go_upto_region 2 with fail
  rw [← hU1]
  clear hU1
  go_wp2_with fail
  clear y0 y1 y2 yf0 yf1 yf2
  refine (Calls.mono H2.out) ?_
  rintro r u2 ⟨⟨v, rfl, hM⟩, hb⟩
  obtain ⟨a2, c2, rfl, _⟩ := hM.arg (by omega)
  obtain ⟨BU, FR, DX, NX⟩ := S1.out
  obtain ⟨U2, hU2⟩ : ∃ U, U = u2.alloc (.cells #[.bool m1, .slice a2 (ws Y).length c2, .int .i64 f1] 37) := ⟨_, rfl⟩
  have hA : Below u2.heap.size u2 U2 := by rw [hU2]; exact below_alloc _ _
  have hs3 : U1.heap.size ≤ u2.heap.size := hb.size
  have hs4 : u2.heap.size < U2.heap.size := by rw [hU2]; simp
  have GR := (FR.below hb).below hA
  have GX := (DX.below hb).below hA
  have GY : Dk U2 u2.heap.size m1 (.slice a2 (ws Y).length c2) f1 := by rw [hU2]; exact Dk.new _ _ _ _
  have MX := (NX.below hb).below hA
  have MY : Nt (w.heap.size + 3) U2 (.slice a2 (ws Y).length c2) Y := (hM.mono (by omega)).below hA
  have BV : Below w.heap.size w U2 := (BU.trans (hb.mono (by omega))).trans (hA.mono (by omega))
  have S2 := (Aside.intro (And.intro BV (And.intro GR (And.intro GX (And.intro GY (And.intro MX MY))))))
  clear hM hb H2 hA FR DX NX BU GR GX GY MX MY BV S1
  go_upto_region 5 with fail
  rw [← hU2]
  clear hU2
  obtain ⟨r0, r1, r2, rf0, rf1, rf2⟩ := S2.out.2.1.facts
  obtain ⟨x0, x1, x2, xf0, xf1, xf2⟩ := S2.out.2.2.1.facts
  obtain ⟨y0, y1, y2, yf0, yf1, yf2⟩ := S2.out.2.2.2.1.facts
  have hY := HH.out
  go_wp2
  refine bodyPost_ret (radd_res _ (w.heap.size + 1 + 1) n1 (.slice a1 (ws X).length c1) e1 0 _ rfl rfl (S2.out.2.1.set _ _ _)) rfl ?_
  refine Fin.dans (m := w.heap.size + 3) ?_ (by omega)
  have FE : Fin w.heap.size (w.heap.size + 3) w U2 _ _ := ⟨S2.out.2.2.2.2.1, S2.out.1, by omega⟩
  repeat (with_reducible first | exact FE | refine Fin.drew ?_ | refine Fin.alloc ?_ _ | refine Fin.set ?_ _ _ _ (by omega) (by omega))
  exact FE

end Go.Proofs.YteoednbmhiblfaaGreatDoor

/- The document's Add. -/
namespace Go.Proofs.YteoednbmhiblfaaGreatDoor
open Go.RowKit
set_option linter.unusedVariables false
set_option maxRecDepth 20000
set_option linter.unusedSimpArgs false

set_option maxHeartbeats 4000000 in
theorem radd_lp {w : World} {a b : Option Addr} {l c k d : Nat} (n m : Bool) (e f : Int) (n1 m1 : Bool) (X Y : Nat) (e1 f1 : Int) (lX : (ws X).length ≤ 8192) (lY : (ws Y).length ≤ 8192) (hX : ((((ws X).length : Nat) : Int) == 0) = false) (hY : ((((ws Y).length : Nat) : Int) == 0) = false) (be0 : -1048576 ≤ e1) (be1 : e1 ≤ 1048576) (bf0 : -1048576 ≤ f1) (bf1 : f1 ≤ 1048576) (g : Int) (hg : min e1 f1 = g) (bg0 : -1048576 ≤ g) (bg1 : g ≤ 1048576) (P Q : Nat) (lP : (ws P).length ≤ 1000000) (lQ : (ws Q).length ≤ 1000000) (h5 : 8192 < (ws P).length)
    (HF1 : Hid (∀ u, Below w.heap.size w u → Calls Tryz.prog 116 #[.agg #[.bool n, .slice a l c, .int .i64 e]] u fun r w' => (∃ v, r = .returned (.tuple #[.agg #[.bool n1, v, .int .i64 e1], .bool true]) ∧ Nt u.heap.size w' v X) ∧ Below u.heap.size u w'))
    (HF2 : Hid (∀ u, Below w.heap.size w u → Calls Tryz.prog 116 #[.agg #[.bool m, .slice b k d, .int .i64 f]] u fun r w' => (∃ v, r = .returned (.tuple #[.agg #[.bool m1, v, .int .i64 f1], .bool true]) ∧ Nt u.heap.size w' v Y) ∧ Below u.heap.size u w'))
    (HP : Hid (∀ (u : World) (v : Value), Below w.heap.size w u → Nt (w.heap.size + 3) u v X → Calls Tryz.prog 117 #[v, .int .i64 (e1 - g)] u fun r w' => ∃ v, r = .returned v ∧ Nt u.heap.size w' v P ∧ Below u.heap.size u w'))
    (HQ : Hid (∀ (u : World) (v : Value), Below w.heap.size w u → Nt (w.heap.size + 3) u v Y → Calls Tryz.prog 117 #[v, .int .i64 (f1 - g)] u fun r w' => ∃ v, r = .returned v ∧ Nt u.heap.size w' v Q ∧ Below u.heap.size u w')) : Calls Tryz.prog 77 #[.agg #[.bool n, .slice a l c, .int .i64 e], .agg #[.bool m, .slice b k d, .int .i64 f]] w fun r w' => r = .returned (.tuple #[.agg #[.bool false, .slice none 0 0, .int .i64 0], .int .i64 2]) ∧ Below w.heap.size w w' := by
  obtain ⟨W1, hW1⟩ : ∃ W, W = ((w.alloc (.cells #[.bool n, .slice a l c, .int .i64 e] 37)).alloc (.cells #[.bool m, .slice b k d, .int .i64 f] 37)).alloc (.cells #[.bool false, .slice none 0 0, .int .i64 0] 37) := ⟨_, rfl⟩
  obtain ⟨hB, hz1, DA, DB, DR⟩ := add_begin w n m (.slice a l c) (.slice b k d) e f W1 hW1
  have H1 := hid (HF1.out W1 hB)
  have SB := (Aside.intro (And.intro hB (And.intro hz1 (And.intro DA (And.intro DB DR)))))
  clear hB hz1 DA DB DR HF1
  go_enter Tryz.func77, Tryz.ntmps77
  go_wp2_with fail
  rw [← hW1]
  clear hW1
  refine (Calls.mono H1.out) ?_
  rintro r u1 ⟨⟨v, rfl, hN⟩, hb⟩
  obtain ⟨a1, c1, rfl, _⟩ := hN.arg (by omega)
  obtain ⟨hB, hz1, DA, DB, DR⟩ := SB.out
  obtain ⟨U1, hU1⟩ : ∃ U, U = u1.alloc (.cells #[.bool n1, .slice a1 (ws X).length c1, .int .i64 e1] 37) := ⟨_, rfl⟩
  have hA : Below u1.heap.size u1 U1 := by rw [hU1]; exact below_alloc _ _
  have hs1 : w.heap.size + 3 ≤ u1.heap.size := by have := hb.size; omega
  have hs2 : u1.heap.size < U1.heap.size := by rw [hU1]; simp
  have FB := (DB.below hb).below hA
  have FR := (DR.below hb).below hA
  have DX : Dk U1 u1.heap.size n1 (.slice a1 (ws X).length c1) e1 := by rw [hU1]; exact Dk.new _ _ _ _
  have NX : Nt (w.heap.size + 3) U1 (.slice a1 (ws X).length c1) X := (hN.mono (by omega)).below hA
  have BU : Below w.heap.size w U1 := (hB.trans (hb.mono (by omega))).trans (hA.mono (by omega))
  have H2 := hid (HF2.out U1 BU)
  obtain ⟨y0, y1, y2, yf0, yf1, yf2⟩ := FB.facts
  have S1 := (Aside.intro (And.intro BU (And.intro FR (And.intro DX NX))))
  clear hN hb H1 hB hz1 hA DA DB DR FB FR DX NX BU SB HF2
  go_upto_region 2 with fail
  rw [← hU1]
  clear hU1
  go_wp2_with fail
  clear y0 y1 y2 yf0 yf1 yf2
  refine (Calls.mono H2.out) ?_
  rintro r u2 ⟨⟨v, rfl, hM⟩, hb⟩
  obtain ⟨a2, c2, rfl, _⟩ := hM.arg (by omega)
  obtain ⟨BU, FR, DX, NX⟩ := S1.out
  obtain ⟨U2, hU2⟩ : ∃ U, U = u2.alloc (.cells #[.bool m1, .slice a2 (ws Y).length c2, .int .i64 f1] 37) := ⟨_, rfl⟩
  have hA : Below u2.heap.size u2 U2 := by rw [hU2]; exact below_alloc _ _
  have hs3 : U1.heap.size ≤ u2.heap.size := hb.size
  have hs4 : u2.heap.size < U2.heap.size := by rw [hU2]; simp
  have GR := (FR.below hb).below hA
  have GX := (DX.below hb).below hA
  have GY : Dk U2 u2.heap.size m1 (.slice a2 (ws Y).length c2) f1 := by rw [hU2]; exact Dk.new _ _ _ _
  have MX := (NX.below hb).below hA
  have MY : Nt (w.heap.size + 3) U2 (.slice a2 (ws Y).length c2) Y := (hM.mono (by omega)).below hA
  have BV : Below w.heap.size w U2 := (BU.trans (hb.mono (by omega))).trans (hA.mono (by omega))
  have S2 := (Aside.intro (And.intro BV (And.intro GR (And.intro GX (And.intro GY (And.intro MX MY))))))
  clear hM hb H2 hA FR DX NX BU GR GX GY MX MY BV S1
  go_upto_region 5 with fail
  rw [← hU2]
  clear hU2
  obtain ⟨r0, r1, r2, rf0, rf1, rf2⟩ := S2.out.2.1.facts
  obtain ⟨x0, x1, x2, xf0, xf1, xf2⟩ := S2.out.2.2.1.facts
  obtain ⟨y0, y1, y2, yf0, yf1, yf2⟩ := S2.out.2.2.2.1.facts
  have H3 := hid (HP.out U2 _ S2.out.1 S2.out.2.2.2.2.1)
  clear HP
  go_wp2_with fail
  clear r0 r1 r2 rf0 rf1 rf2 x0 x1 x2 xf0 xf1 xf2 y0 y1 y2 yf0 yf1 yf2
  refine (Calls.mono H3.out) ?_
  rintro r u5 ⟨v, rfl, hP, hb⟩
  obtain ⟨a5, c5, rfl, _⟩ := hP.arg (by omega)
  obtain ⟨BV, GR, GX, GY, MX, MY⟩ := S2.out
  have hs5 : U2.heap.size ≤ u5.heap.size := hb.size
  have BV5 : Below w.heap.size w u5 := BV.trans (hb.mono (by omega))
  have H4 := hid (HQ.out u5 _ BV5 (MY.below hb))
  have S5 := (Aside.intro (And.intro BV5 (And.intro (GR.below hb) (And.intro (GX.below hb) (And.intro (GY.below hb) (And.intro (MX.below hb) (hP.mono (lo' := w.heap.size + 3) (by omega))))))))
  clear BV GR GX GY MX MY BV5 hP hb H3 S2 HQ
  obtain ⟨r0, r1, r2, rf0, rf1, rf2⟩ := S5.out.2.1.facts
  obtain ⟨x0, x1, x2, xf0, xf1, xf2⟩ := S5.out.2.2.1.facts
  obtain ⟨y0, y1, y2, yf0, yf1, yf2⟩ := S5.out.2.2.2.1.facts
  go_wp2_with fail
  clear r0 r1 r2 rf0 rf1 rf2 x0 x1 x2 xf0 xf1 xf2 y0 y1 y2 yf0 yf1 yf2
  refine (Calls.mono H4.out) ?_
  rintro r u6 ⟨v, rfl, hQ, hb⟩
  obtain ⟨a6, c6, rfl, _⟩ := hQ.arg (by omega)
  obtain ⟨BV, GR, GX, GY, MX, MP⟩ := S5.out
  have hs6 : u5.heap.size ≤ u6.heap.size := hb.size
  have S2 := (Aside.intro (And.intro (BV.trans (hb.mono (by omega))) (And.intro (GR.below hb) (And.intro (GX.below hb) (And.intro (GY.below hb) (And.intro (MP.below hb) (hQ.mono (lo' := w.heap.size + 3) (by omega))))))))
  clear BV GR GX GY MX MP hQ hb H4 S5
  obtain ⟨r0, r1, r2, rf0, rf1, rf2⟩ := S2.out.2.1.facts
  obtain ⟨x0, x1, x2, xf0, xf1, xf2⟩ := S2.out.2.2.1.facts
  obtain ⟨y0, y1, y2, yf0, yf1, yf2⟩ := S2.out.2.2.2.1.facts
  go_wp2
  refine bodyPost_ret (radd_res _ (w.heap.size + 1 + 1) false (.slice none 0 0) 0 2 _ rfl rfl (S2.out.2.1.set _ _ _)) rfl ⟨rfl, ?_⟩
  refine Fin.bel (m := w.heap.size + 3) (v := .slice a5 (ws P).length c5) (X := P) ?_
  have FE : Fin w.heap.size (w.heap.size + 3) w u6 (.slice a5 (ws P).length c5) P := ⟨S2.out.2.2.2.2.1, S2.out.1, by omega⟩
  repeat (with_reducible first | exact FE | refine Fin.drew ?_ | refine Fin.alloc ?_ _ | refine Fin.set ?_ _ _ _ (by omega) (by omega))

set_option maxHeartbeats 4000000 in
theorem radd_lq {w : World} {a b : Option Addr} {l c k d : Nat} (n m : Bool) (e f : Int) (n1 m1 : Bool) (X Y : Nat) (e1 f1 : Int) (lX : (ws X).length ≤ 8192) (lY : (ws Y).length ≤ 8192) (hX : ((((ws X).length : Nat) : Int) == 0) = false) (hY : ((((ws Y).length : Nat) : Int) == 0) = false) (be0 : -1048576 ≤ e1) (be1 : e1 ≤ 1048576) (bf0 : -1048576 ≤ f1) (bf1 : f1 ≤ 1048576) (g : Int) (hg : min e1 f1 = g) (bg0 : -1048576 ≤ g) (bg1 : g ≤ 1048576) (P Q : Nat) (lP : (ws P).length ≤ 1000000) (lQ : (ws Q).length ≤ 1000000) (h5 : (ws P).length ≤ 8192) (h6 : 8192 < (ws Q).length)
    (HF1 : Hid (∀ u, Below w.heap.size w u → Calls Tryz.prog 116 #[.agg #[.bool n, .slice a l c, .int .i64 e]] u fun r w' => (∃ v, r = .returned (.tuple #[.agg #[.bool n1, v, .int .i64 e1], .bool true]) ∧ Nt u.heap.size w' v X) ∧ Below u.heap.size u w'))
    (HF2 : Hid (∀ u, Below w.heap.size w u → Calls Tryz.prog 116 #[.agg #[.bool m, .slice b k d, .int .i64 f]] u fun r w' => (∃ v, r = .returned (.tuple #[.agg #[.bool m1, v, .int .i64 f1], .bool true]) ∧ Nt u.heap.size w' v Y) ∧ Below u.heap.size u w'))
    (HP : Hid (∀ (u : World) (v : Value), Below w.heap.size w u → Nt (w.heap.size + 3) u v X → Calls Tryz.prog 117 #[v, .int .i64 (e1 - g)] u fun r w' => ∃ v, r = .returned v ∧ Nt u.heap.size w' v P ∧ Below u.heap.size u w'))
    (HQ : Hid (∀ (u : World) (v : Value), Below w.heap.size w u → Nt (w.heap.size + 3) u v Y → Calls Tryz.prog 117 #[v, .int .i64 (f1 - g)] u fun r w' => ∃ v, r = .returned v ∧ Nt u.heap.size w' v Q ∧ Below u.heap.size u w')) : Calls Tryz.prog 77 #[.agg #[.bool n, .slice a l c, .int .i64 e], .agg #[.bool m, .slice b k d, .int .i64 f]] w fun r w' => r = .returned (.tuple #[.agg #[.bool false, .slice none 0 0, .int .i64 0], .int .i64 2]) ∧ Below w.heap.size w w' := by
  obtain ⟨W1, hW1⟩ : ∃ W, W = ((w.alloc (.cells #[.bool n, .slice a l c, .int .i64 e] 37)).alloc (.cells #[.bool m, .slice b k d, .int .i64 f] 37)).alloc (.cells #[.bool false, .slice none 0 0, .int .i64 0] 37) := ⟨_, rfl⟩
  obtain ⟨hB, hz1, DA, DB, DR⟩ := add_begin w n m (.slice a l c) (.slice b k d) e f W1 hW1
  have H1 := hid (HF1.out W1 hB)
  have SB := (Aside.intro (And.intro hB (And.intro hz1 (And.intro DA (And.intro DB DR)))))
  clear hB hz1 DA DB DR HF1
  go_enter Tryz.func77, Tryz.ntmps77
  go_wp2_with fail
  rw [← hW1]
  clear hW1
  refine (Calls.mono H1.out) ?_
  rintro r u1 ⟨⟨v, rfl, hN⟩, hb⟩
  obtain ⟨a1, c1, rfl, _⟩ := hN.arg (by omega)
  obtain ⟨hB, hz1, DA, DB, DR⟩ := SB.out
  obtain ⟨U1, hU1⟩ : ∃ U, U = u1.alloc (.cells #[.bool n1, .slice a1 (ws X).length c1, .int .i64 e1] 37) := ⟨_, rfl⟩
  have hA : Below u1.heap.size u1 U1 := by rw [hU1]; exact below_alloc _ _
  have hs1 : w.heap.size + 3 ≤ u1.heap.size := by have := hb.size; omega
  have hs2 : u1.heap.size < U1.heap.size := by rw [hU1]; simp
  have FB := (DB.below hb).below hA
  have FR := (DR.below hb).below hA
  have DX : Dk U1 u1.heap.size n1 (.slice a1 (ws X).length c1) e1 := by rw [hU1]; exact Dk.new _ _ _ _
  have NX : Nt (w.heap.size + 3) U1 (.slice a1 (ws X).length c1) X := (hN.mono (by omega)).below hA
  have BU : Below w.heap.size w U1 := (hB.trans (hb.mono (by omega))).trans (hA.mono (by omega))
  have H2 := hid (HF2.out U1 BU)
  obtain ⟨y0, y1, y2, yf0, yf1, yf2⟩ := FB.facts
  have S1 := (Aside.intro (And.intro BU (And.intro FR (And.intro DX NX))))
  clear hN hb H1 hB hz1 hA DA DB DR FB FR DX NX BU SB HF2
  go_upto_region 2 with fail
  rw [← hU1]
  clear hU1
  go_wp2_with fail
  clear y0 y1 y2 yf0 yf1 yf2
  refine (Calls.mono H2.out) ?_
  rintro r u2 ⟨⟨v, rfl, hM⟩, hb⟩
  obtain ⟨a2, c2, rfl, _⟩ := hM.arg (by omega)
  obtain ⟨BU, FR, DX, NX⟩ := S1.out
  obtain ⟨U2, hU2⟩ : ∃ U, U = u2.alloc (.cells #[.bool m1, .slice a2 (ws Y).length c2, .int .i64 f1] 37) := ⟨_, rfl⟩
  have hA : Below u2.heap.size u2 U2 := by rw [hU2]; exact below_alloc _ _
  have hs3 : U1.heap.size ≤ u2.heap.size := hb.size
  have hs4 : u2.heap.size < U2.heap.size := by rw [hU2]; simp
  have GR := (FR.below hb).below hA
  have GX := (DX.below hb).below hA
  have GY : Dk U2 u2.heap.size m1 (.slice a2 (ws Y).length c2) f1 := by rw [hU2]; exact Dk.new _ _ _ _
  have MX := (NX.below hb).below hA
  have MY : Nt (w.heap.size + 3) U2 (.slice a2 (ws Y).length c2) Y := (hM.mono (by omega)).below hA
  have BV : Below w.heap.size w U2 := (BU.trans (hb.mono (by omega))).trans (hA.mono (by omega))
  have S2 := (Aside.intro (And.intro BV (And.intro GR (And.intro GX (And.intro GY (And.intro MX MY))))))
  clear hM hb H2 hA FR DX NX BU GR GX GY MX MY BV S1
  go_upto_region 5 with fail
  rw [← hU2]
  clear hU2
  obtain ⟨r0, r1, r2, rf0, rf1, rf2⟩ := S2.out.2.1.facts
  obtain ⟨x0, x1, x2, xf0, xf1, xf2⟩ := S2.out.2.2.1.facts
  obtain ⟨y0, y1, y2, yf0, yf1, yf2⟩ := S2.out.2.2.2.1.facts
  have H3 := hid (HP.out U2 _ S2.out.1 S2.out.2.2.2.2.1)
  clear HP
  go_wp2_with fail
  clear r0 r1 r2 rf0 rf1 rf2 x0 x1 x2 xf0 xf1 xf2 y0 y1 y2 yf0 yf1 yf2
  refine (Calls.mono H3.out) ?_
  rintro r u5 ⟨v, rfl, hP, hb⟩
  obtain ⟨a5, c5, rfl, _⟩ := hP.arg (by omega)
  obtain ⟨BV, GR, GX, GY, MX, MY⟩ := S2.out
  have hs5 : U2.heap.size ≤ u5.heap.size := hb.size
  have BV5 : Below w.heap.size w u5 := BV.trans (hb.mono (by omega))
  have H4 := hid (HQ.out u5 _ BV5 (MY.below hb))
  have S5 := (Aside.intro (And.intro BV5 (And.intro (GR.below hb) (And.intro (GX.below hb) (And.intro (GY.below hb) (And.intro (MX.below hb) (hP.mono (lo' := w.heap.size + 3) (by omega))))))))
  clear BV GR GX GY MX MY BV5 hP hb H3 S2 HQ
  obtain ⟨r0, r1, r2, rf0, rf1, rf2⟩ := S5.out.2.1.facts
  obtain ⟨x0, x1, x2, xf0, xf1, xf2⟩ := S5.out.2.2.1.facts
  obtain ⟨y0, y1, y2, yf0, yf1, yf2⟩ := S5.out.2.2.2.1.facts
  go_wp2_with fail
  clear r0 r1 r2 rf0 rf1 rf2 x0 x1 x2 xf0 xf1 xf2 y0 y1 y2 yf0 yf1 yf2
  refine (Calls.mono H4.out) ?_
  rintro r u6 ⟨v, rfl, hQ, hb⟩
  obtain ⟨a6, c6, rfl, _⟩ := hQ.arg (by omega)
  obtain ⟨BV, GR, GX, GY, MX, MP⟩ := S5.out
  have hs6 : u5.heap.size ≤ u6.heap.size := hb.size
  have S2 := (Aside.intro (And.intro (BV.trans (hb.mono (by omega))) (And.intro (GR.below hb) (And.intro (GX.below hb) (And.intro (GY.below hb) (And.intro (MP.below hb) (hQ.mono (lo' := w.heap.size + 3) (by omega))))))))
  clear BV GR GX GY MX MP hQ hb H4 S5
  obtain ⟨r0, r1, r2, rf0, rf1, rf2⟩ := S2.out.2.1.facts
  obtain ⟨x0, x1, x2, xf0, xf1, xf2⟩ := S2.out.2.2.1.facts
  obtain ⟨y0, y1, y2, yf0, yf1, yf2⟩ := S2.out.2.2.2.1.facts
  go_wp2
  refine bodyPost_ret (radd_res _ (w.heap.size + 1 + 1) false (.slice none 0 0) 0 2 _ rfl rfl (S2.out.2.1.set _ _ _)) rfl ⟨rfl, ?_⟩
  refine Fin.bel (m := w.heap.size + 3) (v := .slice a5 (ws P).length c5) (X := P) ?_
  have FE : Fin w.heap.size (w.heap.size + 3) w u6 (.slice a5 (ws P).length c5) P := ⟨S2.out.2.2.2.2.1, S2.out.1, by omega⟩
  repeat (with_reducible first | exact FE | refine Fin.drew ?_ | refine Fin.alloc ?_ _ | refine Fin.set ?_ _ _ _ (by omega) (by omega))

end Go.Proofs.YteoednbmhiblfaaGreatDoor

/- The document's Add. -/
namespace Go.Proofs.YteoednbmhiblfaaGreatDoor
open Go.RowKit
set_option linter.unusedVariables false
set_option maxRecDepth 20000
set_option linter.unusedSimpArgs false

set_option maxHeartbeats 4000000 in
theorem radd_sum {w : World} {a b : Option Addr} {l c k d : Nat} (n m : Bool) (e f : Int) (n1 m1 : Bool) (X Y : Nat) (e1 f1 : Int) (lX : (ws X).length ≤ 8192) (lY : (ws Y).length ≤ 8192) (hX : ((((ws X).length : Nat) : Int) == 0) = false) (hY : ((((ws Y).length : Nat) : Int) == 0) = false) (be0 : -1048576 ≤ e1) (be1 : e1 ≤ 1048576) (bf0 : -1048576 ≤ f1) (bf1 : f1 ≤ 1048576) (g : Int) (hg : min e1 f1 = g) (bg0 : -1048576 ≤ g) (bg1 : g ≤ 1048576) (P Q : Nat) (lP : (ws P).length ≤ 1000000) (lQ : (ws Q).length ≤ 1000000) (h5 : (ws P).length ≤ 8192) (h6 : (ws Q).length ≤ 8192) (hs : (n1 == m1) = true) (L : Nat) (lL : (ws L).length ≤ 1000000) (dn : Bool) (V : Nat) (de er : Int) (lV : (ws V).length ≤ 8192)
    (HF1 : Hid (∀ u, Below w.heap.size w u → Calls Tryz.prog 116 #[.agg #[.bool n, .slice a l c, .int .i64 e]] u fun r w' => (∃ v, r = .returned (.tuple #[.agg #[.bool n1, v, .int .i64 e1], .bool true]) ∧ Nt u.heap.size w' v X) ∧ Below u.heap.size u w'))
    (HF2 : Hid (∀ u, Below w.heap.size w u → Calls Tryz.prog 116 #[.agg #[.bool m, .slice b k d, .int .i64 f]] u fun r w' => (∃ v, r = .returned (.tuple #[.agg #[.bool m1, v, .int .i64 f1], .bool true]) ∧ Nt u.heap.size w' v Y) ∧ Below u.heap.size u w'))
    (HP : Hid (∀ (u : World) (v : Value), Below w.heap.size w u → Nt (w.heap.size + 3) u v X → Calls Tryz.prog 117 #[v, .int .i64 (e1 - g)] u fun r w' => ∃ v, r = .returned v ∧ Nt u.heap.size w' v P ∧ Below u.heap.size u w'))
    (HQ : Hid (∀ (u : World) (v : Value), Below w.heap.size w u → Nt (w.heap.size + 3) u v Y → Calls Tryz.prog 117 #[v, .int .i64 (f1 - g)] u fun r w' => ∃ v, r = .returned v ∧ Nt u.heap.size w' v Q ∧ Below u.heap.size u w'))
    (HT : Hid (∀ (u : World) (p q : Option Addr) (s t : Nat), Below w.heap.size w u → Arg u p (ws P).length s (ws P) → Arg u q (ws Q).length t (ws Q) → Calls Tryz.prog 119 #[.slice p (ws P).length s, .slice q (ws Q).length t] u fun r w' => ∃ v, r = .returned v ∧ Nt u.heap.size w' v L ∧ Below u.heap.size u w'))
    (HL : Hid (∀ (u : World) (p : Option Addr) (s : Nat), Below w.heap.size w u → Arg u p (ws L).length s (ws L) → Calls Tryz.prog 118 #[.bool n1, .slice p (ws L).length s, .int .i64 g] u fun r w' => (∃ v, r = .returned (.tuple #[.agg #[.bool dn, v, .int .i64 de], .int .i64 er]) ∧ Nt u.heap.size w' v V) ∧ Below u.heap.size u w')) : Calls Tryz.prog 77 #[.agg #[.bool n, .slice a l c, .int .i64 e], .agg #[.bool m, .slice b k d, .int .i64 f]] w fun r w' => (∃ v, r = .returned (.tuple #[.agg #[.bool dn, v, .int .i64 de], .int .i64 er]) ∧ Nt w.heap.size w' v V) ∧ Below w.heap.size w w' := by
  obtain ⟨W1, hW1⟩ : ∃ W, W = ((w.alloc (.cells #[.bool n, .slice a l c, .int .i64 e] 37)).alloc (.cells #[.bool m, .slice b k d, .int .i64 f] 37)).alloc (.cells #[.bool false, .slice none 0 0, .int .i64 0] 37) := ⟨_, rfl⟩
  obtain ⟨hB, hz1, DA, DB, DR⟩ := add_begin w n m (.slice a l c) (.slice b k d) e f W1 hW1
  have H1 := hid (HF1.out W1 hB)
  have SB := (Aside.intro (And.intro hB (And.intro hz1 (And.intro DA (And.intro DB DR)))))
  clear hB hz1 DA DB DR HF1
  go_enter Tryz.func77, Tryz.ntmps77
  go_wp2_with fail
  rw [← hW1]
  clear hW1
  refine (Calls.mono H1.out) ?_
  rintro r u1 ⟨⟨v, rfl, hN⟩, hb⟩
  obtain ⟨a1, c1, rfl, _⟩ := hN.arg (by omega)
  obtain ⟨hB, hz1, DA, DB, DR⟩ := SB.out
  obtain ⟨U1, hU1⟩ : ∃ U, U = u1.alloc (.cells #[.bool n1, .slice a1 (ws X).length c1, .int .i64 e1] 37) := ⟨_, rfl⟩
  have hA : Below u1.heap.size u1 U1 := by rw [hU1]; exact below_alloc _ _
  have hs1 : w.heap.size + 3 ≤ u1.heap.size := by have := hb.size; omega
  have hs2 : u1.heap.size < U1.heap.size := by rw [hU1]; simp
  have FB := (DB.below hb).below hA
  have FR := (DR.below hb).below hA
  have DX : Dk U1 u1.heap.size n1 (.slice a1 (ws X).length c1) e1 := by rw [hU1]; exact Dk.new _ _ _ _
  have NX : Nt (w.heap.size + 3) U1 (.slice a1 (ws X).length c1) X := (hN.mono (by omega)).below hA
  have BU : Below w.heap.size w U1 := (hB.trans (hb.mono (by omega))).trans (hA.mono (by omega))
  have H2 := hid (HF2.out U1 BU)
  obtain ⟨y0, y1, y2, yf0, yf1, yf2⟩ := FB.facts
  have S1 := (Aside.intro (And.intro BU (And.intro FR (And.intro DX NX))))
  clear hN hb H1 hB hz1 hA DA DB DR FB FR DX NX BU SB HF2
  go_upto_region 2 with fail
  rw [← hU1]
  clear hU1
  go_wp2_with fail
  clear y0 y1 y2 yf0 yf1 yf2
  refine (Calls.mono H2.out) ?_
  rintro r u2 ⟨⟨v, rfl, hM⟩, hb⟩
  obtain ⟨a2, c2, rfl, _⟩ := hM.arg (by omega)
  obtain ⟨BU, FR, DX, NX⟩ := S1.out
  obtain ⟨U2, hU2⟩ : ∃ U, U = u2.alloc (.cells #[.bool m1, .slice a2 (ws Y).length c2, .int .i64 f1] 37) := ⟨_, rfl⟩
  have hA : Below u2.heap.size u2 U2 := by rw [hU2]; exact below_alloc _ _
  have hs3 : U1.heap.size ≤ u2.heap.size := hb.size
  have hs4 : u2.heap.size < U2.heap.size := by rw [hU2]; simp
  have GR := (FR.below hb).below hA
  have GX := (DX.below hb).below hA
  have GY : Dk U2 u2.heap.size m1 (.slice a2 (ws Y).length c2) f1 := by rw [hU2]; exact Dk.new _ _ _ _
  have MX := (NX.below hb).below hA
  have MY : Nt (w.heap.size + 3) U2 (.slice a2 (ws Y).length c2) Y := (hM.mono (by omega)).below hA
  have BV : Below w.heap.size w U2 := (BU.trans (hb.mono (by omega))).trans (hA.mono (by omega))
  have S2 := (Aside.intro (And.intro BV (And.intro GR (And.intro GX (And.intro GY (And.intro MX MY))))))
  clear hM hb H2 hA FR DX NX BU GR GX GY MX MY BV S1
  go_upto_region 5 with fail
  rw [← hU2]
  clear hU2
  obtain ⟨r0, r1, r2, rf0, rf1, rf2⟩ := S2.out.2.1.facts
  obtain ⟨x0, x1, x2, xf0, xf1, xf2⟩ := S2.out.2.2.1.facts
  obtain ⟨y0, y1, y2, yf0, yf1, yf2⟩ := S2.out.2.2.2.1.facts
  have H3 := hid (HP.out U2 _ S2.out.1 S2.out.2.2.2.2.1)
  clear HP
  go_wp2_with fail
  clear r0 r1 r2 rf0 rf1 rf2 x0 x1 x2 xf0 xf1 xf2 y0 y1 y2 yf0 yf1 yf2
  refine (Calls.mono H3.out) ?_
  rintro r u5 ⟨v, rfl, hP, hb⟩
  obtain ⟨a5, c5, rfl, _⟩ := hP.arg (by omega)
  obtain ⟨BV, GR, GX, GY, MX, MY⟩ := S2.out
  have hs5 : U2.heap.size ≤ u5.heap.size := hb.size
  have BV5 : Below w.heap.size w u5 := BV.trans (hb.mono (by omega))
  have H4 := hid (HQ.out u5 _ BV5 (MY.below hb))
  have S5 := (Aside.intro (And.intro BV5 (And.intro (GR.below hb) (And.intro (GX.below hb) (And.intro (GY.below hb) (And.intro (MX.below hb) (hP.mono (lo' := w.heap.size + 3) (by omega))))))))
  clear BV GR GX GY MX MY BV5 hP hb H3 S2 HQ
  obtain ⟨r0, r1, r2, rf0, rf1, rf2⟩ := S5.out.2.1.facts
  obtain ⟨x0, x1, x2, xf0, xf1, xf2⟩ := S5.out.2.2.1.facts
  obtain ⟨y0, y1, y2, yf0, yf1, yf2⟩ := S5.out.2.2.2.1.facts
  go_wp2_with fail
  clear r0 r1 r2 rf0 rf1 rf2 x0 x1 x2 xf0 xf1 xf2 y0 y1 y2 yf0 yf1 yf2
  refine (Calls.mono H4.out) ?_
  rintro r u6 ⟨v, rfl, hQ, hb⟩
  obtain ⟨a6, c6, rfl, _⟩ := hQ.arg (by omega)
  obtain ⟨BV, GR, GX, GY, MX, MP⟩ := S5.out
  have hs6 : u5.heap.size ≤ u6.heap.size := hb.size
  have S2 := (Aside.intro (And.intro (BV.trans (hb.mono (by omega))) (And.intro (GR.below hb) (And.intro (GX.below hb) (And.intro (GY.below hb) (And.intro (MP.below hb) (hQ.mono (lo' := w.heap.size + 3) (by omega))))))))
  clear BV GR GX GY MX MP hQ hb H4 S5
  obtain ⟨r0, r1, r2, rf0, rf1, rf2⟩ := S2.out.2.1.facts
  obtain ⟨x0, x1, x2, xf0, xf1, xf2⟩ := S2.out.2.2.1.facts
  obtain ⟨y0, y1, y2, yf0, yf1, yf2⟩ := S2.out.2.2.2.1.facts
  go_wp2_with fail
  have ne1 : u1.heap.size ≠ w.heap.size + 1 + 1 := by omega
  have ne2 : u2.heap.size ≠ w.heap.size + 1 + 1 := by omega
  have ne3 : w.heap.size + 1 + 1 ≠ u1.heap.size := by omega
  have ne4 : w.heap.size + 1 + 1 ≠ u2.heap.size := by omega
  have T1 := hid (HT.out u6 a5 a6 c5 c6 S2.out.1 (S2.out.2.2.2.2.1.arg' (by omega)).2 (S2.out.2.2.2.2.2.arg' (by omega)).2)
  have T2 := hid (HT.out u6.drew a5 a6 c5 c6 (Below.drew S2.out.1) (Arg.drew' (S2.out.2.2.2.2.1.arg' (by omega)).2) (Arg.drew' (S2.out.2.2.2.2.2.arg' (by omega)).2))
  go_region_held3 (fun w' => w'.cell? ⟨u1.heap.size, 0, none⟩ = some (.bool n1) ∧ w'.cell? ⟨u1.heap.size, 1, none⟩ = some (.slice a1 (ws X).length c1) ∧ w'.cell? ⟨u1.heap.size, 2, none⟩ = some (.int .i64 e1) ∧ w'.cell? ⟨u2.heap.size, 0, none⟩ = some (.bool m1) ∧ w'.cell? ⟨u2.heap.size, 1, none⟩ = some (.slice a2 (ws Y).length c2) ∧ w'.cell? ⟨u2.heap.size, 2, none⟩ = some (.int .i64 f1)) (go_keep) (first
    | (go_at_call 119
       first | with_reducible refine T1.out.mono ?_ | with_reducible refine T2.out.mono ?_
       rintro r u3 ⟨v, rfl, hN, hb⟩
       obtain ⟨a3, c3, rfl, _⟩ := hN.arg (by omega)
       have hb3 : Below u6.heap.size u6 u3 := by first | exact hb | exact ((Below.refl _ u6).drew).trans (hb.mono (Nat.le_refl _))
       have HL3 := hid (HL.out u3 a3 c3 (S2.out.1.trans (hb3.mono (by omega))) (hN.arg' (by omega)).2)
       have KR := S2.out.2.1.below hb3
       have KX := S2.out.2.2.1.below hb3
       have KY := S2.out.2.2.2.1.below hb3
       obtain ⟨p0, p1, p2, pf0, pf1, pf2⟩ := KR.facts
       obtain ⟨q0, q1, q2, qf0, qf1, qf2⟩ := KX.facts
       obtain ⟨s0, s1, s2, sf0, sf1, sf2⟩ := KY.facts
       have hs9 : u6.heap.size ≤ u3.heap.size := hb3.size
       have S9 := (Aside.intro (And.intro (S2.out.1.trans (hb3.mono (by omega))) (And.intro KR (And.intro KX KY))))
       clear hN hb hb3 KR KX KY)
    | (go_at_call 118
       with_reducible refine HL3.out.mono ?_
       rintro r u4 ⟨⟨v, rfl, hN⟩, hb⟩
       obtain ⟨a4, c4, rfl, _⟩ := hN.arg (by omega)
       have LR := S9.out.2.1.below hb
       obtain ⟨t0, t1, t2, tf0, tf1, tf2⟩ := LR.facts
       obtain ⟨i0, i1, i2, if0, if1, if2⟩ := (S9.out.2.2.1.below hb).facts
       obtain ⟨j0, j1, j2, jf0, jf1, jf2⟩ := (S9.out.2.2.2.below hb).facts
       have FV := Aside.intro (show Fin w.heap.size (w.heap.size + 3) w u4 (.slice a4 (ws V).length c4) V from ⟨hN.mono (by omega), S9.out.1.trans (hb.mono (by omega)), by have := hb.size; omega⟩)
       have S10 := Aside.intro LR
       clear hN hb LR))
  all_goals (
    go_wp2
    refine bodyPost_ret (radd_res _ (w.heap.size + 1 + 1) dn (.slice a4 (ws V).length c4) de er _ rfl rfl (S10.out.set _ _ _)) rfl ?_
    refine Fin.dans (m := w.heap.size + 3) ?_ (by omega)
    repeat (with_reducible first | exact FV.out | refine Fin.drew ?_ | refine Fin.alloc ?_ _ | refine Fin.set ?_ _ _ _ (by omega) (by omega)))

end Go.Proofs.YteoednbmhiblfaaGreatDoor

