/- The program's Exact. -/
import Derived.Test.YtmpakpdikkfofaaGreatDoorM1x
import Derived.Test.YtmpakpdikkfofaaGreatDoorD21x
import Derived.Test.YtmpakpdikkfofaaGreatDoorBIeeex
import Derived.Test.YtmpakpdikkfofaaGreatDoorS3x
import Derived.Test.YtmpakpdikkfofaaGreatDoorS15x
import Derived.Test.YtmpakpdikkfofaaGreatDoorD1x
import Derived.Test.YtmpakpdikkfofaaGreatDoorD16x
import Derived.Deep.Cut
import Derived.Deep.RegionHeld3
import Derived.Deep.RegionWith
import Derived.Deep.CutRange
import Derived.Test.YtmpakpdikkfofaaGreatDoorW12x
import Derived.BigQuiet
import Derived.Laws.Bits64
import Derived.Laws.Bits64b
import Derived.Test.YtmpakpdikkfofaaGreatDoorD14x
namespace Go.Proofs.YtmpakpdikkfofaaGreatDoor
open Go.RowKit
set_option linter.unusedVariables false
set_option maxRecDepth 20000
set_option linter.unusedSimpArgs false

/-- A list's exact sum, in units; its counts. -/
def vS (l : List Nat) : Int := l.foldl (fun v x => v + pT x 4607182418800017408) 0
def sS (l : List Nat) : Sp := l.foldl (fun s x => s.cnt (pK x 4607182418800017408) 1) ⟨0, 0, 0, 0, 0, 0⟩
theorem take_snoc10 (l : List Nat) (k : Nat) (h : k < l.length) : l.take (k + 1) = l.take k ++ [l.getD k 0] := by
  rw [List.take_succ_eq_append_getElem h, List.getD_eq_getElem?_getD, List.getElem?_eq_getElem h]; rfl
theorem vS_take (l : List Nat) (k : Nat) (h : k < l.length) : vS (l.take (k + 1)) = vS (l.take k) + pT (l.getD k 0) 4607182418800017408 := by
  rw [take_snoc10 l k h]; simp [vS, List.foldl_append]
theorem sS_take (l : List Nat) (k : Nat) (h : k < l.length) : sS (l.take (k + 1)) = (sS (l.take k)).cnt (pK (l.getD k 0) 4607182418800017408) 1 := by
  rw [take_snoc10 l k h]; simp [sS, List.foldl_append]
theorem vS_bound (l : List Nat) (hl : W64 l) : ∀ k, k ≤ l.length → -((k * QB : Nat) : Int) ≤ vS (l.take k) ∧ vS (l.take k) ≤ ((k * QB : Nat) : Int)
  | 0, _ => by simp [vS]
  | k + 1, h => by
    obtain ⟨h1, h2⟩ := vS_bound l hl k (by omega)
    have h3 := pT_small (l.getD k 0) 4607182418800017408 (hl.get k) (by decide)
    rw [vS_take l k h]
    have e : ((k + 1) * QB : Nat) = k * QB + QB := by rw [Nat.add_mul, Nat.one_mul]
    omega
theorem sS_pos (l : List Nat) : ∀ k, k ≤ l.length → (sS (l.take k)).pos ∧ (sS (l.take k)).a = k
  | 0, _ => ⟨by rw [List.take_zero]; unfold Sp.pos sS; decide, rfl⟩
  | k + 1, h => by
    obtain ⟨h1, h2⟩ := sS_pos l k (by omega)
    rw [sS_take l k h]
    refine ⟨h1.cnt _ (pk_le _ _ _), ?_⟩
    rw [cnt_a, h2]
    omega

set_option maxHeartbeats 4000000 in
theorem exact_core (xs : List Nat) (a : Option Addr) (n c : Nat) (mode pa pb : Int) (X : Nat) (er : Int) (w : World) (hn : n = xs.length) (hF : Fs w.heap.size w a xs) (hW : W64 xs) (hT : Tab w) (hm0 : 0 ≤ mode) (hm1 : mode ≤ 4) (hab : may pa pb = true) (hl : n ≤ 65536)
    (HR : Hid (∀ (g : Nat) (u : World), Acc7 u g (vS xs) (sS xs) → (sS xs).ok → Tab u → Calls Tryz.prog 27 #[.pointer (some ⟨g, 0, none⟩), .int .i64 mode, .agg #[.int .i64 pa, .int .i64 pb]] u fun r w' => r = .returned (.tuple #[.float .f64 X, .int .i64 er]) ∧ Below u.heap.size u w')) :
    Calls Tryz.prog 8 #[.slice a n c, .int .i64 mode, .agg #[.int .i64 pa, .int .i64 pb]] w fun r w' => r = .returned (.tuple #[.float .f64 X, .int .i64 er]) ∧ Below w.heap.size w w' := by
  have HM := hid (fun u : World => May_any pa pb u)
  rw [hab] at HM
  have HX := Aside.intro (And.intro hn (And.intro hF (And.intro hW (And.intro hT hl))))
  have b0 : decide (mode < 0) = false := by simp; omega
  have b1 : decide (4 < mode) = false := by simp; omega
  have b2 : decide ((65536 : Int) < (n : Int)) = false := by simp; omega
  have b3 : decide (65536 < n) = false := by simp; omega
  clear hn hF hW hT hm0 hm1 hab hl
  go_enter Tryz.func8, Tryz.ntmps8
  go_wp2_with fail
  refine (HM.out _).mono ?_
  rintro r w1 ⟨rfl, hb1⟩
  have P1 : Aside (Bl w1 w.heap.size 27 [.int .i64 pa, .int .i64 pb] ∧ Below w.heap.size w w1 ∧ w.heap.size < w1.heap.size) := by
    have e0 := bel_alloc w (Obj.cells #[.int .i64 pa, .int .i64 pb] 27)
    exact ⟨(Bl.new w 27 [_, _]).below hb1 (by simp), e0.trans (hb1.mono (by simp)), by have := hb1.size; simp at this; omega⟩
  clear hb1 HM
  go_wp2_with fail
  refine (New7 w1).mono ?_
  rintro r w2 ⟨rfl, hA, hb2⟩
  obtain ⟨g, hg⟩ : ∃ g, g = w1.heap.size := ⟨_, rfl⟩
  rw [← hg] at hA ⊢
  have P2 : Aside (Bl w2 w.heap.size 27 [.int .i64 pa, .int .i64 pb] ∧ Below w.heap.size w w2 ∧ w.heap.size < g ∧ Acc7 w2 g 0 ⟨0, 0, 0, 0, 0, 0⟩) :=
    ⟨P1.out.1.below hb2 P1.out.2.2, P1.out.2.1.trans (hb2.mono P1.out.2.1.size), by rw [hg]; exact P1.out.2.2, hA⟩
  clear hb2 hA hg P1
  go_wp2
  go_loopg [30] n (fun gk i wr => ∃ k : Nat, gk + k = n ∧ i = .int .i64 (k : Nat) ∧ Aside (Acc7 wr g (vS (xs.take k)) (sS (xs.take k)) ∧ Bl wr w.heap.size 27 [.int .i64 pa, .int .i64 pb] ∧ Below w.heap.size w wr))
  case atStart => exact ⟨0, by omega, by simp, by simpa [vS, sS] using P2.out.2.2.2, P2.out.1, P2.out.2.1⟩
  case round =>
    obtain ⟨k, hgk, rfl, HA⟩ := hrel
    by_cases hk : k < n
    · obtain ⟨b, off, rfl, hc⟩ := HX.out.2.1.at HA.out.2.2 k (by rw [← HX.out.1]; exact hk)
      obtain ⟨x, hx⟩ : ∃ x, x = xs.getD k 0 := ⟨_, rfl⟩
      rw [← hx] at hc
      have C : Hid (Calls Tryz.prog 26 #[.pointer (some ⟨g, 0, none⟩), .float .f64 x] wr (Did g wr (0, vS (xs.take (k + 1)), sS (xs.take (k + 1))))) := by
        have hk2 : k < xs.length := by rw [← HX.out.1]; exact hk
        obtain ⟨p1, p2⟩ := sS_pos xs k (by omega)
        obtain ⟨v1, v2⟩ := vS_bound xs HX.out.2.2.1 k (by omega)
        have hx64 : x < 18446744073709551616 := by rw [hx]; exact HX.out.2.2.1.get k
        have hsm := pT_small x 4607182418800017408 hx64 (by decide)
        have hl := HX.out.2.2.2.2
        have hkq : k * QB ≤ 65536 * QB := Nat.mul_le_mul_right _ (by omega)
        have hQ := QB_HB
        have hqp := QB_pos
        have C := Add7 g (vS (xs.take k)) (sS (xs.take k)) x wr HA.out.1 (p1.ok (by omega)) hx64
        rw [put_ok _ _ _ _ (by omega) (by omega) (by omega)] at C
        rw [vS_take xs k hk2, sS_take xs k hk2, ← hx]
        exact C
      have hkb : k < 4611686018427387904 := by have := HX.out.2.2.2.2; omega
      clear hx
      go_wp2_with fail
      refine (C.out).mono ?_
      rintro r w3 ⟨rfl, hA3, hbut⟩
      have H3 := Aside.intro (And.intro hA3 (And.intro (HA.out.2.1.but hbut (by have := P2.out.2.2.1; omega)) (But.below HA.out.2.2 hbut HA.out.2.2.size (by have := P2.out.2.2.1; omega))))
      clear hA3 hbut C
      go_wp2
      go_roundg (gk - 1)
      case measure => omega
      case rel => exact ⟨k + 1, by omega, by first | rfl | simp, H3.out⟩
    · have hd : decide ((k : Int) < n) = false := by simp; omega
      have q0 := HA.out.2.1.cell 0 _ rfl
      have q1 := HA.out.2.1.cell 1 _ rfl
      have C : Hid (Calls Tryz.prog 27 #[.pointer (some ⟨g, 0, none⟩), .int .i64 mode, .agg #[.int .i64 pa, .int .i64 pb]] wr fun r w' => r = .returned (.tuple #[.float .f64 X, .int .i64 er]) ∧ Below wr.heap.size wr w') := by
        have e : xs.take k = xs := by rw [List.take_of_length_le]; rw [← HX.out.1]; omega
        have hA := HA.out.1
        obtain ⟨p1, p2⟩ := sS_pos xs k (by rw [← HX.out.1]; omega)
        rw [e] at hA p1 p2
        have hl := HX.out.2.2.2.2
        exact HR.out g wr hA (p1.ok (by omega)) (HX.out.2.2.2.1.belows HA.out.2.2)
      clear HR
      go_wp2_with fail
      refine (C.out).mono ?_
      rintro r w3 ⟨rfl, hb3⟩
      have B3 := Aside.intro (HA.out.2.2.trans (hb3.mono HA.out.2.2.size))
      clear hb3 C
      go_wp2
      go_ret2
      exact ⟨rfl, B3.out⟩
theorem Exact10 (xs : List Nat) (a : Option Addr) (n c : Nat) (mode pa pb : Int) (w : World) (hn : n = xs.length) (hF : Fs w.heap.size w a xs) (hW : W64 xs) (hT : Tab w) (hm0 : 0 ≤ mode) (hm1 : mode ≤ 4) (hab : may pa pb = true) (hl : n ≤ 65536) (ha : pa ≠ 2) (hb : pb ≠ 2) :
    Calls Tryz.prog 8 #[.slice a n c, .int .i64 mode, .agg #[.int .i64 pa, .int .i64 pb]] w fun r w' => r = .returned (.tuple #[.float .f64 (rd7 (vS xs) (sS xs) mode pa pb).1, .int .i64 (rd7 (vS xs) (sS xs) mode pa pb).2]) ∧ Below w.heap.size w w' :=
  exact_core xs a n c mode pa pb _ _ w hn hF hW hT hm0 hm1 hab hl (hid fun g u hA hs hT => Round7 g (vS xs) (sS xs) mode pa pb u hA hs hT hm0 hm1 hab ha hb)
end Go.Proofs.YtmpakpdikkfofaaGreatDoor

/- The program's steps: a sum, a difference, a product of any two numbers, and a NaN made the one that is answered. -/
namespace Go.Proofs.YtmpakpdikkfofaaGreatDoor
open Go.RowKit
set_option linter.unusedVariables false
set_option maxRecDepth 20000
attribute [local go_sem] B.f64bits B.f64frombits
theorem st_float {P : Program} {w : World} (a : Addr) (k : FloatKind) (n : Nat) (m : Mode) : (store a (.float k n) m).run P w = stored P w a (.float k n) m := run_store P w a _ m rfl

/-- The NaN that is answered. -/
def oddW : Nat := 9221120237041090560
/-- A step: the answer's bits. -/
def arW (op : BinOp) (x y : Nat) : Nat := (floatBits op .f64 x y).getD oddW

/-- A step that has no answer: some NaN comes of it. -/
theorem run_float_none {P : Program} (w : World) (op : BinOp) (t : TypeId) (x y : Nat) (ho : op = .add ∨ op = .sub ∨ op = .mul) (h : floatBits op .f64 x y = none) :
    ∃ z, (9218868437227405312 < z % 9223372036854775808 ∧ z < 18446744073709551616) ∧ (binOp op t (.float .f64 x) (.float .f64 y)).run P w = .ok (.float .f64 z) w.drew := by
  refine ⟨(Question.nanBits .f64 x y).cut (w.tape w.drawn (.nanBits .f64 x y)), ?_, ?_⟩
  · unfold Question.cut
    generalize w.tape w.drawn (.nanBits .f64 x y) = t
    show 9218868437227405312 < ((t % 2) * 9223372036854775808 + 9218868437227405312 + 1 + (t / 2) % 4503599627370495) % 9223372036854775808 ∧ ((t % 2) * 9223372036854775808 + 9218868437227405312 + 1 + (t / 2) % 4503599627370495) < 18446744073709551616
    have h1 : (t / 2) % 4503599627370495 < 4503599627370495 := Nat.mod_lt _ (by decide)
    generalize (t / 2) % 4503599627370495 = q at *
    rcases Nat.mod_two_eq_zero_or_one t with h2 | h2 <;> rw [h2] <;> omega
  · unfold floatBits at h
    rcases ho with rfl | rfl | rfl <;> simp only at h <;> simp [binOp, Op.floatArith, h, Question.forced]

/-- What is written of a number or an infinity is no NaN. -/
theorem write_fin (d : Ieee.Datum) (h : d.isNaN = false) : Ieee.double.write d % 9223372036854775808 ≤ 9218868437227405312 ∧ Ieee.double.write d < 18446744073709551616 := by
  have hw : ∀ (s : Bool) (r : Nat), r ≤ 9218868437227405312 → Ieee.double.word s r % 9223372036854775808 ≤ 9218868437227405312 ∧ Ieee.double.word s r < 18446744073709551616 := by
    intro s r hr
    have e : Ieee.double.word s r = (if s then 9223372036854775808 + r else r) := rfl
    rw [e]
    cases s <;> simp <;> omega
  cases d with
  | number n m p =>
    show Ieee.double.nearest n m p % _ ≤ _ ∧ Ieee.double.nearest n m p < _
    unfold Ieee.Format.nearest
    split
    · exact hw _ _ (by omega)
    · exact hw _ _ (Nat.min_le_right _ _)
  | infinity n => exact hw _ _ (Nat.le_refl _)
  | nan n f => cases h
theorem sum_fin {a b d : Ieee.Datum} (h : a.sum b = some d) : d.isNaN = false := by
  cases a <;> cases b <;> simp only [Ieee.Datum.sum] at h <;> first | (cases h; rfl) | (cases h; done) | (split at h <;> first | (cases h; rfl) | (cases h; done))
theorem product_fin {a b d : Ieee.Datum} (h : a.product b = some d) : d.isNaN = false := by
  cases a <;> cases b <;> simp only [Ieee.Datum.product] at h <;> first | (cases h; rfl) | (cases h; done) | (split at h <;> first | (cases h; rfl) | (cases h; done))
theorem bits_fin {op : BinOp} {x y z : Nat} (ho : op = .add ∨ op = .sub ∨ op = .mul) (h : floatBits op .f64 x y = some z) : z % 9223372036854775808 ≤ 9218868437227405312 ∧ z < 18446744073709551616 := by
  unfold floatBits at h
  rcases ho with rfl | rfl | rfl
  · obtain ⟨d, h1, h2⟩ := Option.map_eq_some_iff.1 (show ((Ieee.double.read x).sum (Ieee.double.read y)).map Ieee.double.write = some z from h)
    rw [← h2]; exact write_fin d (sum_fin h1)
  · obtain ⟨d, h1, h2⟩ := Option.map_eq_some_iff.1 (show ((Ieee.double.read x).sum (Ieee.double.read y).opposite).map Ieee.double.write = some z from h)
    rw [← h2]; exact write_fin d (sum_fin h1)
  · obtain ⟨d, h1, h2⟩ := Option.map_eq_some_iff.1 (show ((Ieee.double.read x).product (Ieee.double.read y)).map Ieee.double.write = some z from h)
    rw [← h2]; exact write_fin d (product_fin h1)

/-- Is a word a NaN? -/
def nanW (z : Nat) : Bool := decide (9218868437227405312 < z % 9223372036854775808)
theorem bwz (z : Nat) (h : z < 18446744073709551616) : ∃ s e f, e < 2048 ∧ f < 4503599627370496 ∧ z = B.bw s e f ∧ B.odd e f = nanW z := by
  refine ⟨decide (9223372036854775808 ≤ z), z % 9223372036854775808 / 4503599627370496, z % 4503599627370496, by omega, by omega, ?_, ?_⟩
  · unfold B.bw
    by_cases h1 : 9223372036854775808 ≤ z
    · simp only [h1, decide_true, Bool.toNat_true]; omega
    · simp only [h1, decide_false, Bool.toNat_false]; omega
  · unfold B.odd nanW
    rw [Bool.eq_iff_iff]
    simp only [Bool.and_eq_true, beq_iff_eq, bne_iff_ne, ne_eq, decide_eq_true_eq]
    omega
theorem isNaN_w (z : Nat) (h : z < 18446744073709551616) (w : World) : Calls Tryz.prog 87 #[.float .f64 z] w fun r w' => r = .returned (.bool (nanW z)) ∧ w' = w := by
  obtain ⟨s, e, f, he, hf, h1, h2⟩ := bwz z h
  rw [← h2, h1]
  exact B.isNaN_any s e f he hf w

end Go.Proofs.YtmpakpdikkfofaaGreatDoor

/- dyad's Mul. -/
namespace Go.Proofs.YtmpakpdikkfofaaGreatDoor
open Go.RowKit
set_option linter.unusedVariables false
set_option maxRecDepth 20000
set_option linter.unusedSimpArgs false

/-- The product of two forms. -/
def mulF (x y : Bool × Nat × Int) : Option (Bool × Nat × Int) := mkS (x.1 != y.1) (x.2.1 * y.2.1) (x.2.2 + y.2.2)
def mulD (o p : Option (Bool × Nat × Int)) : Option (Bool × Nat × Int) :=
  match o, p with
  | some x, some y => mulF x y
  | _, _ => none

theorem lo_odd1 {X : Nat} (h : X % 2 = 1) : lo X = 0 := by
  have := lo_eq 0 (X / 2)
  rw [show 2 ^ 0 * (2 * (X / 2) + 1) = X by omega] at this
  exact this

end Go.Proofs.YtmpakpdikkfofaaGreatDoor

/- The document's Mul. -/
namespace Go.Proofs.YtmpakpdikkfofaaGreatDoor
open Go.RowKit
set_option linter.unusedVariables false
set_option maxRecDepth 20000
set_option linter.unusedSimpArgs false

theorem wrap64 (x : Int) (h0 : -9223372036854775808 ≤ x) (h1 : x ≤ 9223372036854775807) : IntKind.i64.wrap x = x := by rw [IntKind.wrap_i64]; omega

end Go.Proofs.YtmpakpdikkfofaaGreatDoor

/- The law's awake (layer 3). -/
namespace Go.Proofs.YtmpakpdikkfofaaGreatDoor
open Go.RowKit
set_option linter.unusedVariables false
set_option maxRecDepth 20000
set_option linter.unusedSimpArgs false
attribute [local go_sem] B.f64bits
theorem Dk.drew {w : World} {g : Nat} {n : Bool} {v : Value} {e : Int} (h : Dk w g n v e) : Dk w.drew g n v e := h
end Go.Proofs.YtmpakpdikkfofaaGreatDoor

/- What the laws of layer 3 share. -/
namespace Go.Proofs.YtmpakpdikkfofaaGreatDoor
open Go.RowKit
set_option linter.unusedVariables false
set_option maxRecDepth 20000

theorem Dk.but {w w' : World} {g k : Nat} {n : Bool} {v : Value} {e : Int} (h : Dk w k n v e) (hb : But g w w') (hk : k ≠ g) : Dk w' k n v e := by
  unfold Dk; rw [hb.block k h.lt hk]; exact h
end Go.Proofs.YtmpakpdikkfofaaGreatDoor

/- The document's Lent, AsLent of Dyads. -/
namespace Go.Proofs.YtmpakpdikkfofaaGreatDoor
open Go.RowKit
set_option linter.unusedVariables false
set_option maxRecDepth 20000
set_option linter.unusedSimpArgs false

theorem Own.st3 {w : World} {g : Nat} {L : List Nat} (h : Own w g L) (k : Nat) (hk : k ≠ g) (x y z : Value) : Own (((w.setCell ⟨k, 0, none⟩ x).setCell ⟨k, 1, none⟩ y).setCell ⟨k, 2, none⟩ z) g L :=
  ((h.setOther hk _).setOther hk _).setOther hk _

end Go.Proofs.YtmpakpdikkfofaaGreatDoor

/- Numbers from the top on: plain mathematics for comparing. -/
namespace Go.Proofs.YtmpakpdikkfofaaGreatDoor
open Go.RowKit
set_option linter.unusedVariables false
set_option maxRecDepth 20000

/-- What stands above the bit i. -/
def top (X : Nat) (i : Int) : Nat := if i < 0 then X * 2 ^ (-i).toNat else X / 2 ^ i.toNat
end Go.Proofs.YtmpakpdikkfofaaGreatDoor

/- Dyads as whole numbers over a common power: sums, products, what is alike, how they stand. -/
namespace Go.Proofs.YtmpakpdikkfofaaGreatDoor
open Go.RowKit
set_option linter.unusedVariables false
set_option maxRecDepth 20000

/-- A sign. -/
def sg1 (n : Bool) : Int := if n then -1 else 1
/-- The value of (n, X, e), in units of 2^B. -/
def zv (B : Int) (x : Bool × Nat × Int) : Int := sg1 x.1 * ((x.2.1 * 2 ^ (x.2.2 - B).toNat : Nat) : Int)

theorem pow_split (e l B : Int) (h : B ≤ e) (hl : 0 ≤ l) : (2 : Nat) ^ (e + l - B).toNat = 2 ^ l.toNat * 2 ^ (e - B).toNat := by
  rw [← Nat.pow_add]; congr 1; omega

theorem zv_mkS {n : Bool} {X : Nat} {e : Int} {x : Bool × Nat × Int} (h : mkS n X e = some x) (B : Int) (hB : X = 0 ∨ B ≤ e) : zv B x = sg1 n * ((X * 2 ^ (e - B).toNat : Nat) : Int) := by
  unfold mkS at h
  by_cases h0 : X = 0
  · rw [if_pos h0] at h
    cases h
    subst h0
    simp [zv]
  · rw [if_neg h0] at h
    split at h
    · cases h
    · cases h
      have hB' : B ≤ e := by rcases hB with h | h; exact absurd h h0; exact h
      obtain ⟨m, hm, hd, _⟩ := odd_part X h0
      show sg1 n * ((X / 2 ^ lo X * 2 ^ (e + (lo X : Int) - B).toNat : Nat) : Int) = _
      rw [pow_split e (lo X) B hB' (by omega), Int.toNat_natCast, ← Nat.mul_assoc]
      have hx : X / 2 ^ lo X * 2 ^ lo X = X := by rw [hd]; rw [Nat.mul_comm]; exact hm.symm
      rw [hx]

theorem sg1_ne {n m : Bool} (h : ¬ n = m) : sg1 m = -sg1 n := by cases n <;> cases m <;> first | exact absurd rfl h | rfl
theorem sg1_not (n : Bool) : sg1 (!n) = -sg1 n := by cases n <;> rfl
theorem sg1_bne (n m : Bool) : sg1 (n != m) = sg1 n * sg1 m := by cases n <;> cases m <;> rfl

theorem zv_addUp {n m : Bool} {X Y : Nat} {e f : Int} {z : Bool × Nat × Int} (h : addUp n X e m Y f = some z) (hfe : f ≤ e) (B : Int) (hB : B ≤ f) : zv B z = zv B (n, X, e) + zv B (m, Y, f) := by
  unfold addUp at h
  split at h
  · cases h
  · have key : X * 2 ^ (e - f).toNat * 2 ^ (f - B).toNat = X * 2 ^ (e - B).toNat := by
      rw [Nat.mul_assoc, ← Nat.pow_add, show (e - f).toNat + (f - B).toNat = (e - B).toNat by omega]
    show zv B z = sg1 n * ((X * 2 ^ (e - B).toNat : Nat) : Int) + sg1 m * ((Y * 2 ^ (f - B).toNat : Nat) : Int)
    generalize 2 ^ (e - f).toNat = P at h key
    split at h
    · rename_i hnm
      rw [zv_mkS h B (.inr hB), hnm, ← Int.mul_add, Nat.add_mul, key, Int.natCast_add]
    · rename_i hnm
      split at h
      · rename_i hle
        rw [zv_mkS h B (.inr hB), sg1_ne hnm, Nat.sub_mul, key, Int.ofNat_sub (by rw [← key]; exact Nat.mul_le_mul_right _ hle), Int.mul_sub, Int.neg_mul]
        omega
      · rename_i hle
        rw [zv_mkS h B (.inr hB), sg1_not, sg1_ne hnm, Nat.sub_mul, key, Int.ofNat_sub (by rw [← key]; exact Nat.mul_le_mul_right _ (by omega)), Int.mul_sub, Int.neg_mul, Int.neg_mul]
        omega

theorem zv_zero {x : Bool × Nat × Int} (B : Int) (h : x.2.1 = 0) : zv B x = 0 := by unfold zv; rw [h]; simp

theorem zv_addF {x y z : Bool × Nat × Int} (h : addF x y = some z) (B : Int) (hx : x.2.1 = 0 ∨ B ≤ x.2.2) (hy : y.2.1 = 0 ∨ B ≤ y.2.2) : zv B z = zv B x + zv B y := by
  obtain ⟨n, X, e⟩ := x
  obtain ⟨m, Y, f⟩ := y
  unfold addF at h
  simp only at h hx hy
  by_cases h0 : X = 0
  · rw [if_pos h0] at h
    cases h
    rw [zv_zero (x := (n, X, e)) B h0, Int.zero_add]
  · rw [if_neg h0] at h
    by_cases h1 : Y = 0
    · rw [if_pos h1] at h
      cases h
      rw [zv_zero (x := (m, Y, f)) B h1, Int.add_zero]
    · rw [if_neg h1] at h
      have hx' : B ≤ e := by rcases hx with k | k; exact absurd k h0; exact k
      have hy' : B ≤ f := by rcases hy with k | k; exact absurd k h1; exact k
      by_cases h2 : e < f
      · rw [if_pos h2] at h
        rw [zv_addUp h (by omega) B hx', Int.add_comm]
      · rw [if_neg h2] at h
        exact zv_addUp h (by omega) B hy'

theorem zv_mulF {x y z : Bool × Nat × Int} (h : mulF x y = some z) (B C : Int) (hx : x.2.1 = 0 ∨ B ≤ x.2.2) (hy : y.2.1 = 0 ∨ C ≤ y.2.2) : zv (B + C) z = zv B x * zv C y := by
  obtain ⟨n, X, e⟩ := x
  obtain ⟨m, Y, f⟩ := y
  unfold mulF at h
  simp only at h hx hy
  by_cases h0 : X = 0
  · subst h0
    rw [Nat.zero_mul] at h
    rw [zv_mkS h _ (.inl rfl), zv_zero (x := (n, 0, e)) B rfl]
    simp
  · by_cases h1 : Y = 0
    · subst h1
      rw [Nat.mul_zero] at h
      rw [zv_mkS h _ (.inl rfl), zv_zero (x := (m, 0, f)) C rfl]
      simp
    · have hx' : B ≤ e := by rcases hx with k | k; exact absurd k h0; exact k
      have hy' : C ≤ f := by rcases hy with k | k; exact absurd k h1; exact k
      rw [zv_mkS h _ (.inr (by omega)), sg1_bne]
      unfold zv
      simp only
      rw [show (e + f - (B + C)).toNat = (e - B).toNat + (f - C).toNat by omega, Nat.pow_add]
      rw [show X * Y * (2 ^ (e - B).toNat * 2 ^ (f - C).toNat) = (X * 2 ^ (e - B).toNat) * (Y * 2 ^ (f - C).toNat) by rw [Nat.mul_mul_mul_comm]]
      rw [Int.natCast_mul, Int.mul_assoc, Int.mul_assoc]
      congr 1
      rw [← Int.mul_assoc, ← Int.mul_assoc]
      congr 1
      exact Int.mul_comm _ _

/-- What has one value has one form. -/
theorem odd_pow {X Y : Nat} (a b : Nat) (hX : X % 2 = 1) (hY : Y % 2 = 1) (h : X * 2 ^ a = Y * 2 ^ b) : X = Y ∧ a = b := by
  have key : ∀ (a b X Y : Nat), X % 2 = 1 → Y % 2 = 1 → X * 2 ^ a = Y * 2 ^ b → a ≤ b := by
    intro a b X Y hX hY h
    rcases Nat.lt_or_ge b a with k | k
    · exfalso
      obtain ⟨d, rfl⟩ : ∃ d, a = b + (d + 1) := ⟨a - b - 1, by omega⟩
      rw [Nat.pow_add, Nat.mul_comm (2 ^ b), ← Nat.mul_assoc] at h
      have := Nat.eq_of_mul_eq_mul_right (Nat.two_pow_pos b) h
      rw [Nat.pow_succ, ← Nat.mul_assoc] at this
      omega
    · exact k
  have h1 := key a b X Y hX hY h
  have h2 := key b a Y X hY hX h.symm
  have e : a = b := by omega
  subst e
  exact ⟨Nat.eq_of_mul_eq_mul_right (Nat.two_pow_pos a) h, rfl⟩

theorem zv_inj {n m : Bool} {X Y : Nat} {e f : Int} (FX : Frm n X e) (FY : Frm m Y f) (B : Int) (hB : B ≤ -1048576) (h : zv B (n, X, e) = zv B (m, Y, f)) : n = m ∧ X = Y ∧ e = f := by
  have hx := FX.down
  have hy := FY.down
  unfold zv at h
  simp only at h
  have hpX : 0 < 2 ^ (e - B).toNat := Nat.two_pow_pos _
  have hpY : 0 < 2 ^ (f - B).toNat := Nat.two_pow_pos _
  rcases FX.odd with oX | ⟨rfl, rfl, rfl⟩
  · rcases FY.odd with oY | ⟨rfl, rfl, rfl⟩
    · have pX : 0 < X * 2 ^ (e - B).toNat := Nat.mul_pos (by omega) hpX
      have pY : 0 < Y * 2 ^ (f - B).toNat := Nat.mul_pos (by omega) hpY
      have hn : n = m := by
        generalize X * 2 ^ (e - B).toNat = P at h pX
        generalize Y * 2 ^ (f - B).toNat = Q at h pY
        cases n <;> cases m <;> first | rfl | (simp only [sg1, Bool.false_eq_true, if_true, if_false] at h; omega)
      subst hn
      have hPQ : X * 2 ^ (e - B).toNat = Y * 2 ^ (f - B).toNat := by
        generalize X * 2 ^ (e - B).toNat = P at h
        generalize Y * 2 ^ (f - B).toNat = Q at h
        cases n <;> (simp only [sg1, Bool.false_eq_true, if_true, if_false] at h; omega)
      obtain ⟨h1, h2⟩ := odd_pow _ _ oX oY hPQ
      exact ⟨rfl, h1, by omega⟩
    · exfalso
      have pX : 0 < X * 2 ^ (e - B).toNat := Nat.mul_pos (by omega) hpX
      generalize X * 2 ^ (e - B).toNat = P at h pX
      rw [Nat.zero_mul] at h
      cases n <;> (simp only [sg1, Bool.false_eq_true, if_true, if_false] at h; omega)
  · rcases FY.odd with oY | ⟨rfl, rfl, rfl⟩
    · exfalso
      have pY : 0 < Y * 2 ^ (f - B).toNat := Nat.mul_pos (by omega) hpY
      generalize Y * 2 ^ (f - B).toNat = Q at h pY
      rw [Nat.zero_mul] at h
      cases m <;> (simp only [sg1, Bool.false_eq_true, if_true, if_false] at h; omega)
    · exact ⟨rfl, rfl, rfl⟩
end Go.Proofs.YtmpakpdikkfofaaGreatDoor

/- Dyads are a ring; Cmp is the Sign of Sub. -/
namespace Go.Proofs.YtmpakpdikkfofaaGreatDoor
open Go.RowKit
set_option linter.unusedVariables false
set_option maxRecDepth 20000

theorem mkS_idem {n : Bool} {X : Nat} {e : Int} (F : Frm n X e) : mkS n X e = some (n, X, e) := by
  unfold mkS
  rcases F.odd with h | ⟨rfl, rfl, rfl⟩
  · have h1 := F.size; have h2 := F.up; have h3 := F.down
    rw [if_neg (by omega), lo_odd1 h, if_neg (by omega), Nat.pow_zero, Nat.div_one]
    simp
  · rw [if_pos rfl]
theorem addUp_frm {n m : Bool} {X Y : Nat} {e f : Int} {n' : Bool} {Z : Nat} {g : Int} (h : addUp n X e m Y f = some (n', Z, g)) : Frm n' Z g := by
  unfold addUp at h
  split at h
  · cases h
  · split at h
    · exact mkS_frm h
    · split at h
      · exact mkS_frm h
      · exact mkS_frm h
theorem addF_frm {n m : Bool} {X Y : Nat} {e f : Int} (FX : Frm n X e) (FY : Frm m Y f) {n' : Bool} {Z : Nat} {g : Int} (h : addF (n, X, e) (m, Y, f) = some (n', Z, g)) : Frm n' Z g := by
  unfold addF at h
  simp only at h
  split at h
  · cases h; exact FY
  · split at h
    · cases h; exact FX
    · split at h
      · exact addUp_frm h
      · exact addUp_frm h
theorem addD_some {o p : Option (Bool × Nat × Int)} (h : (addD o p).isSome = true) : ∃ x y z, o = some x ∧ p = some y ∧ addF x y = some z ∧ addD o p = some z := by
  cases o with
  | none => cases h
  | some x =>
    cases p with
    | none => cases h
    | some y =>
      obtain ⟨z, hz⟩ := Option.isSome_iff_exists.1 h
      exact ⟨x, y, z, rfl, rfl, hz, hz⟩
theorem mulD_some {o p : Option (Bool × Nat × Int)} (h : (mulD o p).isSome = true) : ∃ x y z, o = some x ∧ p = some y ∧ mulF x y = some z ∧ mulD o p = some z := by
  cases o with
  | none => cases h
  | some x =>
    cases p with
    | none => cases h
    | some y =>
      obtain ⟨z, hz⟩ := Option.isSome_iff_exists.1 h
      exact ⟨x, y, z, rfl, rfl, hz, hz⟩

/-- A form whose value is known. -/
structure Fv (B : Int) (o : Option (Bool × Nat × Int)) (z : Int) : Prop where
  ex : ∃ n X e, o = some (n, X, e) ∧ Frm n X e ∧ zv B (n, X, e) = z
theorem Frm.base {n : Bool} {X : Nat} {e : Int} (F : Frm n X e) {B : Int} (hB : B ≤ -1048576) : X = 0 ∨ B ≤ e := .inr (by have := F.down; omega)
theorem Fv.add {B : Int} (hB : B ≤ -1048576) {o p : Option (Bool × Nat × Int)} {x y : Int} (h1 : Fv B o x) (h2 : Fv B p y) (h : (addD o p).isSome = true) : Fv B (addD o p) (x + y) := by
  obtain ⟨n, X, e, rfl, F, rfl⟩ := h1.ex
  obtain ⟨m, Y, f, rfl, G, rfl⟩ := h2.ex
  obtain ⟨_, _, z, e1, e2, hz, hd⟩ := addD_some h
  cases e1; cases e2
  obtain ⟨n', Z, g⟩ := z
  exact ⟨n', Z, g, hd, addF_frm F G hz, zv_addF hz B (F.base hB) (G.base hB)⟩
theorem Fv.mul {B C : Int} (hB : B ≤ -1048576) (hC : C ≤ -1048576) {o p : Option (Bool × Nat × Int)} {x y : Int} (h1 : Fv B o x) (h2 : Fv C p y) (h : (mulD o p).isSome = true) : Fv (B + C) (mulD o p) (x * y) := by
  obtain ⟨n, X, e, rfl, F, rfl⟩ := h1.ex
  obtain ⟨m, Y, f, rfl, G, rfl⟩ := h2.ex
  obtain ⟨_, _, z, e1, e2, hz, hd⟩ := mulD_some h
  cases e1; cases e2
  obtain ⟨n', Z, g⟩ := z
  exact ⟨n', Z, g, hd, mkS_frm hz, zv_mulF hz B C (F.base hB) (G.base hC)⟩
theorem Fv.same {B : Int} (hB : B ≤ -1048576) {o p : Option (Bool × Nat × Int)} {x y : Int} (h1 : Fv B o x) (h2 : Fv B p y) (h : x = y) : dN o = dN p ∧ dX o = dX p ∧ dE o = dE p := by
  obtain ⟨n, X, e, rfl, F, rfl⟩ := h1.ex
  obtain ⟨m, Y, f, rfl, G, rfl⟩ := h2.ex
  exact zv_inj F G B hB h
theorem Fv.raw {n : Bool} {X : Nat} {e B : Int} (hB : B ≤ e) (h : (mkS n X e).isSome = true) : Fv B (mkS n X e) (sg1 n * ((X * 2 ^ (e - B).toNat : Nat) : Int)) := by
  obtain ⟨⟨n', Y, f⟩, hz⟩ := Option.isSome_iff_exists.1 h
  exact ⟨n', Y, f, hz, mkS_frm hz, zv_mkS hz B (.inr hB)⟩
theorem Fv.neg {n : Bool} {X : Nat} {e B : Int} (hB : B ≤ e) (h : (mkS n X e).isSome = true) : Fv B (mkS (!n) X e) (-(sg1 n * ((X * 2 ^ (e - B).toNat : Nat) : Int))) := by
  have h2 : (mkS (!n) X e).isSome = true := by
    unfold mkS at h ⊢
    split
    · rfl
    · rename_i h0
      rw [if_neg h0] at h
      split
      · rename_i h1; rw [if_pos h1] at h; cases h
      · rfl
  have := Fv.raw hB h2
  rw [sg1_not, Int.neg_mul] at this
  exact this

end Go.Proofs.YtmpakpdikkfofaaGreatDoor

/- Where a value lies among the numbers of 64 bits: plain mathematics of rounding. -/
namespace Go.Proofs.YtmpakpdikkfofaaGreatDoor
open Go.RowKit
set_option linter.unusedVariables false
set_option maxRecDepth 20000

/-- How the place of a value stands to it (units of 2^Bs). -/
theorem plc_floor (dg : Nat) (least top : Int) (X : Nat) (e : Int) (ho : X % 2 = 1) (Bs : Int) (h1 : Bs ≤ e) (h2 : Bs ≤ least) (hin : ¬ top < e + (bl X : Int)) :
    Bs ≤ (plc dg least top X e).2.1 ∧
    (((plc dg least top X e).2.2.1 = true ∧ X * 2 ^ (e - Bs).toNat = (plc dg least top X e).1 * 2 ^ ((plc dg least top X e).2.1 - Bs).toNat) ∨
     ((plc dg least top X e).2.2.1 = false ∧ (plc dg least top X e).1 * 2 ^ ((plc dg least top X e).2.1 - Bs).toNat < X * 2 ^ (e - Bs).toNat ∧ X * 2 ^ (e - Bs).toNat < ((plc dg least top X e).1 + 1) * 2 ^ ((plc dg least top X e).2.1 - Bs).toNat ∧
      ((plc dg least top X e).2.2.2 = -1 ∧ 2 * (X * 2 ^ (e - Bs).toNat) < (2 * (plc dg least top X e).1 + 1) * 2 ^ ((plc dg least top X e).2.1 - Bs).toNat ∨
       (plc dg least top X e).2.2.2 = 0 ∧ 2 * (X * 2 ^ (e - Bs).toNat) = (2 * (plc dg least top X e).1 + 1) * 2 ^ ((plc dg least top X e).2.1 - Bs).toNat ∨
       (plc dg least top X e).2.2.2 = 1 ∧ (2 * (plc dg least top X e).1 + 1) * 2 ^ ((plc dg least top X e).2.1 - Bs).toNat < 2 * (X * 2 ^ (e - Bs).toNat)))) := by
  unfold plc
  rw [if_neg hin]
  simp only
  obtain ⟨ex, hex⟩ : ∃ ex, max (e + (bl X : Int) - (dg : Int)) least = ex := ⟨_, rfl⟩
  rw [hex]
  have hle : least ≤ ex := by omega
  by_cases hoff : ex - e ≤ 0
  · rw [if_pos hoff]
    simp only
    refine ⟨by omega, .inl ⟨trivial, ?_⟩⟩
    rw [Nat.mul_assoc, ← Nat.pow_add, show (-(ex - e)).toNat + (ex - Bs).toNat = (e - Bs).toNat by omega]
  · rw [if_neg hoff]
    simp only
    obtain ⟨k, hk⟩ : ∃ k : Nat, (ex - e).toNat = k := ⟨_, rfl⟩
    have hk0 : 0 < k := by omega
    have hexB : (ex - Bs).toNat = k + (e - Bs).toNat := by omega
    have hk1 : (ex - e - 1).toNat = k - 1 := by omega
    rw [hk, hexB, hk1, Nat.pow_add]
    obtain ⟨Q, hQ⟩ : ∃ Q, 2 ^ (e - Bs).toNat = Q := ⟨_, rfl⟩
    have hQ0 : 0 < Q := by rw [← hQ]; exact Nat.two_pow_pos _
    rw [hQ]
    have hdm := Nat.div_add_mod X (2 ^ k)
    have hmod := Nat.mod_lt X (Nat.two_pow_pos k)
    obtain ⟨F, hF⟩ : ∃ F, X / 2 ^ k = F := ⟨_, rfl⟩
    obtain ⟨R, hR⟩ : ∃ R, X % 2 ^ k = R := ⟨_, rfl⟩
    have hhalf : 2 ^ k = 2 * 2 ^ (k - 1) := by rw [show k = k - 1 + 1 by omega, Nat.pow_succ, Nat.mul_comm]; rfl
    have hbit : X / 2 ^ (k - 1) % 2 = R / 2 ^ (k - 1) := by
      rw [← hR, hhalf]
      rw [Nat.mul_comm 2, Nat.mod_mul_right_div_self]
    obtain ⟨Hf, hHf⟩ : ∃ Hf, 2 ^ (k - 1) = Hf := ⟨_, rfl⟩
    have hHf0 : 0 < Hf := by rw [← hHf]; exact Nat.two_pow_pos _
    rw [hHf] at hhalf hbit ⊢
    rw [hbit]
    rw [hhalf] at hdm hmod hF hR ⊢
    rw [hF, hR] at hdm
    rw [hR] at hmod
    rw [hF]
    have hR0 : R ≠ 0 := by
      intro h
      rw [h, Nat.add_zero, Nat.mul_assoc] at hdm
      omega
    have e1 : F * (2 * Hf * Q) = (F * (2 * Hf)) * Q := (Nat.mul_assoc _ _ _).symm
    have e2 : (F + 1) * (2 * Hf * Q) = ((F + 1) * (2 * Hf)) * Q := (Nat.mul_assoc _ _ _).symm
    have e3 : (2 * F + 1) * (2 * Hf * Q) = (2 * (F * (2 * Hf)) + 2 * Hf) * Q := by
      rw [Nat.add_mul, Nat.add_mul, Nat.one_mul, Nat.mul_assoc 2 F, ← Nat.mul_assoc F, Nat.mul_assoc 2 (F * (2 * Hf)) Q]
    have e4 : 2 * (X * Q) = (2 * X) * Q := by rw [Nat.mul_assoc]
    have e5 : 2 * Hf * F = F * (2 * Hf) := Nat.mul_comm _ _
    rw [e5] at hdm
    have e6 : (F + 1) * (2 * Hf) = F * (2 * Hf) + 2 * Hf := by rw [Nat.add_mul, Nat.one_mul]
    rw [e1, e2, e3, e4, e6]
    generalize F * (2 * Hf) = G at hdm ⊢
    refine ⟨by omega, .inr ⟨trivial, Nat.mul_lt_mul_of_pos_right (by omega) hQ0, Nat.mul_lt_mul_of_pos_right (by omega) hQ0, ?_⟩⟩
    by_cases hone : ex - e = 1
    · rw [if_pos hone]
      have hk1' : k = 1 := by omega
      have hHf1 : Hf = 1 := by rw [← hHf, hk1']
      refine .inr (.inl ⟨rfl, ?_⟩)
      congr 1
      omega
    · rw [if_neg hone]
      have hHf2 : Hf % 2 = 0 := by
        rw [← hHf, show k - 1 = k - 2 + 1 by omega, Nat.pow_succ]; omega
      have hRodd : R % 2 = 1 := by
        have : G % 2 = 0 ∨ True := .inr trivial
        rw [← hR]
        rw [Nat.mod_mul_right_mod]
        exact ho
      by_cases hge : Hf ≤ R
      · have hd1 : R / Hf = 1 := by
          rw [Nat.div_eq_iff hHf0]; omega
        rw [hd1, if_pos rfl]
        refine .inr (.inr ⟨rfl, Nat.mul_lt_mul_of_pos_right ?_ hQ0⟩)
        have : R ≠ Hf := by intro h; rw [h] at hRodd; omega
        omega
      · have hd0 : R / Hf = 0 := Nat.div_eq_of_lt (by omega)
        rw [hd0, if_neg (by omega)]
        exact .inl ⟨rfl, Nat.mul_lt_mul_of_pos_right (by omega) hQ0⟩

/-- The greatest finite word that is not above a value, and the word after it. -/
def flK (X : Nat) (e : Int) : Nat := ((plc 53 (-1074) 1024 X e).2.1 + 1074).toNat * 4503599627370496 + (plc 53 (-1074) 1024 X e).1
/-- A word's value. -/
abbrev vK (K : Nat) : Nat := B.val Ieee.double K
theorem vK_lt {K L : Nat} : vK K < vK L ↔ K < L := B.val_lt_iff Ieee.double
theorem vK_word (j F : Nat) (h : j = 0 ∨ 4503599627370496 ≤ F) (hF : F ≤ 9007199254740992) : vK (j * 4503599627370496 + F) = F * 2 ^ j := by
  have := B.val_at Ieee.double j F (by rw [B.dBin]; exact h) (by rw [B.dBin]; omega)
  rw [B.dBin] at this
  exact this

/-- Where a value lies: at a word, or between it and the next one; how it stands to their middle. V: the value, S: what the words' unit is. -/
structure Lies (K : Nat) (at' : Bool) (mid : Int) (V S : Nat) : Prop where
  fin : K < 9218868437227405312
  pos : 0 < S
  one : at' = true → V = vK K * S
  low : at' = false → vK K * S < V
  mids : at' = false → V < vK (K + 1) * S → (mid = -1 ∧ 2 * V < vK K * S + vK (K + 1) * S ∨ mid = 0 ∧ 2 * V = vK K * S + vK (K + 1) * S ∨ mid = 1 ∧ vK K * S + vK (K + 1) * S < 2 * V)
  high : at' = false → V < vK (K + 1) * S ∨ (K = 9218868437227405311 ∧ mid = 1)

theorem lies (X : Nat) (e : Int) (hX : X % 2 = 1) (he0 : -1048576 ≤ e) (he1 : e ≤ 1048576) (Bs : Int) (h1 : Bs ≤ e) (h2 : Bs ≤ -1074) :
    Lies (flK X e) (plc 53 (-1074) 1024 X e).2.2.1 (plc 53 (-1074) 1024 X e).2.2.2 (X * 2 ^ (e - Bs).toNat) (2 ^ (-1074 - Bs).toNat) := by
  have hX0 : X ≠ 0 := by omega
  obtain ⟨f1, f2, f3, f4⟩ := plc_facts X e hX0 he0 he1
  obtain ⟨j, hj⟩ : ∃ j : Nat, ((plc 53 (-1074) 1024 X e).2.1 + 1074).toNat = j := ⟨_, rfl⟩
  have hS : 0 < 2 ^ (-1074 - Bs).toNat := Nat.two_pow_pos _
  have hw : ∀ F, F ≤ 9007199254740992 → (j = 0 ∨ 4503599627370496 ≤ F) → vK (j * 4503599627370496 + F) * 2 ^ (-1074 - Bs).toNat = F * 2 ^ ((plc 53 (-1074) 1024 X e).2.1 - Bs).toNat := by
    intro F hF hn
    rw [vK_word j F hn hF, Nat.mul_assoc, ← Nat.pow_add]
    congr 2
    omega
  have hn1 : j = 0 ∨ 4503599627370496 ≤ (plc 53 (-1074) 1024 X e).1 := by
    rcases f4 with h | h
    · left; omega
    · exact .inr h
  have w1 := hw (plc 53 (-1074) 1024 X e).1 (by omega) hn1
  have w2 := hw ((plc 53 (-1074) 1024 X e).1 + 1) (by omega) (by rcases hn1 with h | h; exact .inl h; exact .inr (by omega))
  have hflK : flK X e = j * 4503599627370496 + (plc 53 (-1074) 1024 X e).1 := by unfold flK; rw [hj]
  have hflK1 : flK X e + 1 = j * 4503599627370496 + ((plc 53 (-1074) 1024 X e).1 + 1) := by rw [hflK]; omega
  have hfin : flK X e < 9218868437227405312 := by rw [hflK]; omega
  rw [← hflK] at w1
  rw [← hflK1] at w2
  by_cases hin : 1024 < e + (bl X : Int)
  · have hp : plc 53 (-1074) 1024 X e = ((2 ^ 53 - 1 : Nat), ((1024 : Int) - ((53 : Nat) : Int)), false, (1 : Int)) := by unfold plc; rw [if_pos hin]
    have hK : flK X e = 9218868437227405311 := by unfold flK; rw [hp]; rfl
    refine ⟨hfin, hS, fun h => (by rw [hp] at h; cases h), fun _ => ?_, fun _ hlt => ?_, fun _ => .inr ⟨hK, (by rw [hp])⟩⟩
    · rw [w1]
      have hlow : (2 ^ 53 - 1) * 2 ^ (971 - Bs).toNat < 2 ^ 53 * 2 ^ (971 - Bs).toNat := Nat.mul_lt_mul_of_pos_right (by decide) (Nat.two_pow_pos _)
      have hup : 2 ^ 53 * 2 ^ (971 - Bs).toNat ≤ X * 2 ^ (e - Bs).toNat := by
        have hb := bl_ge X hX0
        have hbp := bl_pos X hX0
        refine Nat.le_trans ?_ (Nat.mul_le_mul_right _ hb)
        rw [← Nat.pow_add, ← Nat.pow_add]
        exact Nat.pow_le_pow_right (by omega) (by omega)
      rw [hp]
      exact Nat.lt_of_lt_of_le hlow hup
    · exfalso
      rw [w2, hp] at hlt
      have hup : 2 ^ 53 * 2 ^ (971 - Bs).toNat ≤ X * 2 ^ (e - Bs).toNat := by
        have hb := bl_ge X hX0
        have hbp := bl_pos X hX0
        refine Nat.le_trans ?_ (Nat.mul_le_mul_right _ hb)
        rw [← Nat.pow_add, ← Nat.pow_add]
        exact Nat.pow_le_pow_right (by omega) (by omega)
      exact absurd hlt (Nat.not_lt.2 hup)
  · obtain ⟨_, hfl⟩ := plc_floor 53 (-1074) 1024 X e hX Bs h1 h2 hin
    have hmid : vK (flK X e) * 2 ^ (-1074 - Bs).toNat + vK (flK X e + 1) * 2 ^ (-1074 - Bs).toNat = (2 * (plc 53 (-1074) 1024 X e).1 + 1) * 2 ^ ((plc 53 (-1074) 1024 X e).2.1 - Bs).toNat := by
      rw [w1, w2, ← Nat.add_mul]; congr 1; omega
    rcases hfl with ⟨ht, hv⟩ | ⟨hf, hlo, hhi, hm⟩
    · exact ⟨hfin, hS, fun _ => (by rw [w1]; exact hv), fun h => (by rw [ht] at h; cases h), fun h => (by rw [ht] at h; cases h), fun h => (by rw [ht] at h; cases h)⟩
    · refine ⟨hfin, hS, fun h => (by rw [hf] at h; cases h), fun _ => (by rw [w1]; exact hlo), fun _ _ => (by rw [hmid]; exact hm), fun _ => .inl (by rw [w2]; exact hhi)⟩
end Go.Proofs.YtmpakpdikkfofaaGreatDoor

/- Rounding: what is not greater is not rounded to what is greater; neighbours; the nearest. -/
namespace Go.Proofs.YtmpakpdikkfofaaGreatDoor
open Go.RowKit
set_option linter.unusedVariables false
set_option maxRecDepth 20000

theorem vS_le {K L S : Nat} (h : K ≤ L) : vK K * S ≤ vK L * S := by
  rcases Nat.lt_or_ge K L with k | k
  · exact Nat.mul_le_mul_right _ (Nat.le_of_lt (vK_lt.2 k))
  · rw [show K = L by omega]; exact Nat.le_refl _
theorem vS_lt {K L S : Nat} (hS : 0 < S) (h : K < L) : vK K * S < vK L * S := Nat.mul_lt_mul_of_pos_right (vK_lt.2 h) hS
theorem Lies.ge {K : Nat} {t : Bool} {m : Int} {V S : Nat} (h : Lies K t m V S) : vK K * S ≤ V := by
  cases ht : t
  · exact Nat.le_of_lt (h.low ht)
  · rw [h.one ht]; exact Nat.le_refl _

/-- The word that is answered. -/
def rK (mode : Int) (n : Bool) (K : Nat) (t : Bool) (m : Int) : Nat := if t then K else if outS mode K m n then K + 1 else K
theorem outS_par (mode : Int) (j F : Nat) (m : Int) (n : Bool) : outS mode (j * 4503599627370496 + F) m n = outS mode F m n := by
  unfold outS
  rw [show (j * 4503599627370496 + F) % 2 = F % 2 by omega]
theorem rndK_eq (mode : Int) (n : Bool) (X : Nat) (e : Int) : rndK mode n X e = rK mode n (flK X e) (plc 53 (-1074) 1024 X e).2.2.1 (plc 53 (-1074) 1024 X e).2.2.2 := by
  unfold rndK rK flK
  simp only
  rw [outS_par]
  split
  · rfl
  · split <;> omega

/-- A word's own value is answered as that word. -/
theorem rK_own (mode : Int) (n : Bool) {K : Nat} {t : Bool} {m : Int} {V S : Nat} (h : Lies K t m V S) (L : Nat) (hL : L < 9218868437227405312) (hV : V = vK L * S) : rK mode n K t m = L := by
  have hKL : K ≤ L := by
    rcases Nat.lt_or_ge L K with k | k
    · exfalso
      have a1 := h.ge
      have a2 := vS_lt h.pos k
      omega
    · exact k
  by_cases ht : t = true
  · have : vK K = vK L := Nat.eq_of_mul_eq_mul_right h.pos (by rw [← hV, h.one ht])
    unfold rK
    rw [if_pos ht]
    exact B.val_inj Ieee.double this
  · exfalso
    have htf : t = false := by simpa using ht
    have a1 := h.low htf
    have hlt : K < L := by
      rcases Nat.lt_or_ge K L with k | k
      · exact k
      · have : K = L := by omega
        rw [this] at a1
        omega
    rcases h.high htf with q | ⟨q, _⟩
    · have a2 : vK (K + 1) * S ≤ vK L * S := vS_le (by omega)
      omega
    · omega
end Go.Proofs.YtmpakpdikkfofaaGreatDoor

/- DyadNear: the plain mathematics of what it asks. -/
namespace Go.Proofs.YtmpakpdikkfofaaGreatDoor
open Go.RowKit
set_option linter.unusedVariables false
set_option maxRecDepth 20000

/-- A word with its sign. -/
def wd64 (s : Bool) (K : Nat) : Nat := K + (if s then 9223372036854775808 else 0)
/-- A word's signed place. -/
def sK (s : Bool) (K : Nat) : Int := if s then -(K : Int) else K
theorem wd64_bw (s : Bool) (K : Nat) (h : K ≤ 9218868437227405312) : wd64 s K = B.bw s (K / 4503599627370496) (K % 4503599627370496) ∧ K / 4503599627370496 < 2048 ∧ K % 4503599627370496 < 4503599627370496 ∧ B.odd (K / 4503599627370496) (K % 4503599627370496) = false ∧ B.pl s (K / 4503599627370496) (K % 4503599627370496) = sK s K := by
  refine ⟨?_, by omega, by omega, ?_, ?_⟩
  · unfold wd64 B.bw
    cases s
    · simp; omega
    · simp; omega
  · unfold B.odd
    simp
    omega
  · unfold B.pl B.sg sK
    rw [show K / 4503599627370496 * 4503599627370496 + K % 4503599627370496 = K by omega]
theorem gt64 (s t : Bool) (K L : Nat) (hK : K ≤ 9218868437227405312) (hL : L ≤ 9218868437227405312) : (FloatKind.f64.format.order (wd64 s K) (wd64 t L) == some .gt) = decide (sK t L < sK s K) := by
  obtain ⟨a1, a2, a3, a4, a5⟩ := wd64_bw s K hK
  obtain ⟨b1, b2, b3, b4, b5⟩ := wd64_bw t L hL
  rw [a1, b1, B.gt_f64 s t _ _ _ _ a2 a3 b2 b3, a4, b4, a5, b5]
  simp
theorem lt64 (s t : Bool) (K L : Nat) (hK : K ≤ 9218868437227405312) (hL : L ≤ 9218868437227405312) : (FloatKind.f64.format.order (wd64 s K) (wd64 t L) == some .lt) = decide (sK s K < sK t L) := by
  obtain ⟨a1, a2, a3, a4, a5⟩ := wd64_bw s K hK
  obtain ⟨b1, b2, b3, b4, b5⟩ := wd64_bw t L hL
  rw [a1, b1, B.lt_f64 s t _ _ _ _ a2 a3 b2 b3, a4, b4, a5, b5]
  simp
theorem eq64 (s t : Bool) (K L : Nat) (hK : K ≤ 9218868437227405312) (hL : L ≤ 9218868437227405312) : (FloatKind.f64.format.order (wd64 s K) (wd64 t L) == some .eq) = decide (sK s K = sK t L) := by
  obtain ⟨a1, a2, a3, a4, a5⟩ := wd64_bw s K hK
  obtain ⟨b1, b2, b3, b4, b5⟩ := wd64_bw t L hL
  rw [a1, b1, B.eq_f64 s t _ _ _ _ a2 a3 b2 b3, a4, b4, a5, b5]
  simp

/-- What a form is rounded to: the sign, the word. -/
def rS (n : Bool) (X : Nat) : Bool := if X = 0 then false else n
def rW (mode : Int) (n : Bool) (X : Nat) (e : Int) : Nat := if X = 0 then 0 else rndK mode n X e
theorem rndS_form (mode : Int) (n : Bool) (X : Nat) (e : Int) (h0 : 0 ≤ mode) (h4 : mode ≤ 4) : rndS (some (n, X, e)) mode = (wd64 (rS n X) (rW mode n X e), 0) := by
  unfold rndS
  rw [if_neg (by omega)]
  simp only
  unfold rS rW wd64
  by_cases h : X = 0
  · rw [if_pos h, if_pos h, if_pos h]; rfl
  · rw [if_neg h, if_neg h, if_neg h]
theorem rW_le (mode : Int) (n : Bool) (X : Nat) (e : Int) (F : Frm n X e) : rW mode n X e ≤ 9218868437227405312 := by
  unfold rW
  split
  · omega
  · rename_i h
    have ho : X % 2 = 1 := by rcases F.odd with k | k; exact k; exact absurd k.1 h
    have L := lies X e ho F.down F.up (min e (-1074)) (by omega) (by omega)
    rw [rndK_eq]
    have := L.fin
    unfold rK
    split
    · omega
    · split <;> omega

theorem frm_odd {n : Bool} {X : Nat} {e : Int} (F : Frm n X e) (h : X ≠ 0) : X % 2 = 1 := by rcases F.odd with k | k; exact k; exact absurd k.1 h

end Go.Proofs.YtmpakpdikkfofaaGreatDoor

/- The document's small functions on a number's bits. -/
namespace Go.Proofs.YtmpakpdikkfofaaGreatDoor
open Go.RowKit
set_option linter.unusedVariables false
set_option maxRecDepth 20000
set_option linter.unusedSimpArgs false
attribute [local go_sem] B.f64bits B.f64frombits st_float
/-- A word without its sign; is there a sign; the sign turned. -/
def magW (x : Nat) : Nat := x % 9223372036854775808
def negW (x : Nat) : Bool := decide (9223372036854775808 ≤ x)
def turnW (x : Nat) : Nat := if 9223372036854775808 ≤ x then x - 9223372036854775808 else x + 9223372036854775808

end Go.Proofs.YtmpakpdikkfofaaGreatDoor

/- DyadNear: numbers' own values, how far apart. -/
namespace Go.Proofs.YtmpakpdikkfofaaGreatDoor
open Go.RowKit
set_option linter.unusedVariables false
set_option maxRecDepth 20000

/-- What Of answers of a word. -/
def ofK (s : Bool) (K : Nat) : Option (Bool × Nat × Int) := ofR s (K / 4503599627370496) (K % 4503599627370496)
theorem ofK_val (s : Bool) (K : Nat) (hK : K < 9218868437227405312) : ∃ n X e, ofK s K = some (n, X, e) ∧ Frm n X e ∧ (X ≠ 0 → n = s) ∧ (X = 0 ↔ K = 0) ∧ ∀ Bs : Int, Bs ≤ -1074 → zv Bs (n, X, e) = sg1 s * ((vK K * 2 ^ (-1074 - Bs).toNat : Nat) : Int) := by
  obtain ⟨x, hx⟩ : ∃ x, K / 4503599627370496 = x := ⟨_, rfl⟩
  obtain ⟨f, hf⟩ : ∃ f, K % 4503599627370496 = f := ⟨_, rfl⟩
  have hxl : x < 2047 := by omega
  have hfl : f < 4503599627370496 := by omega
  obtain ⟨M, hM⟩ : ∃ M, (if x = 0 then f else f + 4503599627370496) = M := ⟨_, rfl⟩
  obtain ⟨E, hE⟩ : ∃ E : Int, (if x = 0 then (-1074 : Int) else (x : Int) - 1075) = E := ⟨_, rfl⟩
  have hME : (x = 0 ∧ M = f ∧ E = -1074) ∨ (x ≠ 0 ∧ M = f + 4503599627370496 ∧ E = (x : Int) - 1075) := by
    by_cases h : x = 0
    · rw [if_pos h] at hM hE; exact .inl ⟨h, hM.symm, hE.symm⟩
    · rw [if_neg h] at hM hE; exact .inr ⟨h, hM.symm, hE.symm⟩
  have hMl : M < 9007199254740992 := by omega
  have hO : ofK s K = mkS s M E := by unfold ofK ofR; rw [hx, hf, if_neg (by omega), hM, hE]
  have hsome : (mkS s M E).isSome = true := by
    unfold mkS
    split
    · rfl
    · rename_i h0
      have hb := bl_le53 M hMl
      obtain ⟨_, _, _, hbb⟩ := odd_part M h0
      rw [if_neg (by omega)]
      rfl
  obtain ⟨⟨n, X, e⟩, hz⟩ := Option.isSome_iff_exists.1 hsome
  have hKw : K = (E + 1074).toNat * 4503599627370496 + M := by rcases hME with h | h <;> omega
  have hv : vK K = M * 2 ^ (E + 1074).toNat := by
    rw [hKw]; exact vK_word _ _ (by rcases hME with h | h; left; omega; right; omega) (by omega)
  have hM0 : M = 0 ↔ K = 0 := by rcases hME with h | h <;> omega
  refine ⟨n, X, e, by rw [hO, hz], mkS_frm hz, ?_, ?_, ?_⟩
  · intro hX
    unfold mkS at hz
    split at hz
    · cases hz; exact absurd rfl hX
    · split at hz
      · cases hz
      · cases hz; rfl
  · rw [← hM0]
    constructor
    · intro hX
      unfold mkS at hz
      split at hz
      · assumption
      · rename_i h0
        split at hz
        · cases hz
        · obtain ⟨m, _, hd, _⟩ := odd_part M h0
          cases hz
          omega
    · intro h0
      unfold mkS at hz
      rw [if_pos h0] at hz
      cases hz; rfl
  · intro Bs hBs
    rw [zv_mkS hz Bs (.inr (by omega)), hv, Nat.mul_assoc, ← Nat.pow_add, show (E + 1074).toNat + (-1074 - Bs).toNat = (E - Bs).toNat by omega]

theorem near_own (mode : Int) (s : Bool) (L : Nat) (hL : L < 9218868437227405312) {n : Bool} {X : Nat} {e : Int} (ho : ofK s L = some (n, X, e)) : sK (rS n X) (rW mode n X e) = sK s L := by
  obtain ⟨n', X', e', ho', F, hn, h0, hv⟩ := ofK_val s L hL
  rw [ho] at ho'
  cases ho'
  unfold rS rW
  by_cases hX : X = 0
  · rw [if_pos hX, if_pos hX, h0.1 hX]
    unfold sK
    cases s <;> simp
  · rw [if_neg hX, if_neg hX, hn hX]
    have Ls := lies X e (frm_odd F hX) F.down F.up (-1048576) F.down (by omega)
    have hz := hv (-1048576) (by omega)
    unfold zv at hz
    simp only at hz
    rw [hn hX] at hz
    have hV : X * 2 ^ (e - -1048576).toNat = vK L * 2 ^ (-1074 - -1048576 : Int).toNat := by
      generalize X * 2 ^ (e - -1048576).toNat = P at hz ⊢
      generalize vK L * 2 ^ (-1074 - -1048576 : Int).toNat = Q at hz ⊢
      cases s <;> (simp only [sg1, Bool.false_eq_true, if_true, if_false] at hz; omega)
    rw [rndK_eq, rK_own mode s Ls L hL hV]
end Go.Proofs.YtmpakpdikkfofaaGreatDoor

/- What the model's sums and products are, by words; what the document's forms are rounded to: the same word. -/
namespace Go.Proofs.YtmpakpdikkfofaaGreatDoor
open Go.RowKit J
set_option linter.unusedVariables false
set_option maxRecDepth 20000

theorem wd_word (s : Bool) (K : Nat) : wd64 s K = Ieee.double.word s K := by
  unfold wd64
  have e : Ieee.double.word s K = (if s then 9223372036854775808 + K else K) := rfl
  rw [e]
  cases s <;> simp; omega
theorem hInf : Ieee.double.infRung < Ieee.double.signWeight := by rw [B.dInf, B.dSign]; omega
theorem hBin : Ieee.double.binade ≤ Ieee.double.infRung := by rw [B.dInf, B.dBin]; omega
theorem wd_of (x : Nat) (h : x < 18446744073709551616) : x = wd64 (negW x) (magW x) := by
  unfold wd64 negW magW
  by_cases hx : 9223372036854775808 ≤ x
  · rw [decide_eq_true hx, if_pos rfl]; omega
  · rw [decide_eq_false hx, if_neg (by simp)]; omega
theorem magW_wd (s : Bool) (K : Nat) (h : K < 9223372036854775808) : magW (wd64 s K) = K ∧ negW (wd64 s K) = s ∧ wd64 s K < 18446744073709551616 := by
  unfold magW negW wd64
  cases s <;> simp <;> omega

/-- The model's sum of two finite numbers. -/
theorem add_wd (s t : Bool) (K L : Nat) (hK : K < 9218868437227405312) (hL : L < 9218868437227405312) :
    ∃ R, NE R (B.sg s (vK K) + B.sg t (vK L)).natAbs 1 ∧ Ieee.double.add (wd64 s K) (wd64 t L) = some (wd64 (if B.sg s (vK K) + B.sg t (vK L) = 0 then s && t else decide (B.sg s (vK K) + B.sg t (vK L) < 0)) (min R 9218868437227405312)) := by
  obtain ⟨m, j, e1, v1⟩ := B.read_word Ieee.double s K (by rw [B.dInf]; exact hK) hInf
  obtain ⟨n, k, e2, v2⟩ := B.read_word Ieee.double t L (by rw [B.dInf]; exact hL) hInf
  obtain ⟨mag, c, es, ev⟩ := B.sum_num s t m n j k Ieee.double.leastPlace
  rw [v1, v2] at es ev
  rw [wd_word, wd_word]
  unfold Ieee.Format.add
  rw [e1, e2, es]
  show ∃ R, NE R (B.sg s (vK K) + B.sg t (vK L)).natAbs 1 ∧ some (Ieee.double.nearest _ mag _) = _
  generalize hT : B.sg s (vK K) + B.sg t (vK L) = T at *
  by_cases hm : mag = 0
  · subst hm
    have hT0 : T = 0 := by rw [Nat.zero_mul] at ev; omega
    refine ⟨0, NEf.own (by decide) (by rw [hT0, B.val_zero]; rfl), ?_⟩
    unfold Ieee.Format.nearest
    rw [if_pos rfl, if_pos hT0, wd_word, Nat.zero_min]
  · obtain ⟨R, h1, h2⟩ := nearest_ne (if T = 0 then s && t else decide (T < 0)) mag c 0 hm
    refine ⟨R, by rw [ev, Nat.pow_zero] at h2; exact h2, ?_⟩
    rw [show Ieee.double.leastPlace + (c : Int) - ((0 : Nat) : Int) = Ieee.double.leastPlace + (c : Int) by omega] at h1
    rw [h1, wd_word, B.dInf]

/-- What the document's search finds is the nearest, between two the even one. -/
theorem rK_ne {K R : Nat} {t n : Bool} {m : Int} {V S : Nat} (h : Lies K t m V S) (hR : NE R V S) : rK 0 n K t m = min R 9218868437227405312 := by
  have hf := h.fin
  have hS := h.pos
  cases t with
  | true =>
    have : NE K V S := NEf.own hS (h.one rfl)
    rw [hR.one this hS]
    unfold rK
    rw [if_pos rfl, Nat.min_eq_left (by omega)]
  | false =>
    have hlow : B.val Ieee.double K * S < V := h.low rfl
    have hmids : V < B.val Ieee.double (K + 1) * S → (m = -1 ∧ 2 * V < B.val Ieee.double K * S + B.val Ieee.double (K + 1) * S ∨ m = 0 ∧ 2 * V = B.val Ieee.double K * S + B.val Ieee.double (K + 1) * S ∨ m = 1 ∧ B.val Ieee.double K * S + B.val Ieee.double (K + 1) * S < 2 * V) := h.mids rfl
    have hhigh : V < B.val Ieee.double (K + 1) * S ∨ (K = 9218868437227405311 ∧ m = 1) := h.high rfl
    unfold rK
    rw [if_neg (by simp)]
    by_cases hh : V < B.val Ieee.double (K + 1) * S
    · have e : (B.val Ieee.double K + B.val Ieee.double (K + 1)) * S = B.val Ieee.double K * S + B.val Ieee.double (K + 1) * S := Nat.add_mul _ _ _
      have s2 : B.val Ieee.double (K + 1) * S < B.val Ieee.double (K + 2) * S := Nat.mul_lt_mul_of_pos_right (B.val_lt_succ Ieee.double (K + 1)) hS
      have eU : (B.val Ieee.double (K + 1) + B.val Ieee.double (K + 2)) * S = B.val Ieee.double (K + 1) * S + B.val Ieee.double (K + 2) * S := Nat.add_mul _ _ _
      have stay : (2 * V < B.val Ieee.double K * S + B.val Ieee.double (K + 1) * S ∨ 2 * V = B.val Ieee.double K * S + B.val Ieee.double (K + 1) * S ∧ K % 2 = 0) → NE K V S := by
        intro hc
        refine ⟨by rw [e]; omega, fun h1 => by rw [e] at h1; omega, fun h0 => ?_, fun h0 h1 => ?_⟩
        · have := Nat.mul_lt_mul_of_pos_right (B.val_lt Ieee.double (show K - 1 < K by omega)) hS
          rw [Nat.add_mul]; omega
        · have := Nat.mul_lt_mul_of_pos_right (B.val_lt Ieee.double (show K - 1 < K by omega)) hS
          rw [Nat.add_mul] at h1; omega
      have go : (B.val Ieee.double K * S + B.val Ieee.double (K + 1) * S < 2 * V ∨ 2 * V = B.val Ieee.double K * S + B.val Ieee.double (K + 1) * S ∧ K % 2 = 1) → NE (K + 1) V S := by
        intro hc
        refine ⟨by rw [eU]; omega, fun h1 => by rw [eU] at h1; omega, fun h0 => ?_, fun h0 h1 => ?_⟩
        · rw [show K + 1 - 1 = K from rfl, e]; omega
        · rw [show K + 1 - 1 = K from rfl, e] at h1; omega
      rcases hmids hh with ⟨h1, h2⟩ | ⟨h1, h2⟩ | ⟨h1, h2⟩
      · have ho : outS 0 K m n = false := by unfold outS; subst h1; simp
        rw [ho, if_neg (by simp), hR.one (stay (.inl h2)) hS, Nat.min_eq_left (by omega)]
      · by_cases hp : K % 2 = 1
        · have ho : outS 0 K m n = true := by unfold outS; subst h1; simp [hp]
          rw [ho, if_pos rfl, hR.one (go (.inr ⟨h2, hp⟩)) hS, Nat.min_eq_left (by omega)]
        · have ho : outS 0 K m n = false := by unfold outS; subst h1; simp [hp]
          rw [ho, if_neg (by simp), hR.one (stay (.inr ⟨h2, by omega⟩)) hS, Nat.min_eq_left (by omega)]
      · have ho : outS 0 K m n = true := by unfold outS; subst h1; simp
        rw [ho, if_pos rfl, hR.one (go (.inl h2)) hS, Nat.min_eq_left (by omega)]
    · obtain ⟨h1, h2⟩ : K = 9218868437227405311 ∧ m = 1 := by
        rcases hhigh with q | q
        · exact absurd q hh
        · exact q
      have ho : outS 0 K m n = true := by unfold outS; subst h2; simp
      rw [ho, if_pos rfl]
      have hRi : 9218868437227405312 ≤ R := by
        apply Nat.le_of_not_lt; intro hlt
        have u := hR.up
        have m1 : B.val Ieee.double R * S < B.val Ieee.double (R + 1) * S := Nat.mul_lt_mul_of_pos_right (B.val_lt_succ Ieee.double R) hS
        have m2 : B.val Ieee.double (R + 1) * S ≤ B.val Ieee.double (K + 1) * S := Nat.mul_le_mul_right S (vmono (by omega))
        rw [Nat.add_mul] at u
        omega
      rw [Nat.min_eq_right hRi]; omega

/-- A form's rounding, by its value. -/
theorem rW_ne {n : Bool} {X : Nat} {e : Int} (F : Frm n X e) (hX : X ≠ 0) (Bs : Int) (hB : Bs ≤ -1048576) {V U S R : Nat} (h1 : X * 2 ^ (e - Bs).toNat = V * S) (h2 : 2 ^ (-1074 - Bs).toNat = U * S) (hR : NE R V U) : rW 0 n X e = min R 9218868437227405312 := by
  have ho := frm_odd F hX
  have L := lies X e ho F.down F.up Bs (by have := F.down; omega) (by omega)
  have hS : 0 < S := by
    rcases Nat.eq_zero_or_pos S with h | h
    · rw [h, Nat.mul_zero] at h2; have := Nat.two_pow_pos (-1074 - Bs).toNat; omega
    · exact h
  unfold rW
  rw [if_neg hX, rndK_eq]
  rw [h1, h2] at L
  exact rK_ne L (hR.scale S hS)
end Go.Proofs.YtmpakpdikkfofaaGreatDoor

/- Forms by their values in units of 2^-2148; sums, products, roundings of forms of numbers. -/
namespace Go.Proofs.YtmpakpdikkfofaaGreatDoor
open Go.RowKit J
set_option linter.unusedVariables false
set_option maxRecDepth 20000

theorem exU (a : Nat) : ∃ u : Nat, u = 2 ^ a := ⟨_, rfl⟩
def EU : Nat := 1074
def ES : Nat := 2095004
def EH : Nat := 1047502
/-- 2^1074, 2^2095004: never reckoned. -/
noncomputable def UU : Nat := Classical.choose (exU EU)
noncomputable def SS : Nat := Classical.choose (exU ES)
theorem U_eq : UU = 2 ^ EU := Classical.choose_spec (exU EU)
theorem S_eq : SS = 2 ^ ES := Classical.choose_spec (exU ES)
theorem U_pos : 0 < UU := by rw [U_eq]; exact Nat.two_pow_pos _
theorem S_pos : 0 < SS := by rw [S_eq]; exact Nat.two_pow_pos _
theorem EUS : EU + ES = 2096078 := by unfold EU ES; rfl
theorem EHH : EH + EH = ES := by unfold EH ES; rfl
theorem US (a : Nat) (h : a = 2096078) : 2 ^ a = UU * SS := by
  rw [U_eq, S_eq, ← Nat.pow_add, EUS, h]
theorem mkSz (n : Bool) (e : Int) : mkS n 0 e = some (false, 0, 0) := by unfold mkS; rw [if_pos rfl]

/-- A form, what it stands for (in units of 2^-2148), where its bits lie. -/
structure Fo (o : Option (Bool × Nat × Int)) (z : Int) (L H : Int) : Prop where
  ex : ∃ n X e, o = some (n, X, e) ∧ Frm n X e ∧ zv (-2097152) (n, X, e) = z * (SS : Int) ∧ (X = 0 ∨ L ≤ e ∧ e + (bl X : Int) ≤ H)

theorem Fo.frm {n : Bool} {X : Nat} {e z L H : Int} (h : Fo (some (n, X, e)) z L H) : Frm n X e ∧ zv (-2097152) (n, X, e) = z * (SS : Int) ∧ (X = 0 ∨ L ≤ e ∧ e + (bl X : Int) ≤ H) := by
  obtain ⟨n', X', e', h1, h2, h3, h4⟩ := h.ex
  cases h1
  exact ⟨h2, h3, h4⟩
theorem mkS_sz (n : Bool) (Z : Nat) (f L H : Int) (hZ : Z ≠ 0) (h1 : L ≤ f) (h2 : f + (bl Z : Int) ≤ H) (hL : -1000000 ≤ L) (hH : H ≤ 1000000) (hd : H - L ≤ 262144) :
    ∃ X e, mkS n Z f = some (n, X, e) ∧ X ≠ 0 ∧ L ≤ e ∧ e + (bl X : Int) ≤ H := by
  obtain ⟨m, e0, e1, e2⟩ := odd_part Z hZ
  unfold mkS
  rw [if_neg hZ, if_neg (by omega)]
  exact ⟨_, _, rfl, by omega, by omega, by omega⟩

theorem blLe {X m : Nat} (h : X < 2 ^ m) : bl X ≤ m := by
  apply Nat.le_of_not_lt; intro hh
  have := (bl_gt X m).1 hh
  omega
theorem lt_bl (X : Nat) : X < 2 ^ bl X := bl_lt X

theorem addUp_sz (n : Bool) (X : Nat) (e : Int) (m : Bool) (Y : Nat) (f L H : Int) (hX : X ≠ 0) (hY : Y ≠ 0) (hfe : f ≤ e) (h1 : L ≤ f) (h2 : e + (bl X : Int) ≤ H) (h3 : f + (bl Y : Int) ≤ H) (hL : -1000000 ≤ L) (hH : H ≤ 999999) (hd : H - L ≤ 262143) :
    ∃ n' Z g, addUp n X e m Y f = some (n', Z, g) ∧ (Z = 0 ∨ L ≤ g ∧ g + (bl Z : Int) ≤ H + 1) := by
  obtain ⟨d, hdd⟩ : ∃ d : Nat, (e - f).toNat = d := ⟨_, rfl⟩
  have hb : X * 2 ^ d < 2 ^ (bl X + d) := by rw [Nat.pow_add]; exact Nat.mul_lt_mul_of_pos_right (lt_bl X) (Nat.two_pow_pos _)
  obtain ⟨q, hq⟩ : ∃ q : Nat, max (bl X + d) (bl Y) = q := ⟨_, rfl⟩
  have q1 : X * 2 ^ d < 2 ^ q := Nat.lt_of_lt_of_le hb (Nat.pow_le_pow_right (by decide) (by omega))
  have q2 : Y < 2 ^ q := Nat.lt_of_lt_of_le (lt_bl Y) (Nat.pow_le_pow_right (by decide) (by omega))
  have q3 : 2 ^ (q + 1) = 2 ^ q + 2 ^ q := by rw [Nat.pow_succ]; omega
  have hq4 : f + (q : Int) ≤ H := by omega
  have out : ∀ (n'' : Bool) (Z : Nat), Z < 2 ^ (q + 1) → ∃ n' Z' g, mkS n'' Z f = some (n', Z', g) ∧ (Z' = 0 ∨ L ≤ g ∧ g + (bl Z' : Int) ≤ H + 1) := by
    intro n'' Z hZ
    by_cases h0 : Z = 0
    · subst h0; rw [mkSz]; exact ⟨_, _, _, rfl, .inl rfl⟩
    · have := blLe hZ
      obtain ⟨X', e', k1, k2, k3, k4⟩ := mkS_sz n'' Z f L (H + 1) h0 h1 (by omega) hL (by omega) (by omega)
      exact ⟨_, _, _, k1, .inr ⟨k3, k4⟩⟩
  unfold addUp
  rw [hdd, if_neg (by omega)]
  split
  · exact out _ _ (by omega)
  · split
    · exact out _ _ (by omega)
    · exact out _ _ (by omega)
theorem addD_sz {o p : Option (Bool × Nat × Int)} {x y L H : Int} (h1 : Fo o x L H) (h2 : Fo p y L H) (hL : -1000000 ≤ L) (hH : H ≤ 999999) (hd : H - L ≤ 262143) : ∃ n Z g, addD o p = some (n, Z, g) ∧ (Z = 0 ∨ L ≤ g ∧ g + (bl Z : Int) ≤ H + 1) := by
  obtain ⟨n, X, e, rfl, F, _, b1⟩ := h1.ex
  obtain ⟨m, Y, f, rfl, G, _, b2⟩ := h2.ex
  unfold addD addF
  simp only
  by_cases hX : X = 0
  · rw [if_pos hX]; exact ⟨_, _, _, rfl, by omega⟩
  · rw [if_neg hX]
    by_cases hY : Y = 0
    · rw [if_pos hY]; exact ⟨_, _, _, rfl, by omega⟩
    · rw [if_neg hY]
      by_cases hlt : e < f
      · rw [if_pos hlt]; exact addUp_sz m Y f n X e L H hY hX (by omega) (by omega) (by omega) (by omega) hL hH hd
      · rw [if_neg hlt]; exact addUp_sz n X e m Y f L H hX hY (by omega) (by omega) (by omega) (by omega) hL hH hd
/-- Sums. -/
theorem Fo.add {o p : Option (Bool × Nat × Int)} {x y L H : Int} (h1 : Fo o x L H) (h2 : Fo p y L H) (hL : -1000000 ≤ L) (hH : H ≤ 999999) (hd : H - L ≤ 262143) : Fo (addD o p) (x + y) L (H + 1) := by
  obtain ⟨n, Z, g, hz, hb⟩ := addD_sz h1 h2 hL hH hd
  obtain ⟨n1, X1, e1, r1, F1, v1, _⟩ := h1.ex
  obtain ⟨n2, X2, e2, r2, F2, v2, _⟩ := h2.ex
  have V := Fv.add (B := -2097152) (by omega) ⟨n1, X1, e1, r1, F1, v1⟩ ⟨n2, X2, e2, r2, F2, v2⟩ (by rw [hz]; rfl)
  obtain ⟨n', Z', g', r, F, v⟩ := V.ex
  rw [hz] at r
  cases r
  exact ⟨n, Z, g, hz, F, by rw [v, Int.add_mul], hb⟩

theorem zvUp {x : Bool × Nat × Int} (B C : Int) (hB : x.2.1 = 0 ∨ B ≤ x.2.2) (hC : C ≤ B) : zv C x = zv B x * ((2 ^ (B - C).toNat : Nat) : Int) := by
  unfold zv
  rcases hB with h | h
  · rw [h]; simp
  · rw [show (x.2.2 - C).toNat = (x.2.2 - B).toNat + (B - C).toNat by omega, Nat.pow_add, ← Nat.mul_assoc, Int.natCast_mul, Int.mul_assoc]

theorem wide1 (a : Nat) (h : a = 1048576) : ∀ x : Int, x * (UU : Int) * (SS : Int) = x * ((2 ^ EH : Nat) : Int) * ((2 ^ a : Nat) : Int) := by
  intro x
  have e : EU + ES = EH + a := by rw [h]; unfold EU ES EH; rfl
  have e2 : UU * SS = 2 ^ EH * 2 ^ a := by rw [U_eq, S_eq, ← Nat.pow_add, ← Nat.pow_add, e]
  rw [Int.mul_assoc, Int.mul_assoc, ← Int.natCast_mul, ← Int.natCast_mul, e2]
/-- Products of what is whole in units of 2^-1074. -/
theorem Fo.mul {o p : Option (Bool × Nat × Int)} {x y L H : Int} (h1 : Fo o (x * (UU : Int)) L H) (h2 : Fo p (y * (UU : Int)) L H) (hL : -500000 ≤ L) (hH : H ≤ 500000) (hd : H - L ≤ 131072) : Fo (mulD o p) (x * y) (2 * L) (2 * H) := by
  obtain ⟨n1, X1, e1, r1, F1, v1, b1⟩ := h1.ex
  obtain ⟨n2, X2, e2, r2, F2, v2, b2⟩ := h2.ex
  have sz : ∃ n Z g, mulD o p = some (n, Z, g) ∧ (Z = 0 ∨ 2 * L ≤ g ∧ g + (bl Z : Int) ≤ 2 * H) := by
    rw [r1, r2]
    unfold mulD mulF
    simp only
    by_cases hZ : X1 * X2 = 0
    · rw [hZ, mkSz]; exact ⟨_, _, _, rfl, .inl rfl⟩
    · have hX : X1 ≠ 0 := fun h => hZ (by rw [h, Nat.zero_mul])
      have hY : X2 ≠ 0 := fun h => hZ (by rw [h, Nat.mul_zero])
      have hb : bl (X1 * X2) ≤ bl X1 + bl X2 := blLe (by rw [Nat.pow_add]; exact Nat.mul_lt_mul'' (lt_bl X1) (lt_bl X2))
      obtain ⟨X', e', k1, k2, k3, k4⟩ := mkS_sz (n1 != n2) (X1 * X2) (e1 + e2) (2 * L) (2 * H) hZ (by omega) (by omega) (by omega) (by omega) (by omega)
      exact ⟨_, _, _, k1, .inr ⟨k3, k4⟩⟩
  obtain ⟨n, Z, g, hz, hb⟩ := sz
  have half : ∀ (n : Bool) (X : Nat) (e x : Int), Frm n X e → zv (-2097152) (n, X, e) = x * (UU : Int) * (SS : Int) → zv (-1048576) (n, X, e) = x * ((2 ^ EH : Nat) : Int) := by
    intro n X e x F hv
    have up := zvUp (x := (n, X, e)) (-1048576) (-2097152) (.inr F.down) (by omega)
    rw [hv] at up
    obtain ⟨a, ha⟩ : ∃ a : Nat, (-1048576 - -2097152 : Int).toNat = a := ⟨_, rfl⟩
    rw [ha, wide1 a (by omega)] at up
    exact (Int.eq_of_mul_eq_mul_right (by have := Nat.two_pow_pos a; omega) up).symm
  have V := Fv.mul (B := -1048576) (C := -1048576) (by omega) (by omega) ⟨n1, X1, e1, r1, F1, half _ _ _ _ F1 v1⟩ ⟨n2, X2, e2, r2, F2, half _ _ _ _ F2 v2⟩ (by rw [hz]; rfl)
  obtain ⟨n', Z', g', r, F, v⟩ := V.ex
  rw [hz] at r
  cases r
  refine ⟨n, Z, g, hz, F, ?_, hb⟩
  rw [show (-2097152 : Int) = -1048576 + -1048576 by omega, v, S_eq, ← EHH, Nat.pow_add, Int.natCast_mul]
  simp only [Int.mul_assoc, Int.mul_left_comm, Int.mul_comm]
end Go.Proofs.YtmpakpdikkfofaaGreatDoor

/- DyadRounds: the document's search by halves. -/
namespace Go.Proofs.YtmpakpdikkfofaaGreatDoor
open Go.RowKit
set_option linter.unusedVariables false
set_option maxRecDepth 20000
set_option linter.unusedSimpArgs false

/-- A width of the document's, in a block. -/
def Zk (w : World) (g : Nat) (dg ls En : Int) : Prop := w.heap[g]? = some (.cells #[.int .i64 dg, .int .i64 ls, .int .u64 En] 153 (0, 0))
theorem Zk.lt {w : World} {g : Nat} {dg ls En : Int} (h : Zk w g dg ls En) : g < w.heap.size := (Array.getElem?_eq_some_iff.1 h).1
theorem Zk.below {w w' : World} {g : Nat} {dg ls En : Int} (h : Zk w g dg ls En) (hb : Below w.heap.size w w') : Zk w' g dg ls En := by
  unfold Zk; rw [hb.block g h.lt]; exact h
theorem Zk.facts {w : World} {g : Nat} {dg ls En : Int} (h : Zk w g dg ls En) : w.cell? ⟨g, 0, none⟩ = some (.int .i64 dg) ∧ w.cell? ⟨g, 1, none⟩ = some (.int .i64 ls) ∧ w.cell? ⟨g, 2, none⟩ = some (.int .u64 En) := by
  unfold Zk at h
  simp [World.cell?, h]

end Go.Proofs.YtmpakpdikkfofaaGreatDoor

/- The document's Plus, Minus, Times of any two numbers are the model's own steps. -/
namespace Go.Proofs.YtmpakpdikkfofaaGreatDoor
open Go.RowKit J
set_option linter.unusedVariables false
set_option maxRecDepth 20000

theorem sg1_sg (s : Bool) (v : Nat) : sg1 s * (v : Int) = B.sg s v := by unfold sg1 B.sg; cases s <;> simp
theorem top_v (K : Nat) (hK : K < 9218868437227405312) (a : Nat) (ha : a = 2045) : vK K < 9007199254740992 * 2 ^ a := by
  have h := vK_word a 9007199254740992 (.inr (by omega)) (by omega)
  have h2 : a * 4503599627370496 + 9007199254740992 = 9218868437227405312 := by rw [ha]
  rw [← h, h2]
  exact vK_lt.2 hK
theorem blk {X m : Nat} (h : X < 2 ^ m) : bl X ≤ m := blLe h

/-- A number's form. -/
theorem of_fo (s : Bool) (K : Nat) (hK : K < 9218868437227405312) : ∃ n X e, ofK s K = some (n, X, e) ∧ Fo (some (n, X, e)) (B.sg s (vK K) * (UU : Int)) (-1074) 1024 ∧ (X = 0 ↔ K = 0) := by
  obtain ⟨n, X, e, h1, F, h2, h3, h4⟩ := ofK_val s K hK
  refine ⟨n, X, e, h1, ⟨n, X, e, rfl, F, ?_, ?_⟩, h3⟩
  · obtain ⟨a, ha⟩ : ∃ a : Nat, (-1074 - -2097152 : Int).toNat = a := ⟨_, rfl⟩
    have h5 := h4 (-2097152) (by omega)
    rw [ha] at h5
    rw [h5, US a (by omega), Int.natCast_mul, Int.natCast_mul, ← Int.mul_assoc, ← Int.mul_assoc, sg1_sg]
  · by_cases hX : X = 0
    · exact .inl hX
    · right
      have ho := frm_odd F hX
      have hd := F.down
      -- in units of the form's own place
      have h5 := h4 (min e (-1074)) (by omega)
      unfold zv at h5
      simp only at h5
      rw [h2 hX] at h5
      have h6 : X * 2 ^ (e - min e (-1074)).toNat = vK K * 2 ^ (-1074 - min e (-1074)).toNat := by
        unfold sg1 at h5
        cases s
        · simp only [Bool.false_eq_true, if_false, Int.one_mul] at h5; exact_mod_cast h5
        · simp only [if_true] at h5; have := Int.eq_of_mul_eq_mul_left (by decide) h5; exact_mod_cast this
      have he : -1074 ≤ e := by
        apply Int.le_of_not_gt; intro hlt
        rw [show (e - min e (-1074)).toNat = 0 by omega, Nat.pow_zero, Nat.mul_one] at h6
        obtain ⟨q, hq⟩ : ∃ q, (-1074 - min e (-1074)).toNat = q + 1 := ⟨(-1074 - min e (-1074)).toNat - 1, by omega⟩
        rw [hq, Nat.pow_succ, ← Nat.mul_assoc] at h6
        omega
      refine ⟨he, ?_⟩
      rw [show (-1074 - min e (-1074)).toNat = 0 by omega, Nat.pow_zero, Nat.mul_one] at h6
      obtain ⟨q, hq⟩ : ∃ q, (e - min e (-1074)).toNat = q := ⟨_, rfl⟩
      rw [hq] at h6
      obtain ⟨c, hc⟩ : ∃ c : Nat, c = 2045 := ⟨_, rfl⟩
      have h7 := top_v K hK c hc
      have h8 := bl_ge X hX
      have h9 := bl_pos X hX
      obtain ⟨b, hb⟩ : ∃ b, bl X = b + 1 := ⟨bl X - 1, by omega⟩
      rw [hb, Nat.add_sub_cancel] at h8
      have h10 : 2 ^ b * 2 ^ q < 9007199254740992 * 2 ^ c := Nat.lt_of_le_of_lt (Nat.mul_le_mul_right _ h8) (by rw [h6]; exact h7)
      rw [← Nat.pow_add, show (9007199254740992 : Nat) = 2 ^ 53 from rfl, ← Nat.pow_add] at h10
      have h11 := (Nat.pow_lt_pow_iff_right (by decide : 1 < 2)).1 h10
      omega

/-- A form's sign, and what it is rounded to. -/
theorem round_fo {n : Bool} {X : Nat} {e T L H : Int} (h : Fo (some (n, X, e)) T L H) (hT : T ≠ 0) : X ≠ 0 ∧ n = decide (T < 0) ∧ ∀ R, NE R T.natAbs UU → rW 0 n X e = min R 9218868437227405312 := by
  obtain ⟨F, hv, _⟩ := h.frm
  have hS := S_pos
  unfold zv at hv
  simp only at hv
  have hX : X ≠ 0 := by
    intro h0
    rw [h0, Nat.zero_mul] at hv
    have : T * (SS : Int) = 0 := by rw [← hv]; simp
    rcases Int.mul_eq_zero.1 this with h | h <;> omega
  obtain ⟨q, hq⟩ : ∃ q, X * 2 ^ (e - -2097152).toNat = q := ⟨_, rfl⟩
  have hq0 : 0 < q := by rw [← hq]; exact Nat.mul_pos (by omega) (Nat.two_pow_pos _)
  rw [hq] at hv
  have hab : q = T.natAbs * SS := by
    have := congrArg Int.natAbs hv
    rw [Int.natAbs_mul, Int.natAbs_mul, Int.natAbs_natCast, Int.natAbs_natCast] at this
    rw [← this]
    unfold sg1; cases n <;> simp
  refine ⟨hX, ?_, fun R hR => ?_⟩
  · have hTS : T < 0 → T * (SS : Int) < 0 := fun h => Int.mul_neg_of_neg_of_pos h (by omega)
    have hTP : 0 < T → 0 < T * (SS : Int) := fun h => Int.mul_pos h (by omega)
    unfold sg1 at hv
    cases n
    · simp only [Bool.false_eq_true, if_false, Int.one_mul] at hv
      rw [decide_eq_false (by intro h; have := hTS h; omega)]
    · simp only [if_true] at hv
      rw [decide_eq_true (by apply Int.lt_of_not_ge; intro h; have := hTP (by omega); omega)]
  · exact rW_ne F hX (-2097152) (by omega) (V := T.natAbs) (U := UU) (S := SS) (by rw [hq, hab]) (US _ (by omega)) hR

theorem frmLen {n : Bool} {X : Nat} {e : Int} (F : Frm n X e) : (ws X).length ≤ 8192 := by
  have := mkS_len n X e
  rw [mkS_idem F] at this
  exact this
/-- What a word is: a NaN, an infinity, or finite. -/
theorem kinds (x : Nat) (hx : x < 18446744073709551616) : (nanW x = true ∧ (magW x == 9218868437227405312) = false ∧ (magW x == 0) = false ∧ 9218868437227405312 < magW x) ∨ (nanW x = false ∧ (magW x == 9218868437227405312) = true ∧ (magW x == 0) = false ∧ magW x = 9218868437227405312) ∨ (nanW x = false ∧ (magW x == 9218868437227405312) = false ∧ magW x < 9218868437227405312) := by
  have e : nanW x = decide (9218868437227405312 < magW x) := rfl
  rcases Nat.lt_trichotomy (magW x) 9218868437227405312 with h | h | h
  · refine .inr (.inr ⟨?_, ?_, h⟩)
    · rw [e]; simp; omega
    · simp; omega
  · refine .inr (.inl ⟨?_, ?_, ?_, h⟩)
    · rw [e]; simp; omega
    · simp; omega
    · simp; omega
  · refine .inl ⟨?_, ?_, ?_, h⟩
    · rw [e]; simp; omega
    · simp; omega
    · simp; omega
theorem read_nanW (x : Nat) (h : 9218868437227405312 < magW x) : ∃ s t, Ieee.double.read x = .nan s t := ⟨_, _, B.read_nan Ieee.double x (by rw [B.dInf, B.dSign]; exact h) hBin⟩
theorem read_infW (x : Nat) (hx : x < 18446744073709551616) (h : magW x = 9218868437227405312) : Ieee.double.read x = .infinity (negW x) := by
  have e := wd_of x hx
  rw [h, wd_word, ← B.dInf] at e
  rw [e, B.read_inf Ieee.double _ hInf hBin, ← e]
theorem read_finW (x : Nat) (hx : x < 18446744073709551616) (h : magW x < 9218868437227405312) : ∃ m k, Ieee.double.read x = .number (negW x) m (Ieee.double.leastPlace + (k : Nat)) ∧ m * 2 ^ k = vK (magW x) := by
  have e := wd_of x hx
  rw [wd_word] at e
  obtain ⟨m, k, h1, h2⟩ := B.read_word Ieee.double (negW x) (magW x) (by rw [B.dInf]; exact h) hInf
  rw [← e] at h1
  exact ⟨m, k, h1, h2⟩
end Go.Proofs.YtmpakpdikkfofaaGreatDoor

/- The document's Plus, Minus, Times: whole. -/
namespace Go.Proofs.YtmpakpdikkfofaaGreatDoor
open Go.RowKit J
set_option linter.unusedVariables false
set_option maxRecDepth 20000
set_option linter.unusedSimpArgs false

theorem arW_add (x y : Nat) : arW .add x y = (((Ieee.double.read x).sum (Ieee.double.read y)).map Ieee.double.write).getD oddW := rfl
theorem arW_sub (x y : Nat) : arW .sub x y = (((Ieee.double.read x).sum (Ieee.double.read y).opposite).map Ieee.double.write).getD oddW := rfl
theorem turn_wd (s : Bool) (K : Nat) (h : K < 9223372036854775808) : turnW (wd64 s K) = wd64 (!s) K := by
  unfold turnW wd64
  cases s <;> simp <;> omega
theorem turn_lt (y : Nat) (hy : y < 18446744073709551616) : turnW y < 18446744073709551616 := by unfold turnW; split <;> omega
theorem readOpp (f : Ieee.Format) (hs : f.infRung < f.signWeight) (t : Bool) (u : Nat) (hu : u < f.infRung) : (f.read (f.word t u)).opposite = f.read (f.word (!t) u) := by
  have key : ∀ b : Bool, (f.word b u / f.signWeight % 2 == 1) = b ∧ f.word b u % f.signWeight = u := by
    intro b
    unfold Ieee.Format.word
    cases b
    · simp only [Bool.false_eq_true, if_false]
      rw [Nat.div_eq_of_lt (by omega)]; exact ⟨rfl, Nat.mod_eq_of_lt (by omega)⟩
    · simp only [if_true]
      rw [Nat.add_div_left _ (by omega), Nat.div_eq_of_lt (by omega), Nat.add_mod_left]; exact ⟨rfl, Nat.mod_eq_of_lt (by omega)⟩
  unfold Ieee.Format.read
  simp only [(key t).1, (key t).2, (key (!t)).1, (key (!t)).2]
  by_cases h : u < f.binade
  · rw [if_pos h, if_pos h]; rfl
  · rw [if_neg h, if_neg h, if_pos hu, if_pos hu]; rfl

theorem sub_turn (x y : Nat) (hy : y < 18446744073709551616) : arW .sub x y = arW .add x (turnW y) := by
  rw [arW_sub, arW_add]
  have ey := wd_of y hy
  have hm : magW y < 9223372036854775808 := Nat.mod_lt _ (by decide)
  have et : turnW y = wd64 (!negW y) (magW y) := by rw [← turn_wd _ _ hm, ← ey]
  obtain ⟨m1, m2, m3⟩ := magW_wd (!negW y) (magW y) hm
  rcases kinds y hy with ⟨b1, b2, b3, b4⟩ | ⟨b1, b2, b3, b4⟩ | ⟨b1, b2, b4⟩
  · obtain ⟨s, t, hr⟩ := read_nanW y b4
    obtain ⟨s2, t2, hr2⟩ := read_nanW (turnW y) (by rw [et, m1]; exact b4)
    rw [hr, hr2]
    cases Ieee.double.read x <;> rfl
  · have hr := read_infW y hy b4
    have hr2 := read_infW (turnW y) (turn_lt y hy) (by rw [et, m1]; exact b4)
    rw [hr, hr2, et, m2]
    rfl
  · have hr := readOpp Ieee.double hInf (negW y) (magW y) (by rw [B.dInf]; exact b4)
    rw [← wd_word, ← ey, ← wd_word, ← et] at hr
    rw [hr]
end Go.Proofs.YtmpakpdikkfofaaGreatDoor

