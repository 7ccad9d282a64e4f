/- The document's Of. -/
import Derived.Test.YthilnddhehbjiabW48x
import Derived.BigQuiet
import Derived.Deep.RegionHeld3
import Derived.Deep.Cut
import Derived.Test.YthilnddhehbjiabBIeeex
import Derived.Laws.StructEq
import Derived.Test.YthilnddhehbjiabM2x
import Derived.Laws.FloatArith
namespace Go.Proofs.Ythilnddhehbjiab
open Go.RowKit
set_option linter.unusedVariables false
set_option maxRecDepth 20000
attribute [local go_sem] B.f64bits B.f64frombits
set_option maxHeartbeats 4000000 in
theorem rOf_core (s : Bool) (b : Nat) (k : Int) (dn : Bool) (X : Nat) (de : Int) (er : Bool) (w : World) (hl : (ws X).length ≤ 8192)
    (e1 : ((b : Int) / 9223372036854775808 == 1) = s) (e2 : IntKind.u64.wrap ((b : Int) * 2) / 2 = k) (hX : er = false → dn = false ∧ X = 0 ∧ de = 0)
    (hO : Hid (∀ u, Calls Try.prog 67 #[] u fun r w' => r = .returned (.agg #[.int .i64 53, .int .i64 (-1074), .int .u64 9218868437227405312]) ∧ Below u.heap.size u w'))
    (HW : Hid (∀ u, Calls Try.prog 68 #[.agg #[.int .i64 53, .int .i64 (-1074), .int .u64 9218868437227405312], .bool s, .int .u64 k] u fun r w' => (∃ v, r = .returned (.tuple #[.agg #[.bool dn, v, .int .i64 de], .bool er]) ∧ Nt u.heap.size w' v X) ∧ Below u.heap.size u w')) :
    Calls Try.prog 46 #[.float .f64 b] w fun r w' => (∃ v, r = .returned (.tuple #[.agg #[.bool dn, v, .int .i64 de], .int .i64 (if er then 0 else 30)]) ∧ Nt w.heap.size w' v X) ∧ Below w.heap.size w w' := by
  go_enter Try.func46, Try.ntmps46
  go_wp2_with fail
  refine (Calls.mono (hO.out _)) ?_
  rintro r w1 ⟨rfl, hb1⟩
  have hz : w.heap.size < w1.heap.size := by have := hb1.size; simp at this; omega
  have S1 := Aside.intro ((below_alloc w (.cells #[.bool false, .slice none 0 0, .int .i64 0] 43)).trans (hb1.mono (by simp)))
  obtain ⟨hc, hf⟩ := bcell hb1
  clear hb1
  go_wp2_with fail
  try simp only [e1, e2]
  refine (Calls.mono (HW.out _)) ?_
  rintro r w2 ⟨⟨v, rfl, hN⟩, hb2⟩
  obtain ⟨a2, c2, rfl, _⟩ := hN.arg (by omega)
  obtain ⟨hc2, hf2⟩ := bcell hb2
  have hz2 : w.heap.size < w2.heap.size := by have := hb2.size; omega
  have HF := Aside.intro (show Fin w.heap.size w1.heap.size w w2 (.slice a2 (ws X).length c2) X from ⟨hN, S1.out.trans (hb2.mono (by omega)), by omega⟩)
  clear hN hb2 e1 e2
  cases er
  · obtain ⟨rfl, rfl, rfl⟩ := hX rfl
    clear hX
    go_wp2
    exact bodyPost_ret (v := .tuple #[.agg #[.bool false, .slice none 0 0, .int .i64 0], .int .i64 30]) (by simp [results, Try.results46, go_sem, hc, hc2, hz, hz2]) rfl (Fin.dnil (m := w1.heap.size) (v := .slice a2 (ws 0).length c2) (X := 0) (by repeat (first | exact HF.out | refine Fin.alloc ?_ _ | refine Fin.set ?_ _ _ _ (by omega) (by omega))))
  · clear hX
    go_wp2
    exact bodyPost_ret (v := .tuple #[.agg #[.bool dn, .slice a2 (ws X).length c2, .int .i64 de], .int .i64 0]) (by simp [results, Try.results46, go_sem, hc, hc2, hz, hz2]) rfl (Fin.dans (m := w1.heap.size) (by repeat (first | exact HF.out | refine Fin.alloc ?_ _ | refine Fin.set ?_ _ _ _ (by omega) (by omega))) (by omega))

theorem rOf3_any (s : Bool) (e f : Nat) (he : e < 2048) (hf : f < 4503599627370496) (w : World) :
    Calls Try.prog 46 #[.float .f64 (B.bw s e f)] w fun r w' => OAns w.heap.size w' r (ofR s e f) (ofE e) ∧ Below w.heap.size w w' := by
  have hbl := B.bw_lt s e f he hf
  have hb1 : (B.bw s e f : Int) = (if s then 9223372036854775808 else 0) + ((e * 4503599627370496 + f : Nat) : Int) := by unfold B.bw; cases s <;> simp <;> omega
  obtain ⟨b, hb⟩ : ∃ b, B.bw s e f = b := ⟨_, rfl⟩
  obtain ⟨k, hk⟩ : ∃ k, e * 4503599627370496 + f = k := ⟨_, rfl⟩
  rw [hb, hk] at hb1
  rw [hb] at hbl ⊢
  have hk2 : k < 9223372036854775808 := by omega
  have e1 : ((b : Int) / 9223372036854775808 == 1) = s := by cases s <;> simp at hb1 ⊢ <;> omega
  have e2 : IntKind.u64.wrap ((b : Int) * 2) / 2 = (k : Int) := by
    simp [IntKind.wrap, IntKind.bits, IntKind.signed]
    cases s <;> simp at hb1 <;> omega
  unfold ofR ofE
  by_cases h7 : e = 2047
  · rw [if_pos h7, if_pos h7]
    exact rOf_core s b (k : Int) false 0 0 false w (by rw [ws_zero]; simp) e1 e2 (fun _ => ⟨rfl, rfl, rfl⟩) (hid fun u => of64_any u)
      (hid fun u => (rBits_wild s (k : Int) u (by omega) (by omega)).mono fun r w' ⟨h1, h2⟩ => ⟨⟨_, h1, Nt.nil _ _⟩, h2⟩)
  · rw [if_neg h7, if_neg h7]
    have hn := num64_bits e f hf
    rw [hk] at hn
    have hF : (if e = 0 then f else f + 4503599627370496) < 9007199254740992 := by split <;> omega
    have hx0 : (-1100 : Int) ≤ (if e = 0 then -1074 else (e : Int) - 1075) := by split <;> omega
    have hx1 : (if e = 0 then -1074 else (e : Int) - 1075) ≤ (1000 : Int) := by split <;> omega
    obtain ⟨d, hd⟩ := of_some s _ _ hF hx0 hx1
    have hl := mkS_len s (if e = 0 then f else f + 4503599627370496) (if e = 0 then -1074 else (e : Int) - 1075)
    have hB : ∀ u, _ := fun u => rBits_any s k u (by omega)
    rw [hn] at hB
    simp only [] at hB
    rw [hd] at hB hl ⊢
    exact rOf_core s b (k : Int) _ _ _ true w hl e1 e2 (fun h => by cases h) (hid fun u => of64_any u) (hid hB)
end Go.Proofs.Ythilnddhehbjiab

/- The law's took. -/
namespace Go.Proofs.Ythilnddhehbjiab
open Go.RowKit
set_option linter.unusedVariables false
set_option maxRecDepth 20000

theorem Nt.arg' {lo : Nat} {w : World} {a : Option Addr} {n c X : Nat} (h : Nt lo w (.slice a n c) X) (hs : (ws X).length ≤ 35184372088832) : n = (ws X).length ∧ Arg w a (ws X).length c (ws X) := by
  obtain ⟨a', c', e, A⟩ := h.arg hs
  cases e
  exact ⟨rfl, A⟩

end Go.Proofs.Ythilnddhehbjiab

/- dyad's evenSum, sum, difference. -/
namespace Go.Proofs.Ythilnddhehbjiab
open Go.RowKit
set_option linter.unusedVariables false
set_option maxRecDepth 20000
set_option linter.unusedSimpArgs false

theorem len8 {X : Nat} (h : bl X ≤ 262144) : (ws X).length ≤ 8192 := by rw [ws_len_bl]; omega
theorem bl_mono {X Y : Nat} (h : X ≤ Y) : bl X ≤ bl Y := by
  by_cases h0 : bl X = 0
  · omega
  · have h1 := (bl_gt X (bl X - 1)).1 (by omega)
    have := (bl_gt Y (bl X - 1)).2 (Nat.le_trans h1 h)
    omega
theorem bl_le {X k : Nat} (h : X < 2 ^ k) : bl X ≤ k := by
  by_cases h0 : k < bl X
  · have := (bl_gt X k).1 h0; omega
  · omega
end Go.Proofs.Ythilnddhehbjiab

/- Dyads in blocks; dyad's forms. -/
namespace Go.Proofs.Ythilnddhehbjiab
open Go.RowKit
set_option linter.unusedVariables false
set_option maxRecDepth 20000
set_option linter.unusedSimpArgs false

/-- A Dyad in a block of its own. -/
def Dk (w : World) (g : Nat) (n : Bool) (v : Value) (e : Int) : Prop := w.heap[g]? = some (.cells #[.bool n, v, .int .i64 e] 43 (0, 0))
theorem Dk.lt {w : World} {g : Nat} {n : Bool} {v : Value} {e : Int} (h : Dk w g n v e) : g < w.heap.size := (Array.getElem?_eq_some_iff.1 h).1
theorem Dk.below {w w' : World} {g : Nat} {n : Bool} {v : Value} {e : Int} (h : Dk w g n v e) (hb : Below w.heap.size w w') : Dk w' g n v e := by
  unfold Dk; rw [hb.block g h.lt]; exact h
theorem Dk.alloc {w : World} {g : Nat} {n : Bool} {v : Value} {e : Int} (h : Dk w g n v e) (o : Obj) : Dk (w.alloc o) g n v e := h.below (below_alloc w o)
theorem Dk.new (w : World) (n : Bool) (v : Value) (e : Int) : Dk (w.alloc (.cells #[.bool n, v, .int .i64 e] 43)) w.heap.size n v e := heap_alloc_new _ _
theorem Dk.facts {w : World} {g : Nat} {n : Bool} {v : Value} {e : Int} (h : Dk w g n v e) :
    w.cell? ⟨g, 0, none⟩ = some (.bool n) ∧ w.cell? ⟨g, 1, none⟩ = some v ∧ w.cell? ⟨g, 2, none⟩ = some (.int .i64 e) ∧ w.frozen? ⟨g, 0, none⟩ = false ∧ w.frozen? ⟨g, 1, none⟩ = false ∧ w.frozen? ⟨g, 2, none⟩ = false := by
  unfold Dk at h
  simp [World.cell?, World.frozen?, h]
/-- What is stored whole. -/
abbrev st3 (w : World) (g : Nat) (x y z : Value) : World := ((w.setCell ⟨g, 0, none⟩ x).setCell ⟨g, 1, none⟩ y).setCell ⟨g, 2, none⟩ z
theorem Dk.set {w : World} {g : Nat} {n : Bool} {v : Value} {e : Int} (h : Dk w g n v e) (m : Bool) (u : Value) (f : Int) : Dk (st3 w g (.bool m) u (.int .i64 f)) g m u f := by
  unfold Dk at h ⊢
  simp [st3, World.setCell, Array.getElem?_modify, h]
theorem Fin.st3 {lo m : Nat} {w0 w : World} {v : Value} {X : Nat} (H : Fin lo m w0 w v X) (g : Nat) (x y z : Value) (h1 : lo ≤ g) (h2 : g < m) : Fin lo m w0 (st3 w g x y z) v X := ((H.set g 0 x h1 h2).set g 1 y h1 h2).set g 2 z h1 h2
theorem Fin.below {lo m : Nat} {w0 w w' : World} {v : Value} {X : Nat} (H : Fin lo m w0 w v X) (hb : Below w.heap.size w w') : Fin lo m w0 w' v X := ⟨H.nt.below hb, H.bel.trans (hb.mono H.size), Nat.le_trans H.size hb.size⟩

theorem Fin.drew {lo m : Nat} {w0 w : World} {v : Value} {X : Nat} (H : Fin lo m w0 w v X) : Fin lo m w0 w.drew v X := ⟨H.nt, H.bel.drew, H.size⟩
end Go.Proofs.Ythilnddhehbjiab

/- dyad's Add. -/
namespace Go.Proofs.Ythilnddhehbjiab
open Go.RowKit
set_option linter.unusedVariables false
set_option maxRecDepth 20000
set_option linter.unusedSimpArgs false

/-- The three blocks at Add's beginning. -/
theorem add_begin (w : World) (n m : Bool) (v u : Value) (e f : Int) (W : World) (hW : W = ((w.alloc (.cells #[.bool n, v, .int .i64 e] 43)).alloc (.cells #[.bool m, u, .int .i64 f] 43)).alloc (.cells #[.bool false, .slice none 0 0, .int .i64 0] 43)) :
    Below w.heap.size w W ∧ W.heap.size = w.heap.size + 3 ∧ Dk W w.heap.size n v e ∧ Dk W (w.heap.size + 1) m u f ∧ Dk W (w.heap.size + 1 + 1) false (.slice none 0 0) 0 := by
  subst hW
  refine ⟨((below_alloc w _).alloc (by simp) _).alloc (by simp; omega) _, by simp, ((Dk.new w n v e).alloc _).alloc _, ?_, ?_⟩
  · have := (Dk.new (w.alloc (.cells #[.bool n, v, .int .i64 e] 43)) m u f).alloc (.cells #[.bool false, .slice none 0 0, .int .i64 0] 43); simpa using this
  · have := Dk.new ((w.alloc (.cells #[.bool n, v, .int .i64 e] 43)).alloc (.cells #[.bool m, u, .int .i64 f] 43)) false (.slice none 0 0) 0; simpa using this

end Go.Proofs.Ythilnddhehbjiab

/- dyad's Add: what it answers. -/
namespace Go.Proofs.Ythilnddhehbjiab
open Go.RowKit
set_option linter.unusedVariables false
set_option maxRecDepth 20000

/-- The sum of two forms that are not nought, the second not the higher. -/
def addUp (n : Bool) (X : Nat) (e : Int) (m : Bool) (Y : Nat) (f : Int) : Option (Bool × Nat × Int) :=
  if 262144 < bl X + (e - f).toNat then none
  else if n = m then mkS n (X * 2 ^ (e - f).toNat + Y) f
  else if Y ≤ X * 2 ^ (e - f).toNat then mkS n (X * 2 ^ (e - f).toNat - Y) f
  else mkS (!n) (Y - X * 2 ^ (e - f).toNat) f
def addF (x y : Bool × Nat × Int) : Option (Bool × Nat × Int) :=
  if x.2.1 = 0 then some y else if y.2.1 = 0 then some x
  else if x.2.2 < y.2.2 then addUp y.1 y.2.1 y.2.2 x.1 x.2.1 x.2.2 else addUp x.1 x.2.1 x.2.2 y.1 y.2.1 y.2.2
def addD (o p : Option (Bool × Nat × Int)) : Option (Bool × Nat × Int) :=
  match o, p with
  | some x, some y => addF x y
  | _, _ => none

theorem bl_up (X b : Nat) (hX : X ≠ 0) : bl (X * 2 ^ b) = bl X + b := by rw [Nat.mul_comm, bl_mul_pow b X hX]; omega

theorem len_ne {X : Nat} (h : X ≠ 0) : ((((ws X).length : Nat) : Int) == 0) = false := beq_eq_false_iff_ne.2 (by have : (ws X).length ≠ 0 := fun e => h ((ws_len_zero X).1 e); omega)

end Go.Proofs.Ythilnddhehbjiab

/- math's Ldexp and Copysign. -/
namespace Go.Proofs.Ythilnddhehbjiab.B
open Go.RowKit
set_option linter.unusedVariables false
set_option maxRecDepth 20000
attribute [local go_sem] f64bits f64frombits
theorem mul_exact (f : Ieee.Format) (hs : f.infRung < f.signWeight) (s t : Bool) (r u v a : Nat) (ha : f.leastPlace = -(a : Int)) (hr : r < f.infRung) (hu : u < f.infRung) (hv : v < f.infRung)
    (h : val f r * val f u = val f v * 2 ^ a) (h0 : val f r ≠ 0) (h1 : val f u ≠ 0) : f.mul (f.word s r) (f.word t u) = some (f.word (s ^^ t) v) := by
  obtain ⟨m, k, e1, v1⟩ := read_word f s r hr hs
  obtain ⟨n, j, e2, v2⟩ := read_word f t u hu hs
  unfold Ieee.Format.mul
  rw [e1, e2]
  show some (f.nearest (s ^^ t) (m * n) (f.leastPlace + k + (f.leastPlace + j))) = _
  have e : f.leastPlace + (k : Int) + (f.leastPlace + (j : Int)) = f.leastPlace + ((k + j : Nat) : Int) - (a : Int) := by omega
  have hmn : m * n ≠ 0 := by
    intro h2
    rcases Nat.mul_eq_zero.1 h2 with h3 | h3
    · subst h3; simp at v1; exact h0 v1.symm
    · subst h3; simp at v2; exact h1 v2.symm
  rw [e, nearest_exact2 f _ (m * n) (k + j) a v hv ?_ hmn]
  rw [← h, ← v1, ← v2, Nat.pow_add]
  grind

end Go.Proofs.Ythilnddhehbjiab.B

/- math's Ldexp of a whole number of at most 2^53. -/
namespace Go.Proofs.Ythilnddhehbjiab.B
open Go.RowKit
set_option linter.unusedVariables false
set_option maxRecDepth 20000

def LP : Nat := 1074
theorem dLP : Ieee.double.leastPlace = -(LP : Int) := by decide

theorem val_plain (e g : Nat) (he : 0 < e) (hg : g < 4503599627370496) : val Ieee.double (e * 4503599627370496 + g) = (4503599627370496 + g) * 2 ^ (e - 1) := by
  obtain ⟨j, rfl⟩ : ∃ j, e = j + 1 := ⟨e - 1, by omega⟩
  have h := val_at Ieee.double j (4503599627370496 + g) (.inr (by rw [dBin]; omega)) (by rw [dBin]; omega)
  rw [dBin] at h
  rw [show (j + 1) * 4503599627370496 + g = j * 4503599627370496 + (4503599627370496 + g) by omega, h]
  rfl
theorem pow_val (e : Nat) (he : 0 < e) (q : Nat) (hq : e - 1 = q) : val Ieee.double (e * 4503599627370496 + 0) = 2 ^ (52 + q) := by
  rw [val_plain e 0 he (by omega), hq, Nat.add_zero, Nat.pow_add]
theorem pow_val2 (e : Nat) (he : 0 < e) (q r : Nat) (hq : e - 1 = q) (hr : 52 + q = r) : val Ieee.double (e * 4503599627370496 + 0) = 2 ^ r := by rw [pow_val e he q hq, hr]
theorem one_val : val Ieee.double 4607182418800017408 = 2 ^ LP := pow_val2 1023 (by omega) (LP - 52) LP rfl rfl
theorem mul_one (d : Nat) (hd : d < 9218868437227405312) (h0 : 0 < d) (t : TypeId) (u : World) : (binOp .mul t (.float .f64 4607182418800017408) (.float .f64 d)).run Try.prog u = .ok (.float .f64 d) u := by
  refine run_float_arith u .mul t .f64 _ _ _ ?_
  show Ieee.double.mul 4607182418800017408 d = some d
  have hw : ∀ r : Nat, Ieee.double.word false r = r := fun r => by simp [Ieee.Format.word]
  have hp : 0 < val Ieee.double d := by have := val_lt Ieee.double (r := 0) (s := d) h0; omega
  have := mul_exact Ieee.double dHs false false 4607182418800017408 d d LP dLP (by rw [dInf]; omega) (by rw [dInf]; omega) (by rw [dInf]; omega) (by rw [one_val, Nat.mul_comm]) (by rw [one_val]; have := Nat.two_pow_pos LP; omega) (by omega)
  rw [hw, hw] at this
  exact this
end Go.Proofs.Ythilnddhehbjiab.B

/- dyad's placed. -/
namespace Go.Proofs.Ythilnddhehbjiab
open Go.RowKit
set_option linter.unusedVariables false
set_option maxRecDepth 20000
set_option linter.unusedSimpArgs false

/-- Where a form lies among numbers of dg digits from 2^least on. -/
def plc (dg : Nat) (least top : Int) (X : Nat) (e : Int) : Nat × Int × Bool × Int :=
  if top < e + bl X then (2 ^ dg - 1, top - dg, false, 1)
  else
    let ex := max (e + bl X - dg) least
    let off := ex - e
    if off ≤ 0 then (X * 2 ^ (-off).toNat, ex, true, -1)
    else (X / 2 ^ off.toNat, ex, false, if off = 1 then 0 else if X / 2 ^ (off - 1).toNat % 2 = 1 then 1 else -1)

end Go.Proofs.Ythilnddhehbjiab

/- dyad's placed, goesOut: what they answer. -/
namespace Go.Proofs.Ythilnddhehbjiab
open Go.RowKit
set_option linter.unusedVariables false
set_option maxRecDepth 20000
set_option linter.unusedSimpArgs false

theorem plc_facts (X : Nat) (e : Int) (hX : X ≠ 0) (he0 : -1048576 ≤ e) (he1 : e ≤ 1048576) :
    (plc 53 (-1074) 1024 X e).1 ≤ 9007199254740991 ∧ -1074 ≤ (plc 53 (-1074) 1024 X e).2.1 ∧ (plc 53 (-1074) 1024 X e).2.1 ≤ 971 ∧ ((plc 53 (-1074) 1024 X e).2.1 = -1074 ∨ 4503599627370496 ≤ (plc 53 (-1074) 1024 X e).1) := by
  have hb := bl_pos X hX
  have h1 := bl_lt X
  have h2 := bl_ge X hX
  have e53 : (2 : Nat) ^ 53 = 9007199254740992 := rfl
  have e52 : (2 : Nat) ^ 52 = 4503599627370496 := rfl
  unfold plc
  by_cases hf : 1024 < e + (bl X : Int)
  · rw [if_pos hf]
    refine ⟨by simp, by simp, by simp, .inr (by simp)⟩
  · rw [if_neg hf]
    simp only
    obtain ⟨ex, hex⟩ : ∃ ex, max (e + (bl X : Int) - ((53 : Nat) : Int)) (-1074) = ex := ⟨_, rfl⟩
    rw [hex]
    by_cases ho : ex - e ≤ 0
    · rw [if_pos ho]
      obtain ⟨k, hk⟩ : ∃ k : Nat, (-(ex - e)).toNat = k := ⟨_, rfl⟩
      rw [hk]
      have hub : X * 2 ^ k < 2 ^ (bl X + k) := by rw [Nat.pow_add]; exact Nat.mul_lt_mul_of_pos_right h1 (Nat.two_pow_pos k)
      have hm : 2 ^ (bl X + k) ≤ 2 ^ 53 := Nat.pow_le_pow_right (by omega) (by omega)
      refine ⟨by simp only; omega, by simp only; omega, by simp only; omega, ?_⟩
      by_cases hl : ex = -1074
      · exact .inl hl
      · right
        have hlb : 2 ^ (bl X - 1) * 2 ^ k ≤ X * 2 ^ k := Nat.mul_le_mul_right _ h2
        rw [← Nat.pow_add, show bl X - 1 + k = 52 by omega] at hlb
        simp only
        omega
    · rw [if_neg ho]
      obtain ⟨k, hk⟩ : ∃ k : Nat, (ex - e).toNat = k := ⟨_, rfl⟩
      rw [hk]
      have hub : X / 2 ^ k < 2 ^ 53 := by
        rw [Nat.div_lt_iff_lt_mul (Nat.two_pow_pos k), ← Nat.pow_add]
        exact Nat.lt_of_lt_of_le h1 (Nat.pow_le_pow_right (by omega) (by omega))
      refine ⟨by simp only; omega, by simp only; omega, by simp only; omega, ?_⟩
      by_cases hl : ex = -1074
      · exact .inl hl
      · right
        have hlb : 2 ^ 52 ≤ X / 2 ^ k := by
          rw [Nat.le_div_iff_mul_le (Nat.two_pow_pos k), ← Nat.pow_add, show 52 + k = bl X - 1 by omega]
          exact h2
        simp only
        omega

/-- Whether what lies between goes out. -/
def outS (mode : Int) (F : Nat) (mid : Int) (n : Bool) : Bool :=
  if mode = 0 then decide (0 < mid) || (decide (mid = 0) && decide (F % 2 = 1)) else if mode = 2 then !n else if mode = 3 then n else if mode = 4 then decide (0 ≤ mid) else false
end Go.Proofs.Ythilnddhehbjiab

/- dyad's Round: what it answers. -/
namespace Go.Proofs.Ythilnddhehbjiab
open Go.RowKit
set_option linter.unusedVariables false
set_option maxRecDepth 20000
set_option linter.unusedSimpArgs false

/-- The bits without a sign. -/
def rndK (mode : Int) (n : Bool) (X : Nat) (e : Int) : Nat :=
  let p := plc 53 (-1074) 1024 X e
  (p.2.1 + 1074).toNat * 4503599627370496 + (if p.2.2.1 then p.1 else if outS mode p.1 p.2.2.2 n then p.1 + 1 else p.1)
def rndS (o : Option (Bool × Nat × Int)) (mode : Int) : Nat × Int :=
  if mode < 0 ∨ 4 < mode then (0, 1)
  else match o with
    | none => (0, 2)
    | some (n, X, e) => if X = 0 then (0, 0) else (rndK mode n X e + (if n then 9223372036854775808 else 0), 0)

end Go.Proofs.Ythilnddhehbjiab

/- dyad's Mul. -/
namespace Go.Proofs.Ythilnddhehbjiab
open Go.RowKit
set_option linter.unusedVariables false
set_option maxRecDepth 20000
set_option linter.unusedSimpArgs false

/-- The product of two forms. -/
def mulF (x y : Bool × Nat × Int) : Option (Bool × Nat × Int) := mkS (x.1 != y.1) (x.2.1 * y.2.1) (x.2.2 + y.2.2)
def mulD (o p : Option (Bool × Nat × Int)) : Option (Bool × Nat × Int) :=
  match o, p with
  | some x, some y => mulF x y
  | _, _ => none

theorem lo_odd1 {X : Nat} (h : X % 2 = 1) : lo X = 0 := by
  have := lo_eq 0 (X / 2)
  rw [show 2 ^ 0 * (2 * (X / 2) + 1) = X by omega] at this
  exact this

end Go.Proofs.Ythilnddhehbjiab

/- The document's Mul. -/
namespace Go.Proofs.Ythilnddhehbjiab
open Go.RowKit
set_option linter.unusedVariables false
set_option maxRecDepth 20000
set_option linter.unusedSimpArgs false

theorem wrap64 (x : Int) (h0 : -9223372036854775808 ≤ x) (h1 : x ≤ 9223372036854775807) : IntKind.i64.wrap x = x := by rw [IntKind.wrap_i64]; omega

theorem rmul_res (W : World) (g : Nat) (n : Bool) (v : Value) (e k : Int) (tmps : Array Value) (ht : tmps[4]?.getD undef = .pointer (some ⟨g, 0, none⟩)) (hk : tmps[5]?.getD undef = .int .i64 k) (D : Dk W g n v e) :
    (results Try.f36 tmps).run Try.prog W = .ok (.tuple #[.agg #[.bool n, v, .int .i64 e], .int .i64 k]) W := by
  obtain ⟨x0, x1, x2, xf0, xf1, xf2⟩ := D.facts
  simp [results, Try.results36, ht, hk, go_sem, x0, x1, x2]

set_option maxHeartbeats 4000000 in
theorem rmul_ff {w : World} {a b : Option Addr} {l c k d : Nat} (n m : Bool) (e f : Int) (n1 m1 : Bool) (X Y : Nat) (e1 f1 : Int) (lX : (ws X).length ≤ 8192) (lY : (ws Y).length ≤ 8192)
    (HF1 : Hid (∀ u, Below w.heap.size w u → Calls Try.prog 53 #[.agg #[.bool n, .slice a l c, .int .i64 e]] u fun r w' => (∃ v, r = .returned (.tuple #[.agg #[.bool n1, v, .int .i64 e1], .bool false]) ∧ Nt u.heap.size w' v X) ∧ Below u.heap.size u w'))
    (HF2 : Hid (∀ u, Below w.heap.size w u → Calls Try.prog 53 #[.agg #[.bool m, .slice b k d, .int .i64 f]] u fun r w' => (∃ v, r = .returned (.tuple #[.agg #[.bool m1, v, .int .i64 f1], .bool false]) ∧ Nt u.heap.size w' v Y) ∧ Below u.heap.size u w')) : Calls Try.prog 36 #[.agg #[.bool n, .slice a l c, .int .i64 e], .agg #[.bool m, .slice b k d, .int .i64 f]] w fun r w' => r = .returned (.tuple #[.agg #[.bool false, .slice none 0 0, .int .i64 0], .int .i64 2]) ∧ Below w.heap.size w w' := by
  obtain ⟨W1, hW1⟩ : ∃ W, W = ((w.alloc (.cells #[.bool n, .slice a l c, .int .i64 e] 43)).alloc (.cells #[.bool m, .slice b k d, .int .i64 f] 43)).alloc (.cells #[.bool false, .slice none 0 0, .int .i64 0] 43) := ⟨_, rfl⟩
  obtain ⟨hB, hz1, DA, DB, DR⟩ := add_begin w n m (.slice a l c) (.slice b k d) e f W1 hW1
  have H1 := hid (HF1.out W1 hB)
  have SB := (Aside.intro (And.intro hB (And.intro hz1 (And.intro DA (And.intro DB DR)))))
  clear hB hz1 DA DB DR HF1
  go_enter Try.func36, Try.ntmps36
  go_wp2_with fail
  rw [← hW1]
  clear hW1
  refine (Calls.mono H1.out) ?_
  rintro r u1 ⟨⟨v, rfl, hN⟩, hb⟩
  obtain ⟨a1, c1, rfl, _⟩ := hN.arg (by omega)
  obtain ⟨hB, hz1, DA, DB, DR⟩ := SB.out
  obtain ⟨U1, hU1⟩ : ∃ U, U = u1.alloc (.cells #[.bool n1, .slice a1 (ws X).length c1, .int .i64 e1] 43) := ⟨_, rfl⟩
  have hA : Below u1.heap.size u1 U1 := by rw [hU1]; exact below_alloc _ _
  have hs1 : w.heap.size + 3 ≤ u1.heap.size := by have := hb.size; omega
  have hs2 : u1.heap.size < U1.heap.size := by rw [hU1]; simp
  have FB := (DB.below hb).below hA
  have FR := (DR.below hb).below hA
  have DX : Dk U1 u1.heap.size n1 (.slice a1 (ws X).length c1) e1 := by rw [hU1]; exact Dk.new _ _ _ _
  have NX : Nt (w.heap.size + 3) U1 (.slice a1 (ws X).length c1) X := (hN.mono (by omega)).below hA
  have BU : Below w.heap.size w U1 := (hB.trans (hb.mono (by omega))).trans (hA.mono (by omega))
  have H2 := hid (HF2.out U1 BU)
  obtain ⟨y0, y1, y2, yf0, yf1, yf2⟩ := FB.facts
  have S1 := (Aside.intro (And.intro BU (And.intro FR (And.intro DX NX))))
  clear hN hb H1 hB hz1 hA DA DB DR FB FR DX NX BU SB HF2
  go_upto_region 2 with fail
  rw [← hU1]
  clear hU1
  go_wp2_with fail
  clear y0 y1 y2 yf0 yf1 yf2
  refine (Calls.mono H2.out) ?_
  rintro r u2 ⟨⟨v, rfl, hM⟩, hb⟩
  obtain ⟨a2, c2, rfl, _⟩ := hM.arg (by omega)
  obtain ⟨BU, FR, DX, NX⟩ := S1.out
  obtain ⟨U2, hU2⟩ : ∃ U, U = u2.alloc (.cells #[.bool m1, .slice a2 (ws Y).length c2, .int .i64 f1] 43) := ⟨_, rfl⟩
  have hA : Below u2.heap.size u2 U2 := by rw [hU2]; exact below_alloc _ _
  have hs3 : U1.heap.size ≤ u2.heap.size := hb.size
  have hs4 : u2.heap.size < U2.heap.size := by rw [hU2]; simp
  have GR := (FR.below hb).below hA
  have GX := (DX.below hb).below hA
  have GY : Dk U2 u2.heap.size m1 (.slice a2 (ws Y).length c2) f1 := by rw [hU2]; exact Dk.new _ _ _ _
  have MX := (NX.below hb).below hA
  have MY : Nt (w.heap.size + 3) U2 (.slice a2 (ws Y).length c2) Y := (hM.mono (by omega)).below hA
  have BV : Below w.heap.size w U2 := (BU.trans (hb.mono (by omega))).trans (hA.mono (by omega))
  have S2 := (Aside.intro (And.intro BV (And.intro GR (And.intro GX (And.intro GY (And.intro MX MY))))))
  clear hM hb H2 hA FR DX NX BU GR GX GY MX MY BV S1
  go_upto_region 3 with fail
  rw [← hU2]
  clear hU2
  obtain ⟨r0, r1, r2, rf0, rf1, rf2⟩ := S2.out.2.1.facts
  obtain ⟨x0, x1, x2, xf0, xf1, xf2⟩ := S2.out.2.2.1.facts
  obtain ⟨y0, y1, y2, yf0, yf1, yf2⟩ := S2.out.2.2.2.1.facts
  go_wp2
  refine bodyPost_ret (rmul_res _ (w.heap.size + 1 + 1) false (.slice none 0 0) 0 2 _ rfl rfl (S2.out.2.1.set _ _ _)) rfl ⟨rfl, ?_⟩
  refine Fin.bel (m := w.heap.size + 3) (v := .slice a1 (ws X).length c1) (X := X) ?_
  have FE : Fin w.heap.size (w.heap.size + 3) w U2 (.slice a1 (ws X).length c1) X := ⟨S2.out.2.2.2.2.1, S2.out.1, by omega⟩
  repeat (with_reducible first | exact FE | refine Fin.drew ?_ | refine Fin.alloc ?_ _ | refine Fin.set ?_ _ _ _ (by omega) (by omega))

set_option maxHeartbeats 4000000 in
theorem rmul_ft {w : World} {a b : Option Addr} {l c k d : Nat} (n m : Bool) (e f : Int) (n1 m1 : Bool) (X Y : Nat) (e1 f1 : Int) (lX : (ws X).length ≤ 8192) (lY : (ws Y).length ≤ 8192)
    (HF1 : Hid (∀ u, Below w.heap.size w u → Calls Try.prog 53 #[.agg #[.bool n, .slice a l c, .int .i64 e]] u fun r w' => (∃ v, r = .returned (.tuple #[.agg #[.bool n1, v, .int .i64 e1], .bool false]) ∧ Nt u.heap.size w' v X) ∧ Below u.heap.size u w'))
    (HF2 : Hid (∀ u, Below w.heap.size w u → Calls Try.prog 53 #[.agg #[.bool m, .slice b k d, .int .i64 f]] u fun r w' => (∃ v, r = .returned (.tuple #[.agg #[.bool m1, v, .int .i64 f1], .bool true]) ∧ Nt u.heap.size w' v Y) ∧ Below u.heap.size u w')) : Calls Try.prog 36 #[.agg #[.bool n, .slice a l c, .int .i64 e], .agg #[.bool m, .slice b k d, .int .i64 f]] w fun r w' => r = .returned (.tuple #[.agg #[.bool false, .slice none 0 0, .int .i64 0], .int .i64 2]) ∧ Below w.heap.size w w' := by
  obtain ⟨W1, hW1⟩ : ∃ W, W = ((w.alloc (.cells #[.bool n, .slice a l c, .int .i64 e] 43)).alloc (.cells #[.bool m, .slice b k d, .int .i64 f] 43)).alloc (.cells #[.bool false, .slice none 0 0, .int .i64 0] 43) := ⟨_, rfl⟩
  obtain ⟨hB, hz1, DA, DB, DR⟩ := add_begin w n m (.slice a l c) (.slice b k d) e f W1 hW1
  have H1 := hid (HF1.out W1 hB)
  have SB := (Aside.intro (And.intro hB (And.intro hz1 (And.intro DA (And.intro DB DR)))))
  clear hB hz1 DA DB DR HF1
  go_enter Try.func36, Try.ntmps36
  go_wp2_with fail
  rw [← hW1]
  clear hW1
  refine (Calls.mono H1.out) ?_
  rintro r u1 ⟨⟨v, rfl, hN⟩, hb⟩
  obtain ⟨a1, c1, rfl, _⟩ := hN.arg (by omega)
  obtain ⟨hB, hz1, DA, DB, DR⟩ := SB.out
  obtain ⟨U1, hU1⟩ : ∃ U, U = u1.alloc (.cells #[.bool n1, .slice a1 (ws X).length c1, .int .i64 e1] 43) := ⟨_, rfl⟩
  have hA : Below u1.heap.size u1 U1 := by rw [hU1]; exact below_alloc _ _
  have hs1 : w.heap.size + 3 ≤ u1.heap.size := by have := hb.size; omega
  have hs2 : u1.heap.size < U1.heap.size := by rw [hU1]; simp
  have FB := (DB.below hb).below hA
  have FR := (DR.below hb).below hA
  have DX : Dk U1 u1.heap.size n1 (.slice a1 (ws X).length c1) e1 := by rw [hU1]; exact Dk.new _ _ _ _
  have NX : Nt (w.heap.size + 3) U1 (.slice a1 (ws X).length c1) X := (hN.mono (by omega)).below hA
  have BU : Below w.heap.size w U1 := (hB.trans (hb.mono (by omega))).trans (hA.mono (by omega))
  have H2 := hid (HF2.out U1 BU)
  obtain ⟨y0, y1, y2, yf0, yf1, yf2⟩ := FB.facts
  have S1 := (Aside.intro (And.intro BU (And.intro FR (And.intro DX NX))))
  clear hN hb H1 hB hz1 hA DA DB DR FB FR DX NX BU SB HF2
  go_upto_region 2 with fail
  rw [← hU1]
  clear hU1
  go_wp2_with fail
  clear y0 y1 y2 yf0 yf1 yf2
  refine (Calls.mono H2.out) ?_
  rintro r u2 ⟨⟨v, rfl, hM⟩, hb⟩
  obtain ⟨a2, c2, rfl, _⟩ := hM.arg (by omega)
  obtain ⟨BU, FR, DX, NX⟩ := S1.out
  obtain ⟨U2, hU2⟩ : ∃ U, U = u2.alloc (.cells #[.bool m1, .slice a2 (ws Y).length c2, .int .i64 f1] 43) := ⟨_, rfl⟩
  have hA : Below u2.heap.size u2 U2 := by rw [hU2]; exact below_alloc _ _
  have hs3 : U1.heap.size ≤ u2.heap.size := hb.size
  have hs4 : u2.heap.size < U2.heap.size := by rw [hU2]; simp
  have GR := (FR.below hb).below hA
  have GX := (DX.below hb).below hA
  have GY : Dk U2 u2.heap.size m1 (.slice a2 (ws Y).length c2) f1 := by rw [hU2]; exact Dk.new _ _ _ _
  have MX := (NX.below hb).below hA
  have MY : Nt (w.heap.size + 3) U2 (.slice a2 (ws Y).length c2) Y := (hM.mono (by omega)).below hA
  have BV : Below w.heap.size w U2 := (BU.trans (hb.mono (by omega))).trans (hA.mono (by omega))
  have S2 := (Aside.intro (And.intro BV (And.intro GR (And.intro GX (And.intro GY (And.intro MX MY))))))
  clear hM hb H2 hA FR DX NX BU GR GX GY MX MY BV S1
  go_upto_region 3 with fail
  rw [← hU2]
  clear hU2
  obtain ⟨r0, r1, r2, rf0, rf1, rf2⟩ := S2.out.2.1.facts
  obtain ⟨x0, x1, x2, xf0, xf1, xf2⟩ := S2.out.2.2.1.facts
  obtain ⟨y0, y1, y2, yf0, yf1, yf2⟩ := S2.out.2.2.2.1.facts
  go_wp2
  refine bodyPost_ret (rmul_res _ (w.heap.size + 1 + 1) false (.slice none 0 0) 0 2 _ rfl rfl (S2.out.2.1.set _ _ _)) rfl ⟨rfl, ?_⟩
  refine Fin.bel (m := w.heap.size + 3) (v := .slice a1 (ws X).length c1) (X := X) ?_
  have FE : Fin w.heap.size (w.heap.size + 3) w U2 (.slice a1 (ws X).length c1) X := ⟨S2.out.2.2.2.2.1, S2.out.1, by omega⟩
  repeat (with_reducible first | exact FE | refine Fin.drew ?_ | refine Fin.alloc ?_ _ | refine Fin.set ?_ _ _ _ (by omega) (by omega))

set_option maxHeartbeats 4000000 in
theorem rmul_tf {w : World} {a b : Option Addr} {l c k d : Nat} (n m : Bool) (e f : Int) (n1 m1 : Bool) (X Y : Nat) (e1 f1 : Int) (lX : (ws X).length ≤ 8192) (lY : (ws Y).length ≤ 8192)
    (HF1 : Hid (∀ u, Below w.heap.size w u → Calls Try.prog 53 #[.agg #[.bool n, .slice a l c, .int .i64 e]] u fun r w' => (∃ v, r = .returned (.tuple #[.agg #[.bool n1, v, .int .i64 e1], .bool true]) ∧ Nt u.heap.size w' v X) ∧ Below u.heap.size u w'))
    (HF2 : Hid (∀ u, Below w.heap.size w u → Calls Try.prog 53 #[.agg #[.bool m, .slice b k d, .int .i64 f]] u fun r w' => (∃ v, r = .returned (.tuple #[.agg #[.bool m1, v, .int .i64 f1], .bool false]) ∧ Nt u.heap.size w' v Y) ∧ Below u.heap.size u w')) : Calls Try.prog 36 #[.agg #[.bool n, .slice a l c, .int .i64 e], .agg #[.bool m, .slice b k d, .int .i64 f]] w fun r w' => r = .returned (.tuple #[.agg #[.bool false, .slice none 0 0, .int .i64 0], .int .i64 2]) ∧ Below w.heap.size w w' := by
  obtain ⟨W1, hW1⟩ : ∃ W, W = ((w.alloc (.cells #[.bool n, .slice a l c, .int .i64 e] 43)).alloc (.cells #[.bool m, .slice b k d, .int .i64 f] 43)).alloc (.cells #[.bool false, .slice none 0 0, .int .i64 0] 43) := ⟨_, rfl⟩
  obtain ⟨hB, hz1, DA, DB, DR⟩ := add_begin w n m (.slice a l c) (.slice b k d) e f W1 hW1
  have H1 := hid (HF1.out W1 hB)
  have SB := (Aside.intro (And.intro hB (And.intro hz1 (And.intro DA (And.intro DB DR)))))
  clear hB hz1 DA DB DR HF1
  go_enter Try.func36, Try.ntmps36
  go_wp2_with fail
  rw [← hW1]
  clear hW1
  refine (Calls.mono H1.out) ?_
  rintro r u1 ⟨⟨v, rfl, hN⟩, hb⟩
  obtain ⟨a1, c1, rfl, _⟩ := hN.arg (by omega)
  obtain ⟨hB, hz1, DA, DB, DR⟩ := SB.out
  obtain ⟨U1, hU1⟩ : ∃ U, U = u1.alloc (.cells #[.bool n1, .slice a1 (ws X).length c1, .int .i64 e1] 43) := ⟨_, rfl⟩
  have hA : Below u1.heap.size u1 U1 := by rw [hU1]; exact below_alloc _ _
  have hs1 : w.heap.size + 3 ≤ u1.heap.size := by have := hb.size; omega
  have hs2 : u1.heap.size < U1.heap.size := by rw [hU1]; simp
  have FB := (DB.below hb).below hA
  have FR := (DR.below hb).below hA
  have DX : Dk U1 u1.heap.size n1 (.slice a1 (ws X).length c1) e1 := by rw [hU1]; exact Dk.new _ _ _ _
  have NX : Nt (w.heap.size + 3) U1 (.slice a1 (ws X).length c1) X := (hN.mono (by omega)).below hA
  have BU : Below w.heap.size w U1 := (hB.trans (hb.mono (by omega))).trans (hA.mono (by omega))
  have H2 := hid (HF2.out U1 BU)
  obtain ⟨y0, y1, y2, yf0, yf1, yf2⟩ := FB.facts
  have S1 := (Aside.intro (And.intro BU (And.intro FR (And.intro DX NX))))
  clear hN hb H1 hB hz1 hA DA DB DR FB FR DX NX BU SB HF2
  go_upto_region 2 with fail
  rw [← hU1]
  clear hU1
  go_wp2_with fail
  clear y0 y1 y2 yf0 yf1 yf2
  refine (Calls.mono H2.out) ?_
  rintro r u2 ⟨⟨v, rfl, hM⟩, hb⟩
  obtain ⟨a2, c2, rfl, _⟩ := hM.arg (by omega)
  obtain ⟨BU, FR, DX, NX⟩ := S1.out
  obtain ⟨U2, hU2⟩ : ∃ U, U = u2.alloc (.cells #[.bool m1, .slice a2 (ws Y).length c2, .int .i64 f1] 43) := ⟨_, rfl⟩
  have hA : Below u2.heap.size u2 U2 := by rw [hU2]; exact below_alloc _ _
  have hs3 : U1.heap.size ≤ u2.heap.size := hb.size
  have hs4 : u2.heap.size < U2.heap.size := by rw [hU2]; simp
  have GR := (FR.below hb).below hA
  have GX := (DX.below hb).below hA
  have GY : Dk U2 u2.heap.size m1 (.slice a2 (ws Y).length c2) f1 := by rw [hU2]; exact Dk.new _ _ _ _
  have MX := (NX.below hb).below hA
  have MY : Nt (w.heap.size + 3) U2 (.slice a2 (ws Y).length c2) Y := (hM.mono (by omega)).below hA
  have BV : Below w.heap.size w U2 := (BU.trans (hb.mono (by omega))).trans (hA.mono (by omega))
  have S2 := (Aside.intro (And.intro BV (And.intro GR (And.intro GX (And.intro GY (And.intro MX MY))))))
  clear hM hb H2 hA FR DX NX BU GR GX GY MX MY BV S1
  go_upto_region 3 with fail
  rw [← hU2]
  clear hU2
  obtain ⟨r0, r1, r2, rf0, rf1, rf2⟩ := S2.out.2.1.facts
  obtain ⟨x0, x1, x2, xf0, xf1, xf2⟩ := S2.out.2.2.1.facts
  obtain ⟨y0, y1, y2, yf0, yf1, yf2⟩ := S2.out.2.2.2.1.facts
  go_wp2
  refine bodyPost_ret (rmul_res _ (w.heap.size + 1 + 1) false (.slice none 0 0) 0 2 _ rfl rfl (S2.out.2.1.set _ _ _)) rfl ⟨rfl, ?_⟩
  refine Fin.bel (m := w.heap.size + 3) (v := .slice a1 (ws X).length c1) (X := X) ?_
  have FE : Fin w.heap.size (w.heap.size + 3) w U2 (.slice a1 (ws X).length c1) X := ⟨S2.out.2.2.2.2.1, S2.out.1, by omega⟩
  repeat (with_reducible first | exact FE | refine Fin.drew ?_ | refine Fin.alloc ?_ _ | refine Fin.set ?_ _ _ _ (by omega) (by omega))

set_option maxHeartbeats 4000000 in
theorem rmul_ok {w : World} {a b : Option Addr} {l c k d : Nat} (n m : Bool) (e f : Int) (n1 m1 : Bool) (X Y : Nat) (e1 f1 : Int) (lX : (ws X).length ≤ 8192) (lY : (ws Y).length ≤ 8192) (be0 : -1048576 ≤ e1) (be1 : e1 ≤ 1048576) (bf0 : -1048576 ≤ f1) (bf1 : f1 ≤ 1048576) (L : Nat) (lL : (ws L).length ≤ 1000000) (dn : Bool) (V : Nat) (de er : Int) (lV : (ws V).length ≤ 8192)
    (HF1 : Hid (∀ u, Below w.heap.size w u → Calls Try.prog 53 #[.agg #[.bool n, .slice a l c, .int .i64 e]] u fun r w' => (∃ v, r = .returned (.tuple #[.agg #[.bool n1, v, .int .i64 e1], .bool true]) ∧ Nt u.heap.size w' v X) ∧ Below u.heap.size u w'))
    (HF2 : Hid (∀ u, Below w.heap.size w u → Calls Try.prog 53 #[.agg #[.bool m, .slice b k d, .int .i64 f]] u fun r w' => (∃ v, r = .returned (.tuple #[.agg #[.bool m1, v, .int .i64 f1], .bool true]) ∧ Nt u.heap.size w' v Y) ∧ Below u.heap.size u w'))
    (HT : Hid (∀ (u : World) (p q : Option Addr) (s t : Nat), Below w.heap.size w u → Arg u p (ws X).length s (ws X) → Arg u q (ws Y).length t (ws Y) → Calls Try.prog 59 #[.slice p (ws X).length s, .slice q (ws Y).length t] u fun r w' => ∃ v, r = .returned v ∧ Nt u.heap.size w' v L ∧ Below u.heap.size u w'))
    (HL : Hid (∀ (u : World) (p : Option Addr) (s : Nat), Below w.heap.size w u → Arg u p (ws L).length s (ws L) → Calls Try.prog 55 #[.bool (!(n1 == m1)), .slice p (ws L).length s, .int .i64 (IntKind.i64.wrap (e1 + f1))] u fun r w' => (∃ v, r = .returned (.tuple #[.agg #[.bool dn, v, .int .i64 de], .int .i64 er]) ∧ Nt u.heap.size w' v V) ∧ Below u.heap.size u w')) : Calls Try.prog 36 #[.agg #[.bool n, .slice a l c, .int .i64 e], .agg #[.bool m, .slice b k d, .int .i64 f]] w fun r w' => (∃ v, r = .returned (.tuple #[.agg #[.bool dn, v, .int .i64 de], .int .i64 er]) ∧ Nt w.heap.size w' v V) ∧ Below w.heap.size w w' := by
  obtain ⟨W1, hW1⟩ : ∃ W, W = ((w.alloc (.cells #[.bool n, .slice a l c, .int .i64 e] 43)).alloc (.cells #[.bool m, .slice b k d, .int .i64 f] 43)).alloc (.cells #[.bool false, .slice none 0 0, .int .i64 0] 43) := ⟨_, rfl⟩
  obtain ⟨hB, hz1, DA, DB, DR⟩ := add_begin w n m (.slice a l c) (.slice b k d) e f W1 hW1
  have H1 := hid (HF1.out W1 hB)
  have SB := (Aside.intro (And.intro hB (And.intro hz1 (And.intro DA (And.intro DB DR)))))
  clear hB hz1 DA DB DR HF1
  go_enter Try.func36, Try.ntmps36
  go_wp2_with fail
  rw [← hW1]
  clear hW1
  refine (Calls.mono H1.out) ?_
  rintro r u1 ⟨⟨v, rfl, hN⟩, hb⟩
  obtain ⟨a1, c1, rfl, _⟩ := hN.arg (by omega)
  obtain ⟨hB, hz1, DA, DB, DR⟩ := SB.out
  obtain ⟨U1, hU1⟩ : ∃ U, U = u1.alloc (.cells #[.bool n1, .slice a1 (ws X).length c1, .int .i64 e1] 43) := ⟨_, rfl⟩
  have hA : Below u1.heap.size u1 U1 := by rw [hU1]; exact below_alloc _ _
  have hs1 : w.heap.size + 3 ≤ u1.heap.size := by have := hb.size; omega
  have hs2 : u1.heap.size < U1.heap.size := by rw [hU1]; simp
  have FB := (DB.below hb).below hA
  have FR := (DR.below hb).below hA
  have DX : Dk U1 u1.heap.size n1 (.slice a1 (ws X).length c1) e1 := by rw [hU1]; exact Dk.new _ _ _ _
  have NX : Nt (w.heap.size + 3) U1 (.slice a1 (ws X).length c1) X := (hN.mono (by omega)).below hA
  have BU : Below w.heap.size w U1 := (hB.trans (hb.mono (by omega))).trans (hA.mono (by omega))
  have H2 := hid (HF2.out U1 BU)
  obtain ⟨y0, y1, y2, yf0, yf1, yf2⟩ := FB.facts
  have S1 := (Aside.intro (And.intro BU (And.intro FR (And.intro DX NX))))
  clear hN hb H1 hB hz1 hA DA DB DR FB FR DX NX BU SB HF2
  go_upto_region 2 with fail
  rw [← hU1]
  clear hU1
  go_wp2_with fail
  clear y0 y1 y2 yf0 yf1 yf2
  refine (Calls.mono H2.out) ?_
  rintro r u2 ⟨⟨v, rfl, hM⟩, hb⟩
  obtain ⟨a2, c2, rfl, _⟩ := hM.arg (by omega)
  obtain ⟨BU, FR, DX, NX⟩ := S1.out
  obtain ⟨U2, hU2⟩ : ∃ U, U = u2.alloc (.cells #[.bool m1, .slice a2 (ws Y).length c2, .int .i64 f1] 43) := ⟨_, rfl⟩
  have hA : Below u2.heap.size u2 U2 := by rw [hU2]; exact below_alloc _ _
  have hs3 : U1.heap.size ≤ u2.heap.size := hb.size
  have hs4 : u2.heap.size < U2.heap.size := by rw [hU2]; simp
  have GR := (FR.below hb).below hA
  have GX := (DX.below hb).below hA
  have GY : Dk U2 u2.heap.size m1 (.slice a2 (ws Y).length c2) f1 := by rw [hU2]; exact Dk.new _ _ _ _
  have MX := (NX.below hb).below hA
  have MY : Nt (w.heap.size + 3) U2 (.slice a2 (ws Y).length c2) Y := (hM.mono (by omega)).below hA
  have BV : Below w.heap.size w U2 := (BU.trans (hb.mono (by omega))).trans (hA.mono (by omega))
  have S2 := (Aside.intro (And.intro BV (And.intro GR (And.intro GX (And.intro GY (And.intro MX MY))))))
  clear hM hb H2 hA FR DX NX BU GR GX GY MX MY BV S1
  go_upto_region 5 with fail
  rw [← hU2]
  clear hU2
  obtain ⟨r0, r1, r2, rf0, rf1, rf2⟩ := S2.out.2.1.facts
  obtain ⟨x0, x1, x2, xf0, xf1, xf2⟩ := S2.out.2.2.1.facts
  obtain ⟨y0, y1, y2, yf0, yf1, yf2⟩ := S2.out.2.2.2.1.facts
  have ne1 : u1.heap.size ≠ w.heap.size + 1 + 1 := by omega
  have ne2 : u2.heap.size ≠ w.heap.size + 1 + 1 := by omega
  have ne3 : w.heap.size + 1 + 1 ≠ u1.heap.size := by omega
  have ne4 : w.heap.size + 1 + 1 ≠ u2.heap.size := by omega
  have T1 := hid (HT.out U2 a1 a2 c1 c2 S2.out.1 (S2.out.2.2.2.2.1.arg' (by omega)).2 (S2.out.2.2.2.2.2.arg' (by omega)).2)
  have T2 := hid (HT.out U2.drew a1 a2 c1 c2 (Below.drew S2.out.1) (Arg.drew' (S2.out.2.2.2.2.1.arg' (by omega)).2) (Arg.drew' (S2.out.2.2.2.2.2.arg' (by omega)).2))
  go_region_held3 (fun w' => w'.cell? ⟨u1.heap.size, 0, none⟩ = some (.bool n1) ∧ w'.cell? ⟨u1.heap.size, 1, none⟩ = some (.slice a1 (ws X).length c1) ∧ w'.cell? ⟨u1.heap.size, 2, none⟩ = some (.int .i64 e1) ∧ w'.cell? ⟨u2.heap.size, 0, none⟩ = some (.bool m1) ∧ w'.cell? ⟨u2.heap.size, 1, none⟩ = some (.slice a2 (ws Y).length c2) ∧ w'.cell? ⟨u2.heap.size, 2, none⟩ = some (.int .i64 f1)) (go_keep) (first
    | (go_at_call 59
       first | with_reducible refine T1.out.mono ?_ | with_reducible refine T2.out.mono ?_
       rintro r u3 ⟨v, rfl, hN, hb⟩
       obtain ⟨a3, c3, rfl, _⟩ := hN.arg (by omega)
       have hb3 : Below U2.heap.size U2 u3 := by first | exact hb | exact ((Below.refl _ U2).drew).trans (hb.mono (Nat.le_refl _))
       have HL3 := hid (HL.out u3 a3 c3 (S2.out.1.trans (hb3.mono (by omega))) (hN.arg' (by omega)).2)
       have KR := S2.out.2.1.below hb3
       have KX := S2.out.2.2.1.below hb3
       have KY := S2.out.2.2.2.1.below hb3
       obtain ⟨p0, p1, p2, pf0, pf1, pf2⟩ := KR.facts
       obtain ⟨q0, q1, q2, qf0, qf1, qf2⟩ := KX.facts
       obtain ⟨s0, s1, s2, sf0, sf1, sf2⟩ := KY.facts
       have hs9 : U2.heap.size ≤ u3.heap.size := hb3.size
       have S9 := (Aside.intro (And.intro (S2.out.1.trans (hb3.mono (by omega))) (And.intro KR (And.intro KX KY))))
       clear hN hb hb3 KR KX KY)
    | (go_at_call 55
       with_reducible refine HL3.out.mono ?_
       rintro r u4 ⟨⟨v, rfl, hN⟩, hb⟩
       obtain ⟨a4, c4, rfl, _⟩ := hN.arg (by omega)
       have LR := S9.out.2.1.below hb
       obtain ⟨t0, t1, t2, tf0, tf1, tf2⟩ := LR.facts
       obtain ⟨i0, i1, i2, if0, if1, if2⟩ := (S9.out.2.2.1.below hb).facts
       obtain ⟨j0, j1, j2, jf0, jf1, jf2⟩ := (S9.out.2.2.2.below hb).facts
       have FV := Aside.intro (show Fin w.heap.size (w.heap.size + 3) w u4 (.slice a4 (ws V).length c4) V from ⟨hN.mono (by omega), S9.out.1.trans (hb.mono (by omega)), by have := hb.size; omega⟩)
       have S10 := Aside.intro LR
       clear hN hb LR))
  all_goals (
    go_wp2
    refine bodyPost_ret (rmul_res _ (w.heap.size + 1 + 1) dn (.slice a4 (ws V).length c4) de er _ rfl rfl (S10.out.set _ _ _)) rfl ?_
    refine Fin.dans (m := w.heap.size + 3) ?_ (by omega)
    repeat (with_reducible first | exact FV.out | refine Fin.drew ?_ | refine Fin.alloc ?_ _ | refine Fin.set ?_ _ _ _ (by omega) (by omega)))

theorem rMul_any3 {w : World} {a b : Option Addr} {l c k d : Nat} {xs ys : List Nat} (h1 : Arg w a l c xs) (h2 : Arg w b k d ys) (hl : l ≤ 2000000) (hk : k ≤ 2000000) (n m : Bool) (e f : Int) (he0 : -9223372036854775808 ≤ e) (he1 : e ≤ 9223372036854775807) (hf0 : -9223372036854775808 ≤ f) (hf1 : f ≤ 9223372036854775807) :
    Calls Try.prog 36 #[.agg #[.bool n, .slice a l c, .int .i64 e], .agg #[.bool m, .slice b k d, .int .i64 f]] w fun r w' => DAns w.heap.size w' r (mulD (mkS n (val xs) e) (mkS m (val ys) f)) ∧ Below w.heap.size w w' := by
  have zero : ∀ {r : Ending} {w' : World}, (r = .returned (.tuple #[.agg #[.bool false, .slice none 0 0, .int .i64 0], .int .i64 2]) ∧ Below w.heap.size w w') → DAns w.heap.size w' r none ∧ Below w.heap.size w w' := fun ⟨h1, h2⟩ => ⟨⟨_, h1, Nt.nil _ _⟩, h2⟩
  have M1 := hid fun u (hu : Below w.heap.size w u) => rMade_any (h1.below hu) hl n e he0 he1
  have M2 := hid fun u (hu : Below w.heap.size w u) => rMade_any (h2.below hu) hk m f hf0 hf1
  have z0 : (ws 0).length ≤ 8192 := by rw [ws_zero]; exact Nat.zero_le _
  cases hx : mkS n (val xs) e with
  | none =>
    cases hy : mkS m (val ys) f with
    | none =>
      rw [hx] at M1; rw [hy] at M2
      exact (rmul_ff n m e f false false 0 0 0 0 z0 z0 M1 M2).mono fun r w' h => zero h
    | some y =>
      obtain ⟨m1, Y, f1⟩ := y
      rw [hx] at M1; rw [hy] at M2
      exact (rmul_ft n m e f false m1 0 Y 0 f1 z0 (frm_len (mkS_frm hy)) M1 M2).mono fun r w' h => zero h
  | some x =>
    obtain ⟨n1, X, e1⟩ := x
    cases hy : mkS m (val ys) f with
    | none =>
      rw [hx] at M1; rw [hy] at M2
      exact (rmul_tf n m e f n1 false X 0 e1 0 (frm_len (mkS_frm hx)) z0 M1 M2).mono fun r w' h => zero h
    | some y =>
      obtain ⟨m1, Y, f1⟩ := y
      rw [hx] at M1; rw [hy] at M2
      have FX := mkS_frm hx
      have FY := mkS_frm hy
      have lX := frm_len FX
      have lY := frm_len FY
      have := FX.up; have := FX.down; have := FY.up; have := FY.down
      show Calls _ _ _ _ fun r w' => DAns w.heap.size w' r (mkS (n1 != m1) (X * Y) (e1 + f1)) ∧ _
      have lL : (ws (X * Y)).length ≤ 16384 := by
        have h1 := ws_len_lt X
        have h2 := ws_len_lt Y
        have h3 : X * Y < pw ((ws X).length + (ws Y).length) := by
          rw [pw_add]
          exact Nat.mul_lt_mul'' h1 h2
        have := (ws_len_le _ _).2 h3
        omega
      obtain ⟨L, hLe⟩ : ∃ L, X * Y = L := ⟨_, rfl⟩
      rw [hLe] at lL ⊢
      exact rmul_ok n m e f n1 m1 X Y e1 f1 lX lY (by omega) (by omega) (by omega) (by omega) L (by omega) _ _ _ _ (mkS_len (n1 != m1) L (e1 + f1)) M1 M2
        (hid fun u p q s t hu hA hB => rTimes_arg hA hB (by omega) (by rw [val_ws, val_ws]; exact hLe))
        (hid fun u p s hu hA => by have := rtold_any hA (by omega) (n1 != m1) (e1 + f1) (by omega) (by omega); rw [val_ws] at this; rw [wrap64 (e1 + f1) (by omega) (by omega)]; exact this)
end Go.Proofs.Ythilnddhehbjiab

/- The document's Add. -/
namespace Go.Proofs.Ythilnddhehbjiab
open Go.RowKit
set_option linter.unusedVariables false
set_option maxRecDepth 20000
set_option linter.unusedSimpArgs false

theorem radd_res (W : World) (g : Nat) (n : Bool) (v : Value) (e k : Int) (tmps : Array Value) (ht : tmps[4]?.getD undef = .pointer (some ⟨g, 0, none⟩)) (hk : tmps[5]?.getD undef = .int .i64 k) (D : Dk W g n v e) :
    (results Try.f35 tmps).run Try.prog W = .ok (.tuple #[.agg #[.bool n, v, .int .i64 e], .int .i64 k]) W := by
  obtain ⟨x0, x1, x2, xf0, xf1, xf2⟩ := D.facts
  simp [results, Try.results35, ht, hk, go_sem, x0, x1, x2]

set_option maxHeartbeats 4000000 in
theorem radd_ff {w : World} {a b : Option Addr} {l c k d : Nat} (n m : Bool) (e f : Int) (n1 m1 : Bool) (X Y : Nat) (e1 f1 : Int) (lX : (ws X).length ≤ 8192) (lY : (ws Y).length ≤ 8192)
    (HF1 : Hid (∀ u, Below w.heap.size w u → Calls Try.prog 53 #[.agg #[.bool n, .slice a l c, .int .i64 e]] u fun r w' => (∃ v, r = .returned (.tuple #[.agg #[.bool n1, v, .int .i64 e1], .bool false]) ∧ Nt u.heap.size w' v X) ∧ Below u.heap.size u w'))
    (HF2 : Hid (∀ u, Below w.heap.size w u → Calls Try.prog 53 #[.agg #[.bool m, .slice b k d, .int .i64 f]] u fun r w' => (∃ v, r = .returned (.tuple #[.agg #[.bool m1, v, .int .i64 f1], .bool false]) ∧ Nt u.heap.size w' v Y) ∧ Below u.heap.size u w')) : Calls Try.prog 35 #[.agg #[.bool n, .slice a l c, .int .i64 e], .agg #[.bool m, .slice b k d, .int .i64 f]] w fun r w' => r = .returned (.tuple #[.agg #[.bool false, .slice none 0 0, .int .i64 0], .int .i64 2]) ∧ Below w.heap.size w w' := by
  obtain ⟨W1, hW1⟩ : ∃ W, W = ((w.alloc (.cells #[.bool n, .slice a l c, .int .i64 e] 43)).alloc (.cells #[.bool m, .slice b k d, .int .i64 f] 43)).alloc (.cells #[.bool false, .slice none 0 0, .int .i64 0] 43) := ⟨_, rfl⟩
  obtain ⟨hB, hz1, DA, DB, DR⟩ := add_begin w n m (.slice a l c) (.slice b k d) e f W1 hW1
  have H1 := hid (HF1.out W1 hB)
  have SB := (Aside.intro (And.intro hB (And.intro hz1 (And.intro DA (And.intro DB DR)))))
  clear hB hz1 DA DB DR HF1
  go_enter Try.func35, Try.ntmps35
  go_wp2_with fail
  rw [← hW1]
  clear hW1
  refine (Calls.mono H1.out) ?_
  rintro r u1 ⟨⟨v, rfl, hN⟩, hb⟩
  obtain ⟨a1, c1, rfl, _⟩ := hN.arg (by omega)
  obtain ⟨hB, hz1, DA, DB, DR⟩ := SB.out
  obtain ⟨U1, hU1⟩ : ∃ U, U = u1.alloc (.cells #[.bool n1, .slice a1 (ws X).length c1, .int .i64 e1] 43) := ⟨_, rfl⟩
  have hA : Below u1.heap.size u1 U1 := by rw [hU1]; exact below_alloc _ _
  have hs1 : w.heap.size + 3 ≤ u1.heap.size := by have := hb.size; omega
  have hs2 : u1.heap.size < U1.heap.size := by rw [hU1]; simp
  have FB := (DB.below hb).below hA
  have FR := (DR.below hb).below hA
  have DX : Dk U1 u1.heap.size n1 (.slice a1 (ws X).length c1) e1 := by rw [hU1]; exact Dk.new _ _ _ _
  have NX : Nt (w.heap.size + 3) U1 (.slice a1 (ws X).length c1) X := (hN.mono (by omega)).below hA
  have BU : Below w.heap.size w U1 := (hB.trans (hb.mono (by omega))).trans (hA.mono (by omega))
  have H2 := hid (HF2.out U1 BU)
  obtain ⟨y0, y1, y2, yf0, yf1, yf2⟩ := FB.facts
  have S1 := (Aside.intro (And.intro BU (And.intro FR (And.intro DX NX))))
  clear hN hb H1 hB hz1 hA DA DB DR FB FR DX NX BU SB HF2
  go_upto_region 2 with fail
  rw [← hU1]
  clear hU1
  go_wp2_with fail
  clear y0 y1 y2 yf0 yf1 yf2
  refine (Calls.mono H2.out) ?_
  rintro r u2 ⟨⟨v, rfl, hM⟩, hb⟩
  obtain ⟨a2, c2, rfl, _⟩ := hM.arg (by omega)
  obtain ⟨BU, FR, DX, NX⟩ := S1.out
  obtain ⟨U2, hU2⟩ : ∃ U, U = u2.alloc (.cells #[.bool m1, .slice a2 (ws Y).length c2, .int .i64 f1] 43) := ⟨_, rfl⟩
  have hA : Below u2.heap.size u2 U2 := by rw [hU2]; exact below_alloc _ _
  have hs3 : U1.heap.size ≤ u2.heap.size := hb.size
  have hs4 : u2.heap.size < U2.heap.size := by rw [hU2]; simp
  have GR := (FR.below hb).below hA
  have GX := (DX.below hb).below hA
  have GY : Dk U2 u2.heap.size m1 (.slice a2 (ws Y).length c2) f1 := by rw [hU2]; exact Dk.new _ _ _ _
  have MX := (NX.below hb).below hA
  have MY : Nt (w.heap.size + 3) U2 (.slice a2 (ws Y).length c2) Y := (hM.mono (by omega)).below hA
  have BV : Below w.heap.size w U2 := (BU.trans (hb.mono (by omega))).trans (hA.mono (by omega))
  have S2 := (Aside.intro (And.intro BV (And.intro GR (And.intro GX (And.intro GY (And.intro MX MY))))))
  clear hM hb H2 hA FR DX NX BU GR GX GY MX MY BV S1
  go_upto_region 3 with fail
  rw [← hU2]
  clear hU2
  obtain ⟨r0, r1, r2, rf0, rf1, rf2⟩ := S2.out.2.1.facts
  obtain ⟨x0, x1, x2, xf0, xf1, xf2⟩ := S2.out.2.2.1.facts
  obtain ⟨y0, y1, y2, yf0, yf1, yf2⟩ := S2.out.2.2.2.1.facts
  go_wp2
  refine bodyPost_ret (radd_res _ (w.heap.size + 1 + 1) false (.slice none 0 0) 0 2 _ rfl rfl (S2.out.2.1.set _ _ _)) rfl ⟨rfl, ?_⟩
  refine Fin.bel (m := w.heap.size + 3) (v := .slice a1 (ws X).length c1) (X := X) ?_
  have FE : Fin w.heap.size (w.heap.size + 3) w U2 (.slice a1 (ws X).length c1) X := ⟨S2.out.2.2.2.2.1, S2.out.1, by omega⟩
  repeat (with_reducible first | exact FE | refine Fin.drew ?_ | refine Fin.alloc ?_ _ | refine Fin.set ?_ _ _ _ (by omega) (by omega))

set_option maxHeartbeats 4000000 in
theorem radd_ft {w : World} {a b : Option Addr} {l c k d : Nat} (n m : Bool) (e f : Int) (n1 m1 : Bool) (X Y : Nat) (e1 f1 : Int) (lX : (ws X).length ≤ 8192) (lY : (ws Y).length ≤ 8192)
    (HF1 : Hid (∀ u, Below w.heap.size w u → Calls Try.prog 53 #[.agg #[.bool n, .slice a l c, .int .i64 e]] u fun r w' => (∃ v, r = .returned (.tuple #[.agg #[.bool n1, v, .int .i64 e1], .bool false]) ∧ Nt u.heap.size w' v X) ∧ Below u.heap.size u w'))
    (HF2 : Hid (∀ u, Below w.heap.size w u → Calls Try.prog 53 #[.agg #[.bool m, .slice b k d, .int .i64 f]] u fun r w' => (∃ v, r = .returned (.tuple #[.agg #[.bool m1, v, .int .i64 f1], .bool true]) ∧ Nt u.heap.size w' v Y) ∧ Below u.heap.size u w')) : Calls Try.prog 35 #[.agg #[.bool n, .slice a l c, .int .i64 e], .agg #[.bool m, .slice b k d, .int .i64 f]] w fun r w' => r = .returned (.tuple #[.agg #[.bool false, .slice none 0 0, .int .i64 0], .int .i64 2]) ∧ Below w.heap.size w w' := by
  obtain ⟨W1, hW1⟩ : ∃ W, W = ((w.alloc (.cells #[.bool n, .slice a l c, .int .i64 e] 43)).alloc (.cells #[.bool m, .slice b k d, .int .i64 f] 43)).alloc (.cells #[.bool false, .slice none 0 0, .int .i64 0] 43) := ⟨_, rfl⟩
  obtain ⟨hB, hz1, DA, DB, DR⟩ := add_begin w n m (.slice a l c) (.slice b k d) e f W1 hW1
  have H1 := hid (HF1.out W1 hB)
  have SB := (Aside.intro (And.intro hB (And.intro hz1 (And.intro DA (And.intro DB DR)))))
  clear hB hz1 DA DB DR HF1
  go_enter Try.func35, Try.ntmps35
  go_wp2_with fail
  rw [← hW1]
  clear hW1
  refine (Calls.mono H1.out) ?_
  rintro r u1 ⟨⟨v, rfl, hN⟩, hb⟩
  obtain ⟨a1, c1, rfl, _⟩ := hN.arg (by omega)
  obtain ⟨hB, hz1, DA, DB, DR⟩ := SB.out
  obtain ⟨U1, hU1⟩ : ∃ U, U = u1.alloc (.cells #[.bool n1, .slice a1 (ws X).length c1, .int .i64 e1] 43) := ⟨_, rfl⟩
  have hA : Below u1.heap.size u1 U1 := by rw [hU1]; exact below_alloc _ _
  have hs1 : w.heap.size + 3 ≤ u1.heap.size := by have := hb.size; omega
  have hs2 : u1.heap.size < U1.heap.size := by rw [hU1]; simp
  have FB := (DB.below hb).below hA
  have FR := (DR.below hb).below hA
  have DX : Dk U1 u1.heap.size n1 (.slice a1 (ws X).length c1) e1 := by rw [hU1]; exact Dk.new _ _ _ _
  have NX : Nt (w.heap.size + 3) U1 (.slice a1 (ws X).length c1) X := (hN.mono (by omega)).below hA
  have BU : Below w.heap.size w U1 := (hB.trans (hb.mono (by omega))).trans (hA.mono (by omega))
  have H2 := hid (HF2.out U1 BU)
  obtain ⟨y0, y1, y2, yf0, yf1, yf2⟩ := FB.facts
  have S1 := (Aside.intro (And.intro BU (And.intro FR (And.intro DX NX))))
  clear hN hb H1 hB hz1 hA DA DB DR FB FR DX NX BU SB HF2
  go_upto_region 2 with fail
  rw [← hU1]
  clear hU1
  go_wp2_with fail
  clear y0 y1 y2 yf0 yf1 yf2
  refine (Calls.mono H2.out) ?_
  rintro r u2 ⟨⟨v, rfl, hM⟩, hb⟩
  obtain ⟨a2, c2, rfl, _⟩ := hM.arg (by omega)
  obtain ⟨BU, FR, DX, NX⟩ := S1.out
  obtain ⟨U2, hU2⟩ : ∃ U, U = u2.alloc (.cells #[.bool m1, .slice a2 (ws Y).length c2, .int .i64 f1] 43) := ⟨_, rfl⟩
  have hA : Below u2.heap.size u2 U2 := by rw [hU2]; exact below_alloc _ _
  have hs3 : U1.heap.size ≤ u2.heap.size := hb.size
  have hs4 : u2.heap.size < U2.heap.size := by rw [hU2]; simp
  have GR := (FR.below hb).below hA
  have GX := (DX.below hb).below hA
  have GY : Dk U2 u2.heap.size m1 (.slice a2 (ws Y).length c2) f1 := by rw [hU2]; exact Dk.new _ _ _ _
  have MX := (NX.below hb).below hA
  have MY : Nt (w.heap.size + 3) U2 (.slice a2 (ws Y).length c2) Y := (hM.mono (by omega)).below hA
  have BV : Below w.heap.size w U2 := (BU.trans (hb.mono (by omega))).trans (hA.mono (by omega))
  have S2 := (Aside.intro (And.intro BV (And.intro GR (And.intro GX (And.intro GY (And.intro MX MY))))))
  clear hM hb H2 hA FR DX NX BU GR GX GY MX MY BV S1
  go_upto_region 3 with fail
  rw [← hU2]
  clear hU2
  obtain ⟨r0, r1, r2, rf0, rf1, rf2⟩ := S2.out.2.1.facts
  obtain ⟨x0, x1, x2, xf0, xf1, xf2⟩ := S2.out.2.2.1.facts
  obtain ⟨y0, y1, y2, yf0, yf1, yf2⟩ := S2.out.2.2.2.1.facts
  go_wp2
  refine bodyPost_ret (radd_res _ (w.heap.size + 1 + 1) false (.slice none 0 0) 0 2 _ rfl rfl (S2.out.2.1.set _ _ _)) rfl ⟨rfl, ?_⟩
  refine Fin.bel (m := w.heap.size + 3) (v := .slice a1 (ws X).length c1) (X := X) ?_
  have FE : Fin w.heap.size (w.heap.size + 3) w U2 (.slice a1 (ws X).length c1) X := ⟨S2.out.2.2.2.2.1, S2.out.1, by omega⟩
  repeat (with_reducible first | exact FE | refine Fin.drew ?_ | refine Fin.alloc ?_ _ | refine Fin.set ?_ _ _ _ (by omega) (by omega))

set_option maxHeartbeats 4000000 in
theorem radd_tf {w : World} {a b : Option Addr} {l c k d : Nat} (n m : Bool) (e f : Int) (n1 m1 : Bool) (X Y : Nat) (e1 f1 : Int) (lX : (ws X).length ≤ 8192) (lY : (ws Y).length ≤ 8192)
    (HF1 : Hid (∀ u, Below w.heap.size w u → Calls Try.prog 53 #[.agg #[.bool n, .slice a l c, .int .i64 e]] u fun r w' => (∃ v, r = .returned (.tuple #[.agg #[.bool n1, v, .int .i64 e1], .bool true]) ∧ Nt u.heap.size w' v X) ∧ Below u.heap.size u w'))
    (HF2 : Hid (∀ u, Below w.heap.size w u → Calls Try.prog 53 #[.agg #[.bool m, .slice b k d, .int .i64 f]] u fun r w' => (∃ v, r = .returned (.tuple #[.agg #[.bool m1, v, .int .i64 f1], .bool false]) ∧ Nt u.heap.size w' v Y) ∧ Below u.heap.size u w')) : Calls Try.prog 35 #[.agg #[.bool n, .slice a l c, .int .i64 e], .agg #[.bool m, .slice b k d, .int .i64 f]] w fun r w' => r = .returned (.tuple #[.agg #[.bool false, .slice none 0 0, .int .i64 0], .int .i64 2]) ∧ Below w.heap.size w w' := by
  obtain ⟨W1, hW1⟩ : ∃ W, W = ((w.alloc (.cells #[.bool n, .slice a l c, .int .i64 e] 43)).alloc (.cells #[.bool m, .slice b k d, .int .i64 f] 43)).alloc (.cells #[.bool false, .slice none 0 0, .int .i64 0] 43) := ⟨_, rfl⟩
  obtain ⟨hB, hz1, DA, DB, DR⟩ := add_begin w n m (.slice a l c) (.slice b k d) e f W1 hW1
  have H1 := hid (HF1.out W1 hB)
  have SB := (Aside.intro (And.intro hB (And.intro hz1 (And.intro DA (And.intro DB DR)))))
  clear hB hz1 DA DB DR HF1
  go_enter Try.func35, Try.ntmps35
  go_wp2_with fail
  rw [← hW1]
  clear hW1
  refine (Calls.mono H1.out) ?_
  rintro r u1 ⟨⟨v, rfl, hN⟩, hb⟩
  obtain ⟨a1, c1, rfl, _⟩ := hN.arg (by omega)
  obtain ⟨hB, hz1, DA, DB, DR⟩ := SB.out
  obtain ⟨U1, hU1⟩ : ∃ U, U = u1.alloc (.cells #[.bool n1, .slice a1 (ws X).length c1, .int .i64 e1] 43) := ⟨_, rfl⟩
  have hA : Below u1.heap.size u1 U1 := by rw [hU1]; exact below_alloc _ _
  have hs1 : w.heap.size + 3 ≤ u1.heap.size := by have := hb.size; omega
  have hs2 : u1.heap.size < U1.heap.size := by rw [hU1]; simp
  have FB := (DB.below hb).below hA
  have FR := (DR.below hb).below hA
  have DX : Dk U1 u1.heap.size n1 (.slice a1 (ws X).length c1) e1 := by rw [hU1]; exact Dk.new _ _ _ _
  have NX : Nt (w.heap.size + 3) U1 (.slice a1 (ws X).length c1) X := (hN.mono (by omega)).below hA
  have BU : Below w.heap.size w U1 := (hB.trans (hb.mono (by omega))).trans (hA.mono (by omega))
  have H2 := hid (HF2.out U1 BU)
  obtain ⟨y0, y1, y2, yf0, yf1, yf2⟩ := FB.facts
  have S1 := (Aside.intro (And.intro BU (And.intro FR (And.intro DX NX))))
  clear hN hb H1 hB hz1 hA DA DB DR FB FR DX NX BU SB HF2
  go_upto_region 2 with fail
  rw [← hU1]
  clear hU1
  go_wp2_with fail
  clear y0 y1 y2 yf0 yf1 yf2
  refine (Calls.mono H2.out) ?_
  rintro r u2 ⟨⟨v, rfl, hM⟩, hb⟩
  obtain ⟨a2, c2, rfl, _⟩ := hM.arg (by omega)
  obtain ⟨BU, FR, DX, NX⟩ := S1.out
  obtain ⟨U2, hU2⟩ : ∃ U, U = u2.alloc (.cells #[.bool m1, .slice a2 (ws Y).length c2, .int .i64 f1] 43) := ⟨_, rfl⟩
  have hA : Below u2.heap.size u2 U2 := by rw [hU2]; exact below_alloc _ _
  have hs3 : U1.heap.size ≤ u2.heap.size := hb.size
  have hs4 : u2.heap.size < U2.heap.size := by rw [hU2]; simp
  have GR := (FR.below hb).below hA
  have GX := (DX.below hb).below hA
  have GY : Dk U2 u2.heap.size m1 (.slice a2 (ws Y).length c2) f1 := by rw [hU2]; exact Dk.new _ _ _ _
  have MX := (NX.below hb).below hA
  have MY : Nt (w.heap.size + 3) U2 (.slice a2 (ws Y).length c2) Y := (hM.mono (by omega)).below hA
  have BV : Below w.heap.size w U2 := (BU.trans (hb.mono (by omega))).trans (hA.mono (by omega))
  have S2 := (Aside.intro (And.intro BV (And.intro GR (And.intro GX (And.intro GY (And.intro MX MY))))))
  clear hM hb H2 hA FR DX NX BU GR GX GY MX MY BV S1
  go_upto_region 3 with fail
  rw [← hU2]
  clear hU2
  obtain ⟨r0, r1, r2, rf0, rf1, rf2⟩ := S2.out.2.1.facts
  obtain ⟨x0, x1, x2, xf0, xf1, xf2⟩ := S2.out.2.2.1.facts
  obtain ⟨y0, y1, y2, yf0, yf1, yf2⟩ := S2.out.2.2.2.1.facts
  go_wp2
  refine bodyPost_ret (radd_res _ (w.heap.size + 1 + 1) false (.slice none 0 0) 0 2 _ rfl rfl (S2.out.2.1.set _ _ _)) rfl ⟨rfl, ?_⟩
  refine Fin.bel (m := w.heap.size + 3) (v := .slice a1 (ws X).length c1) (X := X) ?_
  have FE : Fin w.heap.size (w.heap.size + 3) w U2 (.slice a1 (ws X).length c1) X := ⟨S2.out.2.2.2.2.1, S2.out.1, by omega⟩
  repeat (with_reducible first | exact FE | refine Fin.drew ?_ | refine Fin.alloc ?_ _ | refine Fin.set ?_ _ _ _ (by omega) (by omega))

set_option maxHeartbeats 4000000 in
theorem radd_left {w : World} {a b : Option Addr} {l c k d : Nat} (n m : Bool) (e f : Int) (n1 m1 : Bool) (X Y : Nat) (e1 f1 : Int) (lX : (ws X).length ≤ 8192) (lY : (ws Y).length ≤ 8192) (hX : (ws X).length = 0)
    (HF1 : Hid (∀ u, Below w.heap.size w u → Calls Try.prog 53 #[.agg #[.bool n, .slice a l c, .int .i64 e]] u fun r w' => (∃ v, r = .returned (.tuple #[.agg #[.bool n1, v, .int .i64 e1], .bool true]) ∧ Nt u.heap.size w' v X) ∧ Below u.heap.size u w'))
    (HF2 : Hid (∀ u, Below w.heap.size w u → Calls Try.prog 53 #[.agg #[.bool m, .slice b k d, .int .i64 f]] u fun r w' => (∃ v, r = .returned (.tuple #[.agg #[.bool m1, v, .int .i64 f1], .bool true]) ∧ Nt u.heap.size w' v Y) ∧ Below u.heap.size u w')) : Calls Try.prog 35 #[.agg #[.bool n, .slice a l c, .int .i64 e], .agg #[.bool m, .slice b k d, .int .i64 f]] w fun r w' => DAns w.heap.size w' r (some (m1, Y, f1)) ∧ Below w.heap.size w w' := by
  have HH := Aside.intro hX
  clear hX
  obtain ⟨W1, hW1⟩ : ∃ W, W = ((w.alloc (.cells #[.bool n, .slice a l c, .int .i64 e] 43)).alloc (.cells #[.bool m, .slice b k d, .int .i64 f] 43)).alloc (.cells #[.bool false, .slice none 0 0, .int .i64 0] 43) := ⟨_, rfl⟩
  obtain ⟨hB, hz1, DA, DB, DR⟩ := add_begin w n m (.slice a l c) (.slice b k d) e f W1 hW1
  have H1 := hid (HF1.out W1 hB)
  have SB := (Aside.intro (And.intro hB (And.intro hz1 (And.intro DA (And.intro DB DR)))))
  clear hB hz1 DA DB DR HF1
  go_enter Try.func35, Try.ntmps35
  go_wp2_with fail
  rw [← hW1]
  clear hW1
  refine (Calls.mono H1.out) ?_
  rintro r u1 ⟨⟨v, rfl, hN⟩, hb⟩
  obtain ⟨a1, c1, rfl, _⟩ := hN.arg (by omega)
  obtain ⟨hB, hz1, DA, DB, DR⟩ := SB.out
  obtain ⟨U1, hU1⟩ : ∃ U, U = u1.alloc (.cells #[.bool n1, .slice a1 (ws X).length c1, .int .i64 e1] 43) := ⟨_, rfl⟩
  have hA : Below u1.heap.size u1 U1 := by rw [hU1]; exact below_alloc _ _
  have hs1 : w.heap.size + 3 ≤ u1.heap.size := by have := hb.size; omega
  have hs2 : u1.heap.size < U1.heap.size := by rw [hU1]; simp
  have FB := (DB.below hb).below hA
  have FR := (DR.below hb).below hA
  have DX : Dk U1 u1.heap.size n1 (.slice a1 (ws X).length c1) e1 := by rw [hU1]; exact Dk.new _ _ _ _
  have NX : Nt (w.heap.size + 3) U1 (.slice a1 (ws X).length c1) X := (hN.mono (by omega)).below hA
  have BU : Below w.heap.size w U1 := (hB.trans (hb.mono (by omega))).trans (hA.mono (by omega))
  have H2 := hid (HF2.out U1 BU)
  obtain ⟨y0, y1, y2, yf0, yf1, yf2⟩ := FB.facts
  have S1 := (Aside.intro (And.intro BU (And.intro FR (And.intro DX NX))))
  clear hN hb H1 hB hz1 hA DA DB DR FB FR DX NX BU SB HF2
  go_upto_region 2 with fail
  rw [← hU1]
  clear hU1
  go_wp2_with fail
  clear y0 y1 y2 yf0 yf1 yf2
  refine (Calls.mono H2.out) ?_
  rintro r u2 ⟨⟨v, rfl, hM⟩, hb⟩
  obtain ⟨a2, c2, rfl, _⟩ := hM.arg (by omega)
  obtain ⟨BU, FR, DX, NX⟩ := S1.out
  obtain ⟨U2, hU2⟩ : ∃ U, U = u2.alloc (.cells #[.bool m1, .slice a2 (ws Y).length c2, .int .i64 f1] 43) := ⟨_, rfl⟩
  have hA : Below u2.heap.size u2 U2 := by rw [hU2]; exact below_alloc _ _
  have hs3 : U1.heap.size ≤ u2.heap.size := hb.size
  have hs4 : u2.heap.size < U2.heap.size := by rw [hU2]; simp
  have GR := (FR.below hb).below hA
  have GX := (DX.below hb).below hA
  have GY : Dk U2 u2.heap.size m1 (.slice a2 (ws Y).length c2) f1 := by rw [hU2]; exact Dk.new _ _ _ _
  have MX := (NX.below hb).below hA
  have MY : Nt (w.heap.size + 3) U2 (.slice a2 (ws Y).length c2) Y := (hM.mono (by omega)).below hA
  have BV : Below w.heap.size w U2 := (BU.trans (hb.mono (by omega))).trans (hA.mono (by omega))
  have S2 := (Aside.intro (And.intro BV (And.intro GR (And.intro GX (And.intro GY (And.intro MX MY))))))
  clear hM hb H2 hA FR DX NX BU GR GX GY MX MY BV S1
  go_upto_region 5 with fail
  rw [← hU2]
  clear hU2
  obtain ⟨r0, r1, r2, rf0, rf1, rf2⟩ := S2.out.2.1.facts
  obtain ⟨x0, x1, x2, xf0, xf1, xf2⟩ := S2.out.2.2.1.facts
  obtain ⟨y0, y1, y2, yf0, yf1, yf2⟩ := S2.out.2.2.2.1.facts
  have hX := HH.out
  go_wp2
  refine bodyPost_ret (radd_res _ (w.heap.size + 1 + 1) m1 (.slice a2 (ws Y).length c2) f1 0 _ rfl rfl (S2.out.2.1.set _ _ _)) rfl ?_
  refine Fin.dans (m := w.heap.size + 3) ?_ (by omega)
  have FE : Fin w.heap.size (w.heap.size + 3) w U2 _ _ := ⟨S2.out.2.2.2.2.2, S2.out.1, by omega⟩
  repeat (with_reducible first | exact FE | refine Fin.drew ?_ | refine Fin.alloc ?_ _ | refine Fin.set ?_ _ _ _ (by omega) (by omega))
  exact FE

set_option maxHeartbeats 4000000 in
theorem radd_right {w : World} {a b : Option Addr} {l c k d : Nat} (n m : Bool) (e f : Int) (n1 m1 : Bool) (X Y : Nat) (e1 f1 : Int) (lX : (ws X).length ≤ 8192) (lY : (ws Y).length ≤ 8192) (hX : ((((ws X).length : Nat) : Int) == 0) = false) (hY : (ws Y).length = 0)
    (HF1 : Hid (∀ u, Below w.heap.size w u → Calls Try.prog 53 #[.agg #[.bool n, .slice a l c, .int .i64 e]] u fun r w' => (∃ v, r = .returned (.tuple #[.agg #[.bool n1, v, .int .i64 e1], .bool true]) ∧ Nt u.heap.size w' v X) ∧ Below u.heap.size u w'))
    (HF2 : Hid (∀ u, Below w.heap.size w u → Calls Try.prog 53 #[.agg #[.bool m, .slice b k d, .int .i64 f]] u fun r w' => (∃ v, r = .returned (.tuple #[.agg #[.bool m1, v, .int .i64 f1], .bool true]) ∧ Nt u.heap.size w' v Y) ∧ Below u.heap.size u w')) : Calls Try.prog 35 #[.agg #[.bool n, .slice a l c, .int .i64 e], .agg #[.bool m, .slice b k d, .int .i64 f]] w fun r w' => DAns w.heap.size w' r (some (n1, X, e1)) ∧ Below w.heap.size w w' := by
  have HH := Aside.intro hY
  clear hY
  obtain ⟨W1, hW1⟩ : ∃ W, W = ((w.alloc (.cells #[.bool n, .slice a l c, .int .i64 e] 43)).alloc (.cells #[.bool m, .slice b k d, .int .i64 f] 43)).alloc (.cells #[.bool false, .slice none 0 0, .int .i64 0] 43) := ⟨_, rfl⟩
  obtain ⟨hB, hz1, DA, DB, DR⟩ := add_begin w n m (.slice a l c) (.slice b k d) e f W1 hW1
  have H1 := hid (HF1.out W1 hB)
  have SB := (Aside.intro (And.intro hB (And.intro hz1 (And.intro DA (And.intro DB DR)))))
  clear hB hz1 DA DB DR HF1
  go_enter Try.func35, Try.ntmps35
  go_wp2_with fail
  rw [← hW1]
  clear hW1
  refine (Calls.mono H1.out) ?_
  rintro r u1 ⟨⟨v, rfl, hN⟩, hb⟩
  obtain ⟨a1, c1, rfl, _⟩ := hN.arg (by omega)
  obtain ⟨hB, hz1, DA, DB, DR⟩ := SB.out
  obtain ⟨U1, hU1⟩ : ∃ U, U = u1.alloc (.cells #[.bool n1, .slice a1 (ws X).length c1, .int .i64 e1] 43) := ⟨_, rfl⟩
  have hA : Below u1.heap.size u1 U1 := by rw [hU1]; exact below_alloc _ _
  have hs1 : w.heap.size + 3 ≤ u1.heap.size := by have := hb.size; omega
  have hs2 : u1.heap.size < U1.heap.size := by rw [hU1]; simp
  have FB := (DB.below hb).below hA
  have FR := (DR.below hb).below hA
  have DX : Dk U1 u1.heap.size n1 (.slice a1 (ws X).length c1) e1 := by rw [hU1]; exact Dk.new _ _ _ _
  have NX : Nt (w.heap.size + 3) U1 (.slice a1 (ws X).length c1) X := (hN.mono (by omega)).below hA
  have BU : Below w.heap.size w U1 := (hB.trans (hb.mono (by omega))).trans (hA.mono (by omega))
  have H2 := hid (HF2.out U1 BU)
  obtain ⟨y0, y1, y2, yf0, yf1, yf2⟩ := FB.facts
  have S1 := (Aside.intro (And.intro BU (And.intro FR (And.intro DX NX))))
  clear hN hb H1 hB hz1 hA DA DB DR FB FR DX NX BU SB HF2
  go_upto_region 2 with fail
  rw [← hU1]
  clear hU1
  go_wp2_with fail
  clear y0 y1 y2 yf0 yf1 yf2
  refine (Calls.mono H2.out) ?_
  rintro r u2 ⟨⟨v, rfl, hM⟩, hb⟩
  obtain ⟨a2, c2, rfl, _⟩ := hM.arg (by omega)
  obtain ⟨BU, FR, DX, NX⟩ := S1.out
  obtain ⟨U2, hU2⟩ : ∃ U, U = u2.alloc (.cells #[.bool m1, .slice a2 (ws Y).length c2, .int .i64 f1] 43) := ⟨_, rfl⟩
  have hA : Below u2.heap.size u2 U2 := by rw [hU2]; exact below_alloc _ _
  have hs3 : U1.heap.size ≤ u2.heap.size := hb.size
  have hs4 : u2.heap.size < U2.heap.size := by rw [hU2]; simp
  have GR := (FR.below hb).below hA
  have GX := (DX.below hb).below hA
  have GY : Dk U2 u2.heap.size m1 (.slice a2 (ws Y).length c2) f1 := by rw [hU2]; exact Dk.new _ _ _ _
  have MX := (NX.below hb).below hA
  have MY : Nt (w.heap.size + 3) U2 (.slice a2 (ws Y).length c2) Y := (hM.mono (by omega)).below hA
  have BV : Below w.heap.size w U2 := (BU.trans (hb.mono (by omega))).trans (hA.mono (by omega))
  have S2 := (Aside.intro (And.intro BV (And.intro GR (And.intro GX (And.intro GY (And.intro MX MY))))))
  clear hM hb H2 hA FR DX NX BU GR GX GY MX MY BV S1
  go_upto_region 5 with fail
  rw [← hU2]
  clear hU2
  obtain ⟨r0, r1, r2, rf0, rf1, rf2⟩ := S2.out.2.1.facts
  obtain ⟨x0, x1, x2, xf0, xf1, xf2⟩ := S2.out.2.2.1.facts
  obtain ⟨y0, y1, y2, yf0, yf1, yf2⟩ := S2.out.2.2.2.1.facts
  have hY := HH.out
  go_wp2
  refine bodyPost_ret (radd_res _ (w.heap.size + 1 + 1) n1 (.slice a1 (ws X).length c1) e1 0 _ rfl rfl (S2.out.2.1.set _ _ _)) rfl ?_
  refine Fin.dans (m := w.heap.size + 3) ?_ (by omega)
  have FE : Fin w.heap.size (w.heap.size + 3) w U2 _ _ := ⟨S2.out.2.2.2.2.1, S2.out.1, by omega⟩
  repeat (with_reducible first | exact FE | refine Fin.drew ?_ | refine Fin.alloc ?_ _ | refine Fin.set ?_ _ _ _ (by omega) (by omega))
  exact FE

end Go.Proofs.Ythilnddhehbjiab

/- The document's Add. -/
namespace Go.Proofs.Ythilnddhehbjiab
open Go.RowKit
set_option linter.unusedVariables false
set_option maxRecDepth 20000
set_option linter.unusedSimpArgs false

set_option maxHeartbeats 4000000 in
theorem radd_lp {w : World} {a b : Option Addr} {l c k d : Nat} (n m : Bool) (e f : Int) (n1 m1 : Bool) (X Y : Nat) (e1 f1 : Int) (lX : (ws X).length ≤ 8192) (lY : (ws Y).length ≤ 8192) (hX : ((((ws X).length : Nat) : Int) == 0) = false) (hY : ((((ws Y).length : Nat) : Int) == 0) = false) (be0 : -1048576 ≤ e1) (be1 : e1 ≤ 1048576) (bf0 : -1048576 ≤ f1) (bf1 : f1 ≤ 1048576) (g : Int) (hg : min e1 f1 = g) (bg0 : -1048576 ≤ g) (bg1 : g ≤ 1048576) (P Q : Nat) (lP : (ws P).length ≤ 1000000) (lQ : (ws Q).length ≤ 1000000) (h5 : 8192 < (ws P).length)
    (HF1 : Hid (∀ u, Below w.heap.size w u → Calls Try.prog 53 #[.agg #[.bool n, .slice a l c, .int .i64 e]] u fun r w' => (∃ v, r = .returned (.tuple #[.agg #[.bool n1, v, .int .i64 e1], .bool true]) ∧ Nt u.heap.size w' v X) ∧ Below u.heap.size u w'))
    (HF2 : Hid (∀ u, Below w.heap.size w u → Calls Try.prog 53 #[.agg #[.bool m, .slice b k d, .int .i64 f]] u fun r w' => (∃ v, r = .returned (.tuple #[.agg #[.bool m1, v, .int .i64 f1], .bool true]) ∧ Nt u.heap.size w' v Y) ∧ Below u.heap.size u w'))
    (HP : Hid (∀ (u : World) (v : Value), Below w.heap.size w u → Nt (w.heap.size + 3) u v X → Calls Try.prog 54 #[v, .int .i64 (e1 - g)] u fun r w' => ∃ v, r = .returned v ∧ Nt u.heap.size w' v P ∧ Below u.heap.size u w'))
    (HQ : Hid (∀ (u : World) (v : Value), Below w.heap.size w u → Nt (w.heap.size + 3) u v Y → Calls Try.prog 54 #[v, .int .i64 (f1 - g)] u fun r w' => ∃ v, r = .returned v ∧ Nt u.heap.size w' v Q ∧ Below u.heap.size u w')) : Calls Try.prog 35 #[.agg #[.bool n, .slice a l c, .int .i64 e], .agg #[.bool m, .slice b k d, .int .i64 f]] w fun r w' => r = .returned (.tuple #[.agg #[.bool false, .slice none 0 0, .int .i64 0], .int .i64 2]) ∧ Below w.heap.size w w' := by
  obtain ⟨W1, hW1⟩ : ∃ W, W = ((w.alloc (.cells #[.bool n, .slice a l c, .int .i64 e] 43)).alloc (.cells #[.bool m, .slice b k d, .int .i64 f] 43)).alloc (.cells #[.bool false, .slice none 0 0, .int .i64 0] 43) := ⟨_, rfl⟩
  obtain ⟨hB, hz1, DA, DB, DR⟩ := add_begin w n m (.slice a l c) (.slice b k d) e f W1 hW1
  have H1 := hid (HF1.out W1 hB)
  have SB := (Aside.intro (And.intro hB (And.intro hz1 (And.intro DA (And.intro DB DR)))))
  clear hB hz1 DA DB DR HF1
  go_enter Try.func35, Try.ntmps35
  go_wp2_with fail
  rw [← hW1]
  clear hW1
  refine (Calls.mono H1.out) ?_
  rintro r u1 ⟨⟨v, rfl, hN⟩, hb⟩
  obtain ⟨a1, c1, rfl, _⟩ := hN.arg (by omega)
  obtain ⟨hB, hz1, DA, DB, DR⟩ := SB.out
  obtain ⟨U1, hU1⟩ : ∃ U, U = u1.alloc (.cells #[.bool n1, .slice a1 (ws X).length c1, .int .i64 e1] 43) := ⟨_, rfl⟩
  have hA : Below u1.heap.size u1 U1 := by rw [hU1]; exact below_alloc _ _
  have hs1 : w.heap.size + 3 ≤ u1.heap.size := by have := hb.size; omega
  have hs2 : u1.heap.size < U1.heap.size := by rw [hU1]; simp
  have FB := (DB.below hb).below hA
  have FR := (DR.below hb).below hA
  have DX : Dk U1 u1.heap.size n1 (.slice a1 (ws X).length c1) e1 := by rw [hU1]; exact Dk.new _ _ _ _
  have NX : Nt (w.heap.size + 3) U1 (.slice a1 (ws X).length c1) X := (hN.mono (by omega)).below hA
  have BU : Below w.heap.size w U1 := (hB.trans (hb.mono (by omega))).trans (hA.mono (by omega))
  have H2 := hid (HF2.out U1 BU)
  obtain ⟨y0, y1, y2, yf0, yf1, yf2⟩ := FB.facts
  have S1 := (Aside.intro (And.intro BU (And.intro FR (And.intro DX NX))))
  clear hN hb H1 hB hz1 hA DA DB DR FB FR DX NX BU SB HF2
  go_upto_region 2 with fail
  rw [← hU1]
  clear hU1
  go_wp2_with fail
  clear y0 y1 y2 yf0 yf1 yf2
  refine (Calls.mono H2.out) ?_
  rintro r u2 ⟨⟨v, rfl, hM⟩, hb⟩
  obtain ⟨a2, c2, rfl, _⟩ := hM.arg (by omega)
  obtain ⟨BU, FR, DX, NX⟩ := S1.out
  obtain ⟨U2, hU2⟩ : ∃ U, U = u2.alloc (.cells #[.bool m1, .slice a2 (ws Y).length c2, .int .i64 f1] 43) := ⟨_, rfl⟩
  have hA : Below u2.heap.size u2 U2 := by rw [hU2]; exact below_alloc _ _
  have hs3 : U1.heap.size ≤ u2.heap.size := hb.size
  have hs4 : u2.heap.size < U2.heap.size := by rw [hU2]; simp
  have GR := (FR.below hb).below hA
  have GX := (DX.below hb).below hA
  have GY : Dk U2 u2.heap.size m1 (.slice a2 (ws Y).length c2) f1 := by rw [hU2]; exact Dk.new _ _ _ _
  have MX := (NX.below hb).below hA
  have MY : Nt (w.heap.size + 3) U2 (.slice a2 (ws Y).length c2) Y := (hM.mono (by omega)).below hA
  have BV : Below w.heap.size w U2 := (BU.trans (hb.mono (by omega))).trans (hA.mono (by omega))
  have S2 := (Aside.intro (And.intro BV (And.intro GR (And.intro GX (And.intro GY (And.intro MX MY))))))
  clear hM hb H2 hA FR DX NX BU GR GX GY MX MY BV S1
  go_upto_region 5 with fail
  rw [← hU2]
  clear hU2
  obtain ⟨r0, r1, r2, rf0, rf1, rf2⟩ := S2.out.2.1.facts
  obtain ⟨x0, x1, x2, xf0, xf1, xf2⟩ := S2.out.2.2.1.facts
  obtain ⟨y0, y1, y2, yf0, yf1, yf2⟩ := S2.out.2.2.2.1.facts
  have H3 := hid (HP.out U2 _ S2.out.1 S2.out.2.2.2.2.1)
  clear HP
  go_wp2_with fail
  clear r0 r1 r2 rf0 rf1 rf2 x0 x1 x2 xf0 xf1 xf2 y0 y1 y2 yf0 yf1 yf2
  refine (Calls.mono H3.out) ?_
  rintro r u5 ⟨v, rfl, hP, hb⟩
  obtain ⟨a5, c5, rfl, _⟩ := hP.arg (by omega)
  obtain ⟨BV, GR, GX, GY, MX, MY⟩ := S2.out
  have hs5 : U2.heap.size ≤ u5.heap.size := hb.size
  have BV5 : Below w.heap.size w u5 := BV.trans (hb.mono (by omega))
  have H4 := hid (HQ.out u5 _ BV5 (MY.below hb))
  have S5 := (Aside.intro (And.intro BV5 (And.intro (GR.below hb) (And.intro (GX.below hb) (And.intro (GY.below hb) (And.intro (MX.below hb) (hP.mono (lo' := w.heap.size + 3) (by omega))))))))
  clear BV GR GX GY MX MY BV5 hP hb H3 S2 HQ
  obtain ⟨r0, r1, r2, rf0, rf1, rf2⟩ := S5.out.2.1.facts
  obtain ⟨x0, x1, x2, xf0, xf1, xf2⟩ := S5.out.2.2.1.facts
  obtain ⟨y0, y1, y2, yf0, yf1, yf2⟩ := S5.out.2.2.2.1.facts
  go_wp2_with fail
  clear r0 r1 r2 rf0 rf1 rf2 x0 x1 x2 xf0 xf1 xf2 y0 y1 y2 yf0 yf1 yf2
  refine (Calls.mono H4.out) ?_
  rintro r u6 ⟨v, rfl, hQ, hb⟩
  obtain ⟨a6, c6, rfl, _⟩ := hQ.arg (by omega)
  obtain ⟨BV, GR, GX, GY, MX, MP⟩ := S5.out
  have hs6 : u5.heap.size ≤ u6.heap.size := hb.size
  have S2 := (Aside.intro (And.intro (BV.trans (hb.mono (by omega))) (And.intro (GR.below hb) (And.intro (GX.below hb) (And.intro (GY.below hb) (And.intro (MP.below hb) (hQ.mono (lo' := w.heap.size + 3) (by omega))))))))
  clear BV GR GX GY MX MP hQ hb H4 S5
  obtain ⟨r0, r1, r2, rf0, rf1, rf2⟩ := S2.out.2.1.facts
  obtain ⟨x0, x1, x2, xf0, xf1, xf2⟩ := S2.out.2.2.1.facts
  obtain ⟨y0, y1, y2, yf0, yf1, yf2⟩ := S2.out.2.2.2.1.facts
  go_wp2
  refine bodyPost_ret (radd_res _ (w.heap.size + 1 + 1) false (.slice none 0 0) 0 2 _ rfl rfl (S2.out.2.1.set _ _ _)) rfl ⟨rfl, ?_⟩
  refine Fin.bel (m := w.heap.size + 3) (v := .slice a5 (ws P).length c5) (X := P) ?_
  have FE : Fin w.heap.size (w.heap.size + 3) w u6 (.slice a5 (ws P).length c5) P := ⟨S2.out.2.2.2.2.1, S2.out.1, by omega⟩
  repeat (with_reducible first | exact FE | refine Fin.drew ?_ | refine Fin.alloc ?_ _ | refine Fin.set ?_ _ _ _ (by omega) (by omega))

set_option maxHeartbeats 4000000 in
theorem radd_lq {w : World} {a b : Option Addr} {l c k d : Nat} (n m : Bool) (e f : Int) (n1 m1 : Bool) (X Y : Nat) (e1 f1 : Int) (lX : (ws X).length ≤ 8192) (lY : (ws Y).length ≤ 8192) (hX : ((((ws X).length : Nat) : Int) == 0) = false) (hY : ((((ws Y).length : Nat) : Int) == 0) = false) (be0 : -1048576 ≤ e1) (be1 : e1 ≤ 1048576) (bf0 : -1048576 ≤ f1) (bf1 : f1 ≤ 1048576) (g : Int) (hg : min e1 f1 = g) (bg0 : -1048576 ≤ g) (bg1 : g ≤ 1048576) (P Q : Nat) (lP : (ws P).length ≤ 1000000) (lQ : (ws Q).length ≤ 1000000) (h5 : (ws P).length ≤ 8192) (h6 : 8192 < (ws Q).length)
    (HF1 : Hid (∀ u, Below w.heap.size w u → Calls Try.prog 53 #[.agg #[.bool n, .slice a l c, .int .i64 e]] u fun r w' => (∃ v, r = .returned (.tuple #[.agg #[.bool n1, v, .int .i64 e1], .bool true]) ∧ Nt u.heap.size w' v X) ∧ Below u.heap.size u w'))
    (HF2 : Hid (∀ u, Below w.heap.size w u → Calls Try.prog 53 #[.agg #[.bool m, .slice b k d, .int .i64 f]] u fun r w' => (∃ v, r = .returned (.tuple #[.agg #[.bool m1, v, .int .i64 f1], .bool true]) ∧ Nt u.heap.size w' v Y) ∧ Below u.heap.size u w'))
    (HP : Hid (∀ (u : World) (v : Value), Below w.heap.size w u → Nt (w.heap.size + 3) u v X → Calls Try.prog 54 #[v, .int .i64 (e1 - g)] u fun r w' => ∃ v, r = .returned v ∧ Nt u.heap.size w' v P ∧ Below u.heap.size u w'))
    (HQ : Hid (∀ (u : World) (v : Value), Below w.heap.size w u → Nt (w.heap.size + 3) u v Y → Calls Try.prog 54 #[v, .int .i64 (f1 - g)] u fun r w' => ∃ v, r = .returned v ∧ Nt u.heap.size w' v Q ∧ Below u.heap.size u w')) : Calls Try.prog 35 #[.agg #[.bool n, .slice a l c, .int .i64 e], .agg #[.bool m, .slice b k d, .int .i64 f]] w fun r w' => r = .returned (.tuple #[.agg #[.bool false, .slice none 0 0, .int .i64 0], .int .i64 2]) ∧ Below w.heap.size w w' := by
  obtain ⟨W1, hW1⟩ : ∃ W, W = ((w.alloc (.cells #[.bool n, .slice a l c, .int .i64 e] 43)).alloc (.cells #[.bool m, .slice b k d, .int .i64 f] 43)).alloc (.cells #[.bool false, .slice none 0 0, .int .i64 0] 43) := ⟨_, rfl⟩
  obtain ⟨hB, hz1, DA, DB, DR⟩ := add_begin w n m (.slice a l c) (.slice b k d) e f W1 hW1
  have H1 := hid (HF1.out W1 hB)
  have SB := (Aside.intro (And.intro hB (And.intro hz1 (And.intro DA (And.intro DB DR)))))
  clear hB hz1 DA DB DR HF1
  go_enter Try.func35, Try.ntmps35
  go_wp2_with fail
  rw [← hW1]
  clear hW1
  refine (Calls.mono H1.out) ?_
  rintro r u1 ⟨⟨v, rfl, hN⟩, hb⟩
  obtain ⟨a1, c1, rfl, _⟩ := hN.arg (by omega)
  obtain ⟨hB, hz1, DA, DB, DR⟩ := SB.out
  obtain ⟨U1, hU1⟩ : ∃ U, U = u1.alloc (.cells #[.bool n1, .slice a1 (ws X).length c1, .int .i64 e1] 43) := ⟨_, rfl⟩
  have hA : Below u1.heap.size u1 U1 := by rw [hU1]; exact below_alloc _ _
  have hs1 : w.heap.size + 3 ≤ u1.heap.size := by have := hb.size; omega
  have hs2 : u1.heap.size < U1.heap.size := by rw [hU1]; simp
  have FB := (DB.below hb).below hA
  have FR := (DR.below hb).below hA
  have DX : Dk U1 u1.heap.size n1 (.slice a1 (ws X).length c1) e1 := by rw [hU1]; exact Dk.new _ _ _ _
  have NX : Nt (w.heap.size + 3) U1 (.slice a1 (ws X).length c1) X := (hN.mono (by omega)).below hA
  have BU : Below w.heap.size w U1 := (hB.trans (hb.mono (by omega))).trans (hA.mono (by omega))
  have H2 := hid (HF2.out U1 BU)
  obtain ⟨y0, y1, y2, yf0, yf1, yf2⟩ := FB.facts
  have S1 := (Aside.intro (And.intro BU (And.intro FR (And.intro DX NX))))
  clear hN hb H1 hB hz1 hA DA DB DR FB FR DX NX BU SB HF2
  go_upto_region 2 with fail
  rw [← hU1]
  clear hU1
  go_wp2_with fail
  clear y0 y1 y2 yf0 yf1 yf2
  refine (Calls.mono H2.out) ?_
  rintro r u2 ⟨⟨v, rfl, hM⟩, hb⟩
  obtain ⟨a2, c2, rfl, _⟩ := hM.arg (by omega)
  obtain ⟨BU, FR, DX, NX⟩ := S1.out
  obtain ⟨U2, hU2⟩ : ∃ U, U = u2.alloc (.cells #[.bool m1, .slice a2 (ws Y).length c2, .int .i64 f1] 43) := ⟨_, rfl⟩
  have hA : Below u2.heap.size u2 U2 := by rw [hU2]; exact below_alloc _ _
  have hs3 : U1.heap.size ≤ u2.heap.size := hb.size
  have hs4 : u2.heap.size < U2.heap.size := by rw [hU2]; simp
  have GR := (FR.below hb).below hA
  have GX := (DX.below hb).below hA
  have GY : Dk U2 u2.heap.size m1 (.slice a2 (ws Y).length c2) f1 := by rw [hU2]; exact Dk.new _ _ _ _
  have MX := (NX.below hb).below hA
  have MY : Nt (w.heap.size + 3) U2 (.slice a2 (ws Y).length c2) Y := (hM.mono (by omega)).below hA
  have BV : Below w.heap.size w U2 := (BU.trans (hb.mono (by omega))).trans (hA.mono (by omega))
  have S2 := (Aside.intro (And.intro BV (And.intro GR (And.intro GX (And.intro GY (And.intro MX MY))))))
  clear hM hb H2 hA FR DX NX BU GR GX GY MX MY BV S1
  go_upto_region 5 with fail
  rw [← hU2]
  clear hU2
  obtain ⟨r0, r1, r2, rf0, rf1, rf2⟩ := S2.out.2.1.facts
  obtain ⟨x0, x1, x2, xf0, xf1, xf2⟩ := S2.out.2.2.1.facts
  obtain ⟨y0, y1, y2, yf0, yf1, yf2⟩ := S2.out.2.2.2.1.facts
  have H3 := hid (HP.out U2 _ S2.out.1 S2.out.2.2.2.2.1)
  clear HP
  go_wp2_with fail
  clear r0 r1 r2 rf0 rf1 rf2 x0 x1 x2 xf0 xf1 xf2 y0 y1 y2 yf0 yf1 yf2
  refine (Calls.mono H3.out) ?_
  rintro r u5 ⟨v, rfl, hP, hb⟩
  obtain ⟨a5, c5, rfl, _⟩ := hP.arg (by omega)
  obtain ⟨BV, GR, GX, GY, MX, MY⟩ := S2.out
  have hs5 : U2.heap.size ≤ u5.heap.size := hb.size
  have BV5 : Below w.heap.size w u5 := BV.trans (hb.mono (by omega))
  have H4 := hid (HQ.out u5 _ BV5 (MY.below hb))
  have S5 := (Aside.intro (And.intro BV5 (And.intro (GR.below hb) (And.intro (GX.below hb) (And.intro (GY.below hb) (And.intro (MX.below hb) (hP.mono (lo' := w.heap.size + 3) (by omega))))))))
  clear BV GR GX GY MX MY BV5 hP hb H3 S2 HQ
  obtain ⟨r0, r1, r2, rf0, rf1, rf2⟩ := S5.out.2.1.facts
  obtain ⟨x0, x1, x2, xf0, xf1, xf2⟩ := S5.out.2.2.1.facts
  obtain ⟨y0, y1, y2, yf0, yf1, yf2⟩ := S5.out.2.2.2.1.facts
  go_wp2_with fail
  clear r0 r1 r2 rf0 rf1 rf2 x0 x1 x2 xf0 xf1 xf2 y0 y1 y2 yf0 yf1 yf2
  refine (Calls.mono H4.out) ?_
  rintro r u6 ⟨v, rfl, hQ, hb⟩
  obtain ⟨a6, c6, rfl, _⟩ := hQ.arg (by omega)
  obtain ⟨BV, GR, GX, GY, MX, MP⟩ := S5.out
  have hs6 : u5.heap.size ≤ u6.heap.size := hb.size
  have S2 := (Aside.intro (And.intro (BV.trans (hb.mono (by omega))) (And.intro (GR.below hb) (And.intro (GX.below hb) (And.intro (GY.below hb) (And.intro (MP.below hb) (hQ.mono (lo' := w.heap.size + 3) (by omega))))))))
  clear BV GR GX GY MX MP hQ hb H4 S5
  obtain ⟨r0, r1, r2, rf0, rf1, rf2⟩ := S2.out.2.1.facts
  obtain ⟨x0, x1, x2, xf0, xf1, xf2⟩ := S2.out.2.2.1.facts
  obtain ⟨y0, y1, y2, yf0, yf1, yf2⟩ := S2.out.2.2.2.1.facts
  go_wp2
  refine bodyPost_ret (radd_res _ (w.heap.size + 1 + 1) false (.slice none 0 0) 0 2 _ rfl rfl (S2.out.2.1.set _ _ _)) rfl ⟨rfl, ?_⟩
  refine Fin.bel (m := w.heap.size + 3) (v := .slice a5 (ws P).length c5) (X := P) ?_
  have FE : Fin w.heap.size (w.heap.size + 3) w u6 (.slice a5 (ws P).length c5) P := ⟨S2.out.2.2.2.2.1, S2.out.1, by omega⟩
  repeat (with_reducible first | exact FE | refine Fin.drew ?_ | refine Fin.alloc ?_ _ | refine Fin.set ?_ _ _ _ (by omega) (by omega))

end Go.Proofs.Ythilnddhehbjiab

