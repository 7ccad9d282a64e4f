import Derived.Test.YthilnddhehbjiaaDoorD8
import Derived.Deep.RegionHeld3
import Derived.Test.YthilnddhehbjiaaDoorW48x
/- The document's Number, Bits, Of. -/
namespace Go.Proofs.YthilnddhehbjiaaDoor
open Go.RowKit
set_option linter.unusedVariables false
set_option maxRecDepth 20000
attribute [local go_sem] B.f64bits B.f64frombits

def num64 (k : Nat) : Nat × Int := if k / 4503599627370496 = 0 then (k % 4503599627370496, -1074) else (4503599627370496 + k % 4503599627370496, -1074 + ((k / 4503599627370496 : Nat) : Int) - 1)

set_option maxHeartbeats 4000000 in
theorem rNumber64_low (K : Int) (V : Nat) (w : World) (e1 : K / 4503599627370496 = 0) (hK0 : 0 ≤ K) (hK1 : K ≤ 9218868437227405312)
    (HO : Hid (∀ u, Calls Tryd.prog 76 #[.int .u64 (K % 4503599627370496)] u fun r w' => ∃ v, r = .returned v ∧ Nt u.heap.size w' v V ∧ Below u.heap.size u w')) :
    Calls Tryd.prog 113 #[.agg #[.int .i64 53, .int .i64 (-1074), .int .u64 9218868437227405312], .int .u64 K] w fun r w' => ∃ v, r = .returned (.tuple #[v, .int .i64 (-1074)]) ∧ Nt w.heap.size w' v V ∧ Below w.heap.size w w' := by
  obtain ⟨W1, hW1⟩ : ∃ W, W = w.alloc (.cells #[.int .i64 53, .int .i64 (-1074), .int .u64 9218868437227405312] 90) := ⟨_, rfl⟩
  have P : W1.heap[w.heap.size]? = some (.cells #[.int .i64 53, .int .i64 (-1074), .int .u64 9218868437227405312] 90 (0, 0)) := by rw [hW1, heap_alloc_new]
  have p1 : W1.cell? ⟨w.heap.size, 1, none⟩ = some (.int .i64 (-1074)) := by simp [World.cell?, P]
  have hz : w.heap.size < W1.heap.size := by rw [hW1]; simp
  have HB := Aside.intro (show Below w.heap.size w W1 by rw [hW1]; exact below_alloc w _)
  go_enter Tryd.func113, Tryd.ntmps113
  go_wp2
  rw [← hW1]
  clear hW1 P e1
  go_region_held3 (fun w' => w'.cell? ⟨w.heap.size, 1, none⟩ = some (.int .i64 (-1074))) (go_keep) (first | (go_at_call 76; refine (HO.out _).mono ?_; rintro r w2 ⟨v, rfl, hN, hb⟩; have hb2 : Below W1.heap.size W1 w2 := (by first | exact hb | exact ((Below.refl _ W1).drew).trans (hb.mono (Nat.le_refl _))); have p2 : w2.cell? ⟨w.heap.size, 1, none⟩ = some (.int .i64 (-1074)) := (hb2.cell (p := ⟨w.heap.size, 1, none⟩) hz).trans p1; have S2 := (Aside.intro (And.intro hb2 hN)); clear hb hb2 hN))
  all_goals (
    go_wp2
    go_simp
    go_ret2
    exact ⟨v, rfl, S2.out.2.mono (Nat.le_of_lt hz), HB.out.trans (S2.out.1.mono (Nat.le_of_lt hz))⟩)

set_option maxHeartbeats 4000000 in
theorem rNumber64_high (K q f g x y : Int) (V : Nat) (w : World) (e1 : K / 4503599627370496 = q) (e2 : K % 4503599627370496 = f) (e3 : IntKind.u64.wrap (4503599627370496 + f) = g) (e4 : IntKind.i64.wrap q = q) (e5 : IntKind.i64.wrap (-1074 + q) = x) (e6 : IntKind.i64.wrap (x - 1) = y) (hK0 : 0 ≤ K) (hK1 : K ≤ 9218868437227405312) (hq0 : (q == 0) = false)
    (HO : Hid (∀ u, Calls Tryd.prog 76 #[.int .u64 g] u fun r w' => ∃ v, r = .returned v ∧ Nt u.heap.size w' v V ∧ Below u.heap.size u w')) :
    Calls Tryd.prog 113 #[.agg #[.int .i64 53, .int .i64 (-1074), .int .u64 9218868437227405312], .int .u64 K] w fun r w' => ∃ v, r = .returned (.tuple #[v, .int .i64 y]) ∧ Nt w.heap.size w' v V ∧ Below w.heap.size w w' := by
  obtain ⟨W1, hW1⟩ : ∃ W, W = w.alloc (.cells #[.int .i64 53, .int .i64 (-1074), .int .u64 9218868437227405312] 90) := ⟨_, rfl⟩
  have P : W1.heap[w.heap.size]? = some (.cells #[.int .i64 53, .int .i64 (-1074), .int .u64 9218868437227405312] 90 (0, 0)) := by rw [hW1, heap_alloc_new]
  have p1 : W1.cell? ⟨w.heap.size, 1, none⟩ = some (.int .i64 (-1074)) := by simp [World.cell?, P]
  have hz : w.heap.size < W1.heap.size := by rw [hW1]; simp
  have HB := Aside.intro (show Below w.heap.size w W1 by rw [hW1]; exact below_alloc w _)
  go_enter Tryd.func113, Tryd.ntmps113
  go_wp2
  rw [← hW1]
  try simp only [e1, e2]
  clear hW1 P e1 e2 hK0 hK1
  go_region_held3 (fun w' => w'.cell? ⟨w.heap.size, 1, none⟩ = some (.int .i64 (-1074))) (go_keep) (first | (go_at_call 76; refine (HO.out _).mono ?_; rintro r w2 ⟨v, rfl, hN, hb⟩; have hb2 : Below W1.heap.size W1 w2 := (by first | exact hb | exact ((Below.refl _ W1).drew).trans (hb.mono (Nat.le_refl _))); have p2 : w2.cell? ⟨w.heap.size, 1, none⟩ = some (.int .i64 (-1074)) := (hb2.cell (p := ⟨w.heap.size, 1, none⟩) hz).trans p1; have S2 := (Aside.intro (And.intro hb2 hN)); clear hb hb2 hN))
  all_goals (
    go_wp2
    go_simp
    go_ret2
    exact ⟨v, rfl, S2.out.2.mono (Nat.le_of_lt hz), HB.out.trans (S2.out.1.mono (Nat.le_of_lt hz))⟩)

theorem rNumber64 (k : Nat) (hk : k ≤ 9218868437227405312) (w : World) :
    Calls Tryd.prog 113 #[.agg #[.int .i64 53, .int .i64 (-1074), .int .u64 9218868437227405312], .int .u64 (k : Nat)] w fun r w' => ∃ v, r = .returned (.tuple #[v, .int .i64 (num64 k).2]) ∧ Nt w.heap.size w' v (num64 k).1 ∧ Below w.heap.size w w' := by
  unfold num64
  by_cases h0 : k / 4503599627370496 = 0
  · rw [if_pos h0]
    exact rNumber64_low (k : Int) (k % 4503599627370496) w (by omega) (by omega) (by omega) (hid fun u => by simpa using rOf_any (k % 4503599627370496) u (by omega))
  · rw [if_neg h0]
    have hw : ∀ n : Int, 0 ≤ n → n < 18446744073709551616 → IntKind.u64.wrap n = n := fun n h1 h2 => by simp [IntKind.wrap, IntKind.bits, IntKind.signed]; omega
    have hv : ∀ n : Int, -4000 ≤ n → n < 4000 → IntKind.i64.wrap n = n := fun n h1 h2 => by simp [IntKind.wrap, IntKind.bits, IntKind.signed]; omega
    have e3 : (4503599627370496 : Int) + ((k % 4503599627370496 : Nat) : Int) = ((4503599627370496 + k % 4503599627370496 : Nat) : Int) := by omega
    exact rNumber64_high (k : Int) ((k / 4503599627370496 : Nat) : Int) ((k % 4503599627370496 : Nat) : Int) ((4503599627370496 + k % 4503599627370496 : Nat) : Int) (-1074 + ((k / 4503599627370496 : Nat) : Int)) (-1074 + ((k / 4503599627370496 : Nat) : Int) - 1) (4503599627370496 + k % 4503599627370496) w (by omega) (by omega) (by rw [e3]; exact hw _ (by omega) (by omega)) (hv _ (by omega) (by omega)) (hv _ (by omega) (by omega)) (hv _ (by omega) (by omega)) (by omega) (by omega) (beq_eq_false_iff_ne.2 (by omega)) (hid fun u => rOf_any _ u (by omega))

theorem num64_bits (e f : Nat) (hf : f < 4503599627370496) : num64 (e * 4503599627370496 + f) = (if e = 0 then f else f + 4503599627370496, if e = 0 then -1074 else (e : Int) - 1075) := by
  have h1 : (e * 4503599627370496 + f) / 4503599627370496 = e := by omega
  have h2 : (e * 4503599627370496 + f) % 4503599627370496 = f := by omega
  unfold num64
  rw [h1, h2]
  by_cases h : e = 0
  · rw [if_pos h, if_pos h, if_pos h]
  · rw [if_neg h, if_neg h, if_neg h]
    refine Prod.ext (by simp; omega) (by simp; omega)

set_option maxHeartbeats 1000000 in
theorem of64_any (w : World) : Calls Tryd.prog 71 #[] w fun r w' => r = .returned (.agg #[.int .i64 53, .int .i64 (-1074), .int .u64 9218868437227405312]) ∧ Below w.heap.size w w' := by
  go_enter Tryd.func71, Tryd.ntmps71
  go_wp2
  exact bodyPost_ret (v := .agg #[.int .i64 53, .int .i64 (-1074), .int .u64 9218868437227405312]) (by simp [results, Tryd.results71, go_sem]) rfl ⟨rfl, by repeat (first | exact Below.refl _ _ | refine Below.alloc ?_ (by first | omega | simp) _ | refine Below.setC ?_ _ _ _ (by omega) (by simp))⟩

set_option maxHeartbeats 4000000 in
theorem rBits_wild (neg : Bool) (k : Int) (w : World) (hk : 9218868437227405312 ≤ k) (hk2 : k < 9223372036854775808) :
    Calls Tryd.prog 72 #[.agg #[.int .i64 53, .int .i64 (-1074), .int .u64 9218868437227405312], .bool neg, .int .u64 k] w fun r w' => r = .returned (.tuple #[.agg #[.bool false, .slice none 0 0, .int .i64 0], .bool false]) ∧ Below w.heap.size w w' := by
  have HB := Aside.intro (show Below w.heap.size w ((w.alloc (.cells #[.int .i64 53, .int .i64 (-1074), .int .u64 9218868437227405312] 90)).alloc (.cells #[.bool false, .slice none 0 0, .int .i64 0] 39)) from (below_alloc w _).alloc (by simp) _)
  go_enter Tryd.func72, Tryd.ntmps72
  go_wp2
  exact bodyPost_ret (v := .tuple #[.agg #[.bool false, .slice none 0 0, .int .i64 0], .bool false]) (by simp [results, Tryd.results72, go_sem]) rfl ⟨rfl, HB.out⟩

set_option maxHeartbeats 4000000 in
theorem rBits_core (neg : Bool) (k : Int) (F : Nat) (x : Int) (w : World) (hk : k < 9218868437227405312) (hF : F < 9007199254740992) (hx0 : -1100 ≤ x) (hx1 : x ≤ 1000)
    (HN0 : Hid (∀ u, Calls Tryd.prog 113 #[.agg #[.int .i64 53, .int .i64 (-1074), .int .u64 9218868437227405312], .int .u64 k] u fun r w' => ∃ v, r = .returned (.tuple #[v, .int .i64 x]) ∧ Nt u.heap.size w' v F ∧ Below u.heap.size u w')) :
    Calls Tryd.prog 72 #[.agg #[.int .i64 53, .int .i64 (-1074), .int .u64 9218868437227405312], .bool neg, .int .u64 k] w fun r w' => FAns w.heap.size w' r (mkS neg F x) ∧ Below w.heap.size w w' := by
  have HB := Aside.intro (show Below w.heap.size w ((w.alloc (.cells #[.int .i64 53, .int .i64 (-1074), .int .u64 9218868437227405312] 90)).alloc (.cells #[.bool false, .slice none 0 0, .int .i64 0] 39)) from (below_alloc w _).alloc (by simp) _)
  have HN := hid (HN0.out ((w.alloc (.cells #[.int .i64 53, .int .i64 (-1074), .int .u64 9218868437227405312] 90)).alloc (.cells #[.bool false, .slice none 0 0, .int .i64 0] 39)))
  have hl := mkS_len neg F x
  have hFl : (ws F).length ≤ 100 := by have := ws_len_bl F; have := bl_le53 F hF; omega
  have HM : Hid (∀ (u : World) (a : Option Addr) (c : Nat), Arg u a (ws F).length c (ws F) → Calls Tryd.prog 75 #[.bool neg, .slice a (ws F).length c, .int .i64 x] u fun r w' => FAns u.heap.size w' r (mkS neg F x) ∧ Below u.heap.size u w') := by
    intro u a c hA
    have := rForm_any hA (by omega) neg x (by omega) (by omega)
    rw [val_ws] at this
    exact this
  obtain ⟨o, ho⟩ : ∃ o, mkS neg F x = o := ⟨_, rfl⟩
  rw [ho] at HM hl ⊢
  unfold FAns at HM ⊢
  obtain ⟨dn, hdn⟩ : ∃ d, dN o = d := ⟨_, rfl⟩
  obtain ⟨X, hdx⟩ : ∃ d, dX o = d := ⟨_, rfl⟩
  obtain ⟨de, hde⟩ : ∃ d, dE o = d := ⟨_, rfl⟩
  obtain ⟨er, her⟩ : ∃ d, o.isSome = d := ⟨_, rfl⟩
  rw [hdn, hdx, hde, her] at HM ⊢
  rw [hdx] at hl
  clear ho hdn hdx hde her hF hx0 hx1 HN0
  go_enter Tryd.func72, Tryd.ntmps72
  go_wp2_with fail
  refine (Calls.mono HN.out) ?_
  rintro r w2 ⟨v, rfl, hN, hb⟩
  obtain ⟨a2, c2, rfl, A2⟩ := hN.arg (by omega)
  obtain ⟨hc, hf⟩ := bcell hb
  have hz : w.heap.size + 1 < w2.heap.size := by have := hb.size; simp at this; omega
  have H2 := hid (HM.out w2 a2 c2 A2)
  have S2 := Aside.intro (HB.out.trans (hb.mono (by simp; omega)))
  clear hN hb A2
  go_wp2_with fail
  refine (Calls.mono H2.out) ?_
  rintro r w3 ⟨⟨v3, rfl, hN⟩, hb⟩
  obtain ⟨a3, c3, rfl, _⟩ := hN.arg (by omega)
  obtain ⟨hc3, hf3⟩ := bcell hb
  have HF := Aside.intro (show Fin w.heap.size w2.heap.size w w3 (.slice a3 (ws X).length c3) X from ⟨hN, S2.out.trans (hb.mono (by omega)), by have := hb.size; omega⟩)
  clear hN hb
  go_wp2
  exact bodyPost_ret (v := .tuple #[.agg #[.bool dn, .slice a3 (ws X).length c3, .int .i64 de], .bool er]) (by simp [results, Tryd.results72, go_sem, hc, hc3, hz]) rfl (Fin.dans (m := w2.heap.size) (by repeat (first | exact HF.out | refine Fin.alloc ?_ _ | refine Fin.set ?_ _ _ _ (by omega) (by omega))) (by omega))

theorem rBits_any (neg : Bool) (k : Nat) (w : World) (hk : k < 9218868437227405312) :
    Calls Tryd.prog 72 #[.agg #[.int .i64 53, .int .i64 (-1074), .int .u64 9218868437227405312], .bool neg, .int .u64 (k : Nat)] w fun r w' => FAns w.heap.size w' r (mkS neg (num64 k).1 (num64 k).2) ∧ Below w.heap.size w w' := by
  have hb1 : (num64 k).1 < 9007199254740992 ∧ -1100 ≤ (num64 k).2 ∧ (num64 k).2 ≤ 1000 := by unfold num64; split <;> simp <;> omega
  exact rBits_core neg (k : Int) _ _ w (by omega) hb1.1 hb1.2.1 hb1.2.2 (hid fun u => rNumber64 k (by omega) u)

end Go.Proofs.YthilnddhehbjiaaDoor

/- The document's Of. -/
namespace Go.Proofs.YthilnddhehbjiaaDoor
open Go.RowKit
set_option linter.unusedVariables false
set_option maxRecDepth 20000
attribute [local go_sem] B.f64bits B.f64frombits

set_option maxHeartbeats 4000000 in
theorem rOf_core (s : Bool) (b : Nat) (k : Int) (dn : Bool) (X : Nat) (de : Int) (er : Bool) (w : World) (hl : (ws X).length ≤ 8192)
    (e1 : ((b : Int) / 9223372036854775808 == 1) = s) (e2 : IntKind.u64.wrap ((b : Int) * 2) / 2 = k) (hX : er = false → dn = false ∧ X = 0 ∧ de = 0)
    (hO : Hid (∀ u, Calls Tryd.prog 71 #[] u fun r w' => r = .returned (.agg #[.int .i64 53, .int .i64 (-1074), .int .u64 9218868437227405312]) ∧ Below u.heap.size u w'))
    (HW : Hid (∀ u, Calls Tryd.prog 72 #[.agg #[.int .i64 53, .int .i64 (-1074), .int .u64 9218868437227405312], .bool s, .int .u64 k] u fun r w' => (∃ v, r = .returned (.tuple #[.agg #[.bool dn, v, .int .i64 de], .bool er]) ∧ Nt u.heap.size w' v X) ∧ Below u.heap.size u w')) :
    Calls Tryd.prog 21 #[.float .f64 b] w fun r w' => (∃ v, r = .returned (.tuple #[.agg #[.bool dn, v, .int .i64 de], .int .i64 (if er then 0 else 30)]) ∧ Nt w.heap.size w' v X) ∧ Below w.heap.size w w' := by
  go_enter Tryd.func21, Tryd.ntmps21
  go_wp2_with fail
  refine (Calls.mono (hO.out _)) ?_
  rintro r w1 ⟨rfl, hb1⟩
  have hz : w.heap.size < w1.heap.size := by have := hb1.size; simp at this; omega
  have S1 := Aside.intro ((below_alloc w (.cells #[.bool false, .slice none 0 0, .int .i64 0] 39)).trans (hb1.mono (by simp)))
  obtain ⟨hc, hf⟩ := bcell hb1
  clear hb1
  go_wp2_with fail
  try simp only [e1, e2]
  refine (Calls.mono (HW.out _)) ?_
  rintro r w2 ⟨⟨v, rfl, hN⟩, hb2⟩
  obtain ⟨a2, c2, rfl, _⟩ := hN.arg (by omega)
  obtain ⟨hc2, hf2⟩ := bcell hb2
  have hz2 : w.heap.size < w2.heap.size := by have := hb2.size; omega
  have HF := Aside.intro (show Fin w.heap.size w1.heap.size w w2 (.slice a2 (ws X).length c2) X from ⟨hN, S1.out.trans (hb2.mono (by omega)), by omega⟩)
  clear hN hb2 e1 e2
  cases er
  · obtain ⟨rfl, rfl, rfl⟩ := hX rfl
    clear hX
    go_wp2
    exact bodyPost_ret (v := .tuple #[.agg #[.bool false, .slice none 0 0, .int .i64 0], .int .i64 30]) (by simp [results, Tryd.results21, go_sem, hc, hc2, hz, hz2]) rfl (Fin.dnil (m := w1.heap.size) (v := .slice a2 (ws 0).length c2) (X := 0) (by repeat (first | exact HF.out | refine Fin.alloc ?_ _ | refine Fin.set ?_ _ _ _ (by omega) (by omega))))
  · clear hX
    go_wp2
    exact bodyPost_ret (v := .tuple #[.agg #[.bool dn, .slice a2 (ws X).length c2, .int .i64 de], .int .i64 0]) (by simp [results, Tryd.results21, go_sem, hc, hc2, hz, hz2]) rfl (Fin.dans (m := w1.heap.size) (by repeat (first | exact HF.out | refine Fin.alloc ?_ _ | refine Fin.set ?_ _ _ _ (by omega) (by omega))) (by omega))

theorem rOf3_any (s : Bool) (e f : Nat) (he : e < 2048) (hf : f < 4503599627370496) (w : World) :
    Calls Tryd.prog 21 #[.float .f64 (B.bw s e f)] w fun r w' => OAns w.heap.size w' r (ofR s e f) (ofE e) ∧ Below w.heap.size w w' := by
  have hbl := B.bw_lt s e f he hf
  have hb1 : (B.bw s e f : Int) = (if s then 9223372036854775808 else 0) + ((e * 4503599627370496 + f : Nat) : Int) := by unfold B.bw; cases s <;> simp <;> omega
  obtain ⟨b, hb⟩ : ∃ b, B.bw s e f = b := ⟨_, rfl⟩
  obtain ⟨k, hk⟩ : ∃ k, e * 4503599627370496 + f = k := ⟨_, rfl⟩
  rw [hb, hk] at hb1
  rw [hb] at hbl ⊢
  have hk2 : k < 9223372036854775808 := by omega
  have e1 : ((b : Int) / 9223372036854775808 == 1) = s := by cases s <;> simp at hb1 ⊢ <;> omega
  have e2 : IntKind.u64.wrap ((b : Int) * 2) / 2 = (k : Int) := by
    simp [IntKind.wrap, IntKind.bits, IntKind.signed]
    cases s <;> simp at hb1 <;> omega
  unfold ofR ofE
  by_cases h7 : e = 2047
  · rw [if_pos h7, if_pos h7]
    exact rOf_core s b (k : Int) false 0 0 false w (by rw [ws_zero]; simp) e1 e2 (fun _ => ⟨rfl, rfl, rfl⟩) (hid fun u => of64_any u)
      (hid fun u => (rBits_wild s (k : Int) u (by omega) (by omega)).mono fun r w' ⟨h1, h2⟩ => ⟨⟨_, h1, Nt.nil _ _⟩, h2⟩)
  · rw [if_neg h7, if_neg h7]
    have hn := num64_bits e f hf
    rw [hk] at hn
    have hF : (if e = 0 then f else f + 4503599627370496) < 9007199254740992 := by split <;> omega
    have hx0 : (-1100 : Int) ≤ (if e = 0 then -1074 else (e : Int) - 1075) := by split <;> omega
    have hx1 : (if e = 0 then -1074 else (e : Int) - 1075) ≤ (1000 : Int) := by split <;> omega
    obtain ⟨d, hd⟩ := of_some s _ _ hF hx0 hx1
    have hl := mkS_len s (if e = 0 then f else f + 4503599627370496) (if e = 0 then -1074 else (e : Int) - 1075)
    have hB : ∀ u, _ := fun u => rBits_any s k u (by omega)
    rw [hn] at hB
    simp only [] at hB
    rw [hd] at hB hl ⊢
    exact rOf_core s b (k : Int) _ _ _ true w hl e1 e2 (fun h => by cases h) (hid fun u => of64_any u) (hid hB)
end Go.Proofs.YthilnddhehbjiaaDoor

/- Int of the program and of the document. -/
namespace Go.Proofs.YthilnddhehbjiaaDoor
open Go.RowKit
set_option linter.unusedVariables false
set_option maxRecDepth 20000

theorem int_some (s : Bool) (X : Nat) (hX : X < 18446744073709551616) : ∃ d, mkS s X 0 = some d := by
  unfold mkS
  by_cases h : X = 0
  · rw [if_pos h]; exact ⟨_, rfl⟩
  · rw [if_neg h]
    obtain ⟨m, _, _, hb⟩ := odd_part X h
    have hbl : bl X ≤ 64 := by
      have := (Nat.pow_lt_pow_iff_right (a := 2) (by omega)).1 (Nat.lt_of_le_of_lt (bl_ge X h) (show X < 2 ^ 64 from hX))
      omega
    rw [if_neg (by omega)]
    exact ⟨_, rfl⟩

set_option maxHeartbeats 4000000 in
theorem Int_core_neg (n : Int) (m : Nat) (X : Nat) (dn : Bool) (de : Int) (er : Int) (w : World) (h0 : n < 0) (h1 : -9223372036854775808 ≤ n) (hm : (ws m).length ≤ 100) (hl : (ws X).length ≤ 8192) (e1 : IntKind.u64.wrap (-IntKind.u64.wrap n) = (m : Int))
    (HO : Hid (∀ u, Calls Tryd.prog 55 #[.int .u64 (m : Int)] u fun r w' => ∃ v, r = .returned v ∧ Nt u.heap.size w' v m ∧ Below u.heap.size u w'))
    (HM : Hid (∀ (u : World) (a : Option Addr) (c : Nat), Below w.heap.size w u → Arg u a (ws m).length c (ws m) → Calls Tryd.prog 22 #[.bool true, .slice a (ws m).length c, .int .i64 0] u fun r w' => (∃ v, r = .returned (.tuple #[.agg #[.bool dn, v, .int .i64 de], .int .i64 er]) ∧ Nt u.heap.size w' v X) ∧ Below u.heap.size u w')) :
    Calls Tryd.prog 24 #[.int .i64 n] w fun r w' => (∃ v, r = .returned (.agg #[.bool dn, v, .int .i64 de]) ∧ Nt w.heap.size w' v X) ∧ Below w.heap.size w w' := by
  go_enter Tryd.func24, Tryd.ntmps24
  go_wp2_with fail
  try rw [e1]
  refine (Calls.mono (HO.out _)) ?_
  rintro r w1 ⟨v, rfl, hN, hb⟩
  obtain ⟨a1, c1, rfl, A1⟩ := hN.arg (by omega)
  have hz : w.heap.size < w1.heap.size := by have := hb.size; simp at this; omega
  have hbw : Below w.heap.size w w1 := (below_alloc w (.cells #[.bool false, .slice none 0 0, .int .i64 0] 39)).trans (hb.mono (by simp))
  have S1 := Aside.intro hbw
  have H2 := hid (HM.out w1 a1 c1 hbw A1)
  obtain ⟨hc, hf⟩ := bcell hb
  clear hN hb A1 hbw
  go_wp2_with fail
  refine (Calls.mono H2.out) ?_
  rintro r w2 ⟨⟨v, rfl, hN⟩, hb2⟩
  obtain ⟨a2, c2, rfl, _⟩ := hN.arg (by omega)
  obtain ⟨hc2, hf2⟩ := bcell hb2
  have hz2 : w.heap.size < w2.heap.size := by have := hb2.size; omega
  have HF := Aside.intro (show Fin w.heap.size w1.heap.size w w2 (.slice a2 (ws X).length c2) X from ⟨hN, S1.out.trans (hb2.mono (by omega)), by omega⟩)
  clear hN hb2
  go_wp2
  exact bodyPost_ret (v := .agg #[.bool dn, .slice a2 (ws X).length c2, .int .i64 de]) (by simp [results, Tryd.results24, go_sem, hc, hc2, hz, hz2]) rfl (Fin.dval (m := w1.heap.size) (by repeat (first | exact HF.out | refine Fin.alloc ?_ _ | refine Fin.set ?_ _ _ _ (by omega) (by omega))) (by omega))

set_option maxHeartbeats 4000000 in
theorem Int_core_pos (n : Int) (m : Nat) (X : Nat) (dn : Bool) (de : Int) (er : Int) (w : World) (h0 : 0 ≤ n) (h1 : n ≤ 9223372036854775807) (hd : decide (n < 0) = false) (hm : (ws m).length ≤ 100) (hl : (ws X).length ≤ 8192) (e1 : IntKind.u64.wrap n = n)
    (HO : Hid (∀ u, Calls Tryd.prog 55 #[.int .u64 n] u fun r w' => ∃ v, r = .returned v ∧ Nt u.heap.size w' v m ∧ Below u.heap.size u w'))
    (HM : Hid (∀ (u : World) (a : Option Addr) (c : Nat), Below w.heap.size w u → Arg u a (ws m).length c (ws m) → Calls Tryd.prog 22 #[.bool false, .slice a (ws m).length c, .int .i64 0] u fun r w' => (∃ v, r = .returned (.tuple #[.agg #[.bool dn, v, .int .i64 de], .int .i64 er]) ∧ Nt u.heap.size w' v X) ∧ Below u.heap.size u w')) :
    Calls Tryd.prog 24 #[.int .i64 n] w fun r w' => (∃ v, r = .returned (.agg #[.bool dn, v, .int .i64 de]) ∧ Nt w.heap.size w' v X) ∧ Below w.heap.size w w' := by
  go_enter Tryd.func24, Tryd.ntmps24
  go_wp2_with fail
  try rw [e1]
  refine (Calls.mono (HO.out _)) ?_
  rintro r w1 ⟨v, rfl, hN, hb⟩
  obtain ⟨a1, c1, rfl, A1⟩ := hN.arg (by omega)
  have hz : w.heap.size < w1.heap.size := by have := hb.size; simp at this; omega
  have hbw : Below w.heap.size w w1 := (below_alloc w (.cells #[.bool false, .slice none 0 0, .int .i64 0] 39)).trans (hb.mono (by simp))
  have S1 := Aside.intro hbw
  have H2 := hid (HM.out w1 a1 c1 hbw A1)
  obtain ⟨hc, hf⟩ := bcell hb
  clear hN hb A1 hbw
  go_wp2_with fail
  refine (Calls.mono H2.out) ?_
  rintro r w2 ⟨⟨v, rfl, hN⟩, hb2⟩
  obtain ⟨a2, c2, rfl, _⟩ := hN.arg (by omega)
  obtain ⟨hc2, hf2⟩ := bcell hb2
  have hz2 : w.heap.size < w2.heap.size := by have := hb2.size; omega
  have HF := Aside.intro (show Fin w.heap.size w1.heap.size w w2 (.slice a2 (ws X).length c2) X from ⟨hN, S1.out.trans (hb2.mono (by omega)), by omega⟩)
  clear hN hb2
  go_wp2
  exact bodyPost_ret (v := .agg #[.bool dn, .slice a2 (ws X).length c2, .int .i64 de]) (by simp [results, Tryd.results24, go_sem, hc, hc2, hz, hz2]) rfl (Fin.dval (m := w1.heap.size) (by repeat (first | exact HF.out | refine Fin.alloc ?_ _ | refine Fin.set ?_ _ _ _ (by omega) (by omega))) (by omega))

set_option maxHeartbeats 4000000 in
theorem rInt_core_neg (n : Int) (m : Nat) (X : Nat) (dn : Bool) (de : Int) (er : Bool) (w : World) (h0 : n < 0) (h1 : -9223372036854775808 ≤ n) (hm : (ws m).length ≤ 100) (hl : (ws X).length ≤ 8192) (e1 : IntKind.u64.wrap (-IntKind.u64.wrap n) = (m : Int))
    (HO : Hid (∀ u, Calls Tryd.prog 76 #[.int .u64 (m : Int)] u fun r w' => ∃ v, r = .returned v ∧ Nt u.heap.size w' v m ∧ Below u.heap.size u w'))
    (HM : Hid (∀ (u : World) (a : Option Addr) (c : Nat), Below w.heap.size w u → Arg u a (ws m).length c (ws m) → Calls Tryd.prog 75 #[.bool true, .slice a (ws m).length c, .int .i64 0] u fun r w' => (∃ v, r = .returned (.tuple #[.agg #[.bool dn, v, .int .i64 de], .bool er]) ∧ Nt u.heap.size w' v X) ∧ Below u.heap.size u w')) :
    Calls Tryd.prog 25 #[.int .i64 n] w fun r w' => (∃ v, r = .returned (.agg #[.bool dn, v, .int .i64 de]) ∧ Nt w.heap.size w' v X) ∧ Below w.heap.size w w' := by
  go_enter Tryd.func25, Tryd.ntmps25
  go_wp2_with fail
  try rw [e1]
  refine (Calls.mono (HO.out _)) ?_
  rintro r w1 ⟨v, rfl, hN, hb⟩
  obtain ⟨a1, c1, rfl, A1⟩ := hN.arg (by omega)
  have hz : w.heap.size < w1.heap.size := by have := hb.size; simp at this; omega
  have hbw : Below w.heap.size w w1 := (below_alloc w (.cells #[.bool false, .slice none 0 0, .int .i64 0] 39)).trans (hb.mono (by simp))
  have S1 := Aside.intro hbw
  have H2 := hid (HM.out w1 a1 c1 hbw A1)
  obtain ⟨hc, hf⟩ := bcell hb
  clear hN hb A1 hbw
  go_wp2_with fail
  refine (Calls.mono H2.out) ?_
  rintro r w2 ⟨⟨v, rfl, hN⟩, hb2⟩
  obtain ⟨a2, c2, rfl, _⟩ := hN.arg (by omega)
  obtain ⟨hc2, hf2⟩ := bcell hb2
  have hz2 : w.heap.size < w2.heap.size := by have := hb2.size; omega
  have HF := Aside.intro (show Fin w.heap.size w1.heap.size w w2 (.slice a2 (ws X).length c2) X from ⟨hN, S1.out.trans (hb2.mono (by omega)), by omega⟩)
  clear hN hb2
  go_wp2
  exact bodyPost_ret (v := .agg #[.bool dn, .slice a2 (ws X).length c2, .int .i64 de]) (by simp [results, Tryd.results25, go_sem, hc, hc2, hz, hz2]) rfl (Fin.dval (m := w1.heap.size) (by repeat (first | exact HF.out | refine Fin.alloc ?_ _ | refine Fin.set ?_ _ _ _ (by omega) (by omega))) (by omega))

set_option maxHeartbeats 4000000 in
theorem rInt_core_pos (n : Int) (m : Nat) (X : Nat) (dn : Bool) (de : Int) (er : Bool) (w : World) (h0 : 0 ≤ n) (h1 : n ≤ 9223372036854775807) (hd : decide (n < 0) = false) (hm : (ws m).length ≤ 100) (hl : (ws X).length ≤ 8192) (e1 : IntKind.u64.wrap n = n)
    (HO : Hid (∀ u, Calls Tryd.prog 76 #[.int .u64 n] u fun r w' => ∃ v, r = .returned v ∧ Nt u.heap.size w' v m ∧ Below u.heap.size u w'))
    (HM : Hid (∀ (u : World) (a : Option Addr) (c : Nat), Below w.heap.size w u → Arg u a (ws m).length c (ws m) → Calls Tryd.prog 75 #[.bool false, .slice a (ws m).length c, .int .i64 0] u fun r w' => (∃ v, r = .returned (.tuple #[.agg #[.bool dn, v, .int .i64 de], .bool er]) ∧ Nt u.heap.size w' v X) ∧ Below u.heap.size u w')) :
    Calls Tryd.prog 25 #[.int .i64 n] w fun r w' => (∃ v, r = .returned (.agg #[.bool dn, v, .int .i64 de]) ∧ Nt w.heap.size w' v X) ∧ Below w.heap.size w w' := by
  go_enter Tryd.func25, Tryd.ntmps25
  go_wp2_with fail
  try rw [e1]
  refine (Calls.mono (HO.out _)) ?_
  rintro r w1 ⟨v, rfl, hN, hb⟩
  obtain ⟨a1, c1, rfl, A1⟩ := hN.arg (by omega)
  have hz : w.heap.size < w1.heap.size := by have := hb.size; simp at this; omega
  have hbw : Below w.heap.size w w1 := (below_alloc w (.cells #[.bool false, .slice none 0 0, .int .i64 0] 39)).trans (hb.mono (by simp))
  have S1 := Aside.intro hbw
  have H2 := hid (HM.out w1 a1 c1 hbw A1)
  obtain ⟨hc, hf⟩ := bcell hb
  clear hN hb A1 hbw
  go_wp2_with fail
  refine (Calls.mono H2.out) ?_
  rintro r w2 ⟨⟨v, rfl, hN⟩, hb2⟩
  obtain ⟨a2, c2, rfl, _⟩ := hN.arg (by omega)
  obtain ⟨hc2, hf2⟩ := bcell hb2
  have hz2 : w.heap.size < w2.heap.size := by have := hb2.size; omega
  have HF := Aside.intro (show Fin w.heap.size w1.heap.size w w2 (.slice a2 (ws X).length c2) X from ⟨hN, S1.out.trans (hb2.mono (by omega)), by omega⟩)
  clear hN hb2
  go_wp2
  exact bodyPost_ret (v := .agg #[.bool dn, .slice a2 (ws X).length c2, .int .i64 de]) (by simp [results, Tryd.results25, go_sem, hc, hc2, hz, hz2]) rfl (Fin.dval (m := w1.heap.size) (by repeat (first | exact HF.out | refine Fin.alloc ?_ _ | refine Fin.set ?_ _ _ _ (by omega) (by omega))) (by omega))

theorem natAbs_len (n : Int) (h0 : -9223372036854775808 ≤ n) (h1 : n ≤ 9223372036854775807) : (ws n.natAbs).length ≤ 100 := by
  have := (ws_len_le n.natAbs 2).2 (by rw [show pw 2 = 18446744073709551616 from rfl]; omega)
  omega

theorem Int_any (n : Int) (w : World) (hT : Tab w) (h0 : -9223372036854775808 ≤ n) (h1 : n ≤ 9223372036854775807) :
    Calls Tryd.prog 24 #[.int .i64 n] w fun r w' => DVal w.heap.size w' r (mkS (decide (n < 0)) n.natAbs 0) ∧ Below w.heap.size w w' := by
  have hl := natAbs_len n h0 h1
  have HM : ∀ (s : Bool) (u : World) (a : Option Addr) (c : Nat), Below w.heap.size w u → Arg u a (ws n.natAbs).length c (ws n.natAbs) → Calls Tryd.prog 22 #[.bool s, .slice a (ws n.natAbs).length c, .int .i64 0] u fun r w' => DAns u.heap.size w' r (mkS s n.natAbs 0) ∧ Below u.heap.size u w' := by
    intro s u a c hu hA
    have := Make_any hA (hT.belows hu) s 0 (by omega) (by omega)
    rw [val_ws] at this
    exact this
  by_cases hn : n < 0
  · rw [decide_eq_true hn]
    exact Int_core_neg n n.natAbs _ _ _ _ w hn h0 hl (mkS_len _ _ _) (by simp [IntKind.wrap, IntKind.bits, IntKind.signed]; omega) (hid fun u => of_any _ u (by omega)) (hid (HM true))
  · rw [decide_eq_false hn]
    have e : ((n.natAbs : Nat) : Int) = n := by omega
    exact Int_core_pos n n.natAbs _ _ _ _ w (by omega) h1 (decide_eq_false hn) hl (mkS_len _ _ _) (by simp [IntKind.wrap, IntKind.bits, IntKind.signed]; omega) (hid fun u => by have := of_any n.natAbs u (by omega); rw [e] at this; exact this) (hid (HM false))

theorem rInt_any (n : Int) (w : World) (h0 : -9223372036854775808 ≤ n) (h1 : n ≤ 9223372036854775807) :
    Calls Tryd.prog 25 #[.int .i64 n] w fun r w' => DVal w.heap.size w' r (mkS (decide (n < 0)) n.natAbs 0) ∧ Below w.heap.size w w' := by
  have hl := natAbs_len n h0 h1
  have HM : ∀ (s : Bool) (u : World) (a : Option Addr) (c : Nat), Below w.heap.size w u → Arg u a (ws n.natAbs).length c (ws n.natAbs) → Calls Tryd.prog 75 #[.bool s, .slice a (ws n.natAbs).length c, .int .i64 0] u fun r w' => FAns u.heap.size w' r (mkS s n.natAbs 0) ∧ Below u.heap.size u w' := by
    intro s u a c hu hA
    have := rForm_any hA (by omega) s 0 (by omega) (by omega)
    rw [val_ws] at this
    exact this
  by_cases hn : n < 0
  · rw [decide_eq_true hn]
    exact rInt_core_neg n n.natAbs _ _ _ _ w hn h0 hl (mkS_len _ _ _) (by simp [IntKind.wrap, IntKind.bits, IntKind.signed]; omega) (hid fun u => rOf_any _ u (by omega)) (hid (HM true))
  · rw [decide_eq_false hn]
    have e : ((n.natAbs : Nat) : Int) = n := by omega
    exact rInt_core_pos n n.natAbs _ _ _ _ w (by omega) h1 (decide_eq_false hn) hl (mkS_len _ _ _) (by simp [IntKind.wrap, IntKind.bits, IntKind.signed]; omega) (hid fun u => by have := rOf_any n.natAbs u (by omega); rw [e] at this; exact this) (hid (HM false))
end Go.Proofs.YthilnddhehbjiaaDoor

/- A book and the Nats in it. -/
namespace Go.Proofs.YthilnddhehbjiaaDoor
open Go.RowKit
set_option linter.unusedVariables false
set_option maxRecDepth 20000

/-- A book and the Nats in it. -/
structure Held (lo : Nat) (w0 w : World) (h : Nat) (vs all : List Value) : Prop where
  below : Below lo w0 w
  book : Bk lo w h vs
  nice : Nice lo w all
  size : lo ≤ w.heap.size

theorem Held.take' {lo : Nat} {w0 w : World} {h : Nat} {vs all : List Value} (H : Held lo w0 w h vs all) (hl : vs.length ≤ 1000) (ao : Option Addr) (n cap : Nat) :
    Calls Tryd.prog 17 #[.pointer (some ⟨h, 0, none⟩), .slice ao n cap] w fun r w' => r = .returned (.tuple #[]) ∧ Held lo w0 w' h (vs ++ [.slice ao n cap]) all ∧ Keep w w' ∧ w.heap.size ≤ w'.heap.size :=
  (take_any lo h vs ao n cap w H.book hl H.size).mono fun r w' ⟨h1, h2, h3, h4, h5⟩ => ⟨h1, ⟨H.below.trans h4, h2, H.nice.keep h3, by have := H.size; omega⟩, h3, h5⟩

theorem Held.take {lo : Nat} {w0 w : World} {h : Nat} {vs all : List Value} (H : Held lo w0 w h vs all) (hl : vs.length ≤ 1000) (ao : Option Addr) (n cap : Nat) :
    Calls Tryd.prog 17 #[.pointer (some ⟨h, 0, none⟩), .slice ao n cap] w fun r w' => r = .returned (.tuple #[]) ∧ Held lo w0 w' h (vs ++ [.slice ao n cap]) all :=
  (take_any lo h vs ao n cap w H.book hl H.size).mono fun r w' ⟨h1, h2, h3, h4, h5⟩ => ⟨h1, H.below.trans h4, h2, H.nice.keep h3, by have := H.size; omega⟩

theorem Held.owned {lo : Nat} {w0 w : World} {h : Nat} {vs : List Value} (H : Held lo w0 w h vs vs) (hm : 0 < vs.length) (hm2 : vs.length ≤ 100) :
    Calls Tryd.prog 18 #[.pointer (some ⟨h, 0, none⟩)] w fun r w' => r = .returned (.bool true) ∧ Below lo w0 w' :=
  (owned_any lo h vs w H.book H.nice hm hm2 H.size).mono fun r w' ⟨h1, h2⟩ => ⟨h1, H.below.trans h2⟩

theorem Held.made {lo : Nat} {w0 w : World} {all : List Value} (hb : Below lo w0 w) (hn : Nice lo w all) (hs : lo ≤ w.heap.size) : Held lo w0 (w.alloc (.cells #[.slice none 0 0] 34)) w.heap.size [] all :=
  ⟨hb.alloc hs _, Bk.made lo w hs, hn.keep (Keep.below (below_alloc w _)), by simp; omega⟩
end Go.Proofs.YthilnddhehbjiaaDoor

/- The document's Same; the law's took. -/
namespace Go.Proofs.YthilnddhehbjiaaDoor
open Go.RowKit
set_option linter.unusedVariables false
set_option maxRecDepth 20000

set_option maxHeartbeats 4000000 in
theorem rSame3_any (n : Bool) (e : Int) (xs : List Nat) (ao bo : Option Addr) (l ca cb : Nat) (w : World) (hn : l = xs.length) (hbig : l ≤ 70368744177664) (hR : Rd w.heap.size w ao xs) (hS : Rd w.heap.size w bo xs) :
    Calls Tryd.prog 77 #[.agg #[.bool n, .slice ao l ca, .int .i64 e], .agg #[.bool n, .slice bo l cb, .int .i64 e]] w fun r w' => r = .returned (.bool true) ∧ Below w.heap.size w w' := by
  obtain ⟨W1, hW1⟩ : ∃ W, W = (w.alloc (.cells #[.bool n, .slice ao l ca, .int .i64 e] 39)).alloc (.cells #[.bool n, .slice bo l cb, .int .i64 e] 39) := ⟨_, rfl⟩
  have hb1 : Below w.heap.size w W1 := by rw [hW1]; exact (below_alloc w _).alloc (by simp) _
  have PA : W1.heap[w.heap.size]? = some (.cells #[.bool n, .slice ao l ca, .int .i64 e] 39 (0, 0)) := by rw [hW1, Below.heap_alloc _ _ _ (by simp), heap_alloc_new]
  have PB : W1.heap[w.heap.size + 1]? = some (.cells #[.bool n, .slice bo l cb, .int .i64 e] 39 (0, 0)) := by
    have h5 := heap_alloc_new (w.alloc (.cells #[.bool n, .slice ao l ca, .int .i64 e] 39)) (.cells #[.bool n, .slice bo l cb, .int .i64 e] 39)
    rw [hW1]; simpa using h5
  have hz1 : W1.heap.size = w.heap.size + 2 := by rw [hW1]; simp
  have q1 : W1.cell? ⟨w.heap.size, 1, none⟩ = some (.slice ao l ca) := by simp [World.cell?, PA]
  have q2 : W1.cell? ⟨w.heap.size + 1, 1, none⟩ = some (.slice bo l cb) := by simp [World.cell?, PB]
  have HR := (Aside.intro (And.intro (hR.below hb1) (And.intro (hS.below hb1) (And.intro hn (And.intro hb1 (And.intro q1 (And.intro q2 hz1)))))))
  clear hR hS hn hb1 PA PB hz1 q1 q2
  go_enter Tryd.func77, Tryd.ntmps77
  go_wp2
  rw [← hW1]
  clear hW1
  go_loopg [5] l (fun gk i wr => ∃ k : Nat, gk + k = l ∧ i = .int .i64 (k : Nat) ∧ Hid (Below W1.heap.size W1 wr))
  case atStart => exact ⟨0, by omega, rfl, Below.refl _ _⟩
  case round =>
    obtain ⟨k, hgk, rfl, HB⟩ := hrel
    obtain ⟨hR, hS, hn, hb1, q1, q2, hz1⟩ := HR.out
    have p1 : wr.cell? ⟨w.heap.size, 1, none⟩ = some (.slice ao l ca) := (HB.out.cell (p := ⟨w.heap.size, 1, none⟩) (by simp; omega)).trans q1
    have p2 : wr.cell? ⟨w.heap.size + 1, 1, none⟩ = some (.slice bo l cb) := (HB.out.cell (p := ⟨w.heap.size + 1, 1, none⟩) (by simp; omega)).trans q2
    clear hb1 q1 q2 hz1
    by_cases hk : k < l
    · obtain ⟨b, off, hB1, rfl, hc1⟩ := hR (by intro e; subst e; simp at hn; omega)
      obtain ⟨b2, off2, hB2, rfl, hc2⟩ := hS (by intro e; subst e; simp at hn; omega)
      have g1 : wr.cell? ⟨b, off + k, none⟩ = some (.int .u32 ((xs.getD k 0 : Nat) : Int)) :=
        (HB.out.cell (p := ⟨b, off + k, none⟩) (World.block_lt_of_cell? W1 ⟨b, off + k, none⟩ (hc1 k (by omega)))).trans (hc1 k (by omega))
      have g2 : wr.cell? ⟨b2, off2 + k, none⟩ = some (.int .u32 ((xs.getD k 0 : Nat) : Int)) :=
        (HB.out.cell (p := ⟨b2, off2 + k, none⟩) (World.block_lt_of_cell? W1 ⟨b2, off2 + k, none⟩ (hc2 k (by omega)))).trans (hc2 k (by omega))
      obtain ⟨x, hxx⟩ : ∃ x : Nat, xs.getD k 0 = x := ⟨_, rfl⟩
      rw [hxx] at g1 g2
      clear hR hS hn hc1 hc2 hxx hB1 hB2
      go_wp2
      go_quiet (fail)
      go_wp2
      go_roundg (gk - 1)
      case measure => omega
      case rel => exact ⟨k + 1, by omega, by go_num, Below.drewN' HB.out _⟩
    · obtain rfl : k = l := by omega
      clear hR hS hn
      go_wp2
      go_ret
      obtain ⟨hR, hS, hn, hb1, q1, q2, hz1⟩ := HR.out
      exact ⟨rfl, hb1.trans (HB.out.mono (by omega))⟩

/-- What is taken: what came, what was wanted. -/
structure It where
  neg : Bool
  v : Value
  e : Int
  u : Value
  X : Nat

/-- Dyads in a row of memory. -/
def Row3 (cur : Array Value) (its : List It) (f : It → Value) : Prop := ∀ i it, its[i]? = some it → cur[i * 3]? = some (.bool it.neg) ∧ cur[i * 3 + 1]? = some (f it) ∧ cur[i * 3 + 2]? = some (.int .i64 it.e)
end Go.Proofs.YthilnddhehbjiaaDoor

