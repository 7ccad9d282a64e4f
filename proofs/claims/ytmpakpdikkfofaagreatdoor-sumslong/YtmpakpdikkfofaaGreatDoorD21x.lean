/- dyad's placed. -/
import Derived.Test.YtmpakpdikkfofaaGreatDoorD16x
import Derived.Deep.Cut
import Derived.Test.YtmpakpdikkfofaaGreatDoorS15x
import Derived.Test.YtmpakpdikkfofaaGreatDoorD1x
namespace Go.Proofs.YtmpakpdikkfofaaGreatDoor
open Go.RowKit
set_option linter.unusedVariables false
set_option maxRecDepth 20000
set_option linter.unusedSimpArgs false

/-- A place in a block of its own. -/
def Pk (w : World) (g : Nat) (f : Int) (e : Int) (t : Bool) (m : Int) : Prop := w.heap[g]? = some (.cells #[.int .u64 f, .int .i64 e, .bool t, .int .i64 m] 170 (0, 0))
theorem Pk.lt {w : World} {g : Nat} {f e : Int} {t : Bool} {m : Int} (h : Pk w g f e t m) : g < w.heap.size := (Array.getElem?_eq_some_iff.1 h).1
theorem Pk.below {w w' : World} {g : Nat} {f e : Int} {t : Bool} {m : Int} (h : Pk w g f e t m) (hb : Below w.heap.size w w') : Pk w' g f e t m := by
  unfold Pk; rw [hb.block g h.lt]; exact h
theorem Pk.facts {w : World} {g : Nat} {f e : Int} {t : Bool} {m : Int} (h : Pk w g f e t m) :
    w.cell? ⟨g, 0, none⟩ = some (.int .u64 f) ∧ w.cell? ⟨g, 1, none⟩ = some (.int .i64 e) ∧ w.cell? ⟨g, 2, none⟩ = some (.bool t) ∧ w.cell? ⟨g, 3, none⟩ = some (.int .i64 m) ∧
    w.frozen? ⟨g, 0, none⟩ = false ∧ w.frozen? ⟨g, 1, none⟩ = false ∧ w.frozen? ⟨g, 2, none⟩ = false ∧ w.frozen? ⟨g, 3, none⟩ = false := by
  unfold Pk at h
  simp [World.cell?, World.frozen?, h]
/-- The width in a block of its own. -/
def Wk (w : World) (g : Nat) (a b c : Int) : Prop := w.heap[g]? = some (.cells #[.int .i64 a, .int .i64 b, .int .i64 c] 133 (0, 0))
theorem Wk.facts {w : World} {g : Nat} {a b c : Int} (h : Wk w g a b c) : w.cell? ⟨g, 0, none⟩ = some (.int .i64 a) ∧ w.cell? ⟨g, 1, none⟩ = some (.int .i64 b) ∧ w.cell? ⟨g, 2, none⟩ = some (.int .i64 c) := by
  unfold Wk at h
  simp [World.cell?, h]

theorem placed_begin (w : World) (n : Bool) (v : Value) (e a b c : Int) (W : World) (hW : W = ((w.alloc (.cells #[.bool n, v, .int .i64 e] 90)).alloc (.cells #[.int .i64 a, .int .i64 b, .int .i64 c] 133)).alloc (.cells #[.int .u64 0, .int .i64 0, .bool false, .int .i64 0] 170)) :
    Below w.heap.size w W ∧ W.heap.size = w.heap.size + 3 ∧ Dk W w.heap.size n v e ∧ Wk W (w.heap.size + 1) a b c ∧ Pk W (w.heap.size + 1 + 1) 0 0 false 0 := by
  subst hW
  refine ⟨((below_alloc w _).alloc (by simp) _).alloc (by simp; omega) _, by simp, ((Dk.new w n v e).alloc _).alloc _, ?_, ?_⟩
  · unfold Wk
    rw [Below.heap_alloc _ _ _ (by simp)]
    have := heap_alloc_new (w.alloc (.cells #[.bool n, v, .int .i64 e] 90)) (.cells #[.int .i64 a, .int .i64 b, .int .i64 c] 133)
    simpa using this
  · have := heap_alloc_new ((w.alloc (.cells #[.bool n, v, .int .i64 e] 90)).alloc (.cells #[.int .i64 a, .int .i64 b, .int .i64 c] 133)) (.cells #[.int .u64 0, .int .i64 0, .bool false, .int .i64 0] 170)
    unfold Pk
    simpa using this

/-- Where a form lies among numbers of dg digits from 2^least on. -/
def plc (dg : Nat) (least top : Int) (X : Nat) (e : Int) : Nat × Int × Bool × Int :=
  if top < e + bl X then (2 ^ dg - 1, top - dg, false, 1)
  else
    let ex := max (e + bl X - dg) least
    let off := ex - e
    if off ≤ 0 then (X * 2 ^ (-off).toNat, ex, true, -1)
    else (X / 2 ^ off.toNat, ex, false, if off = 1 then 0 else if X / 2 ^ (off - 1).toNat % 2 = 1 then 1 else -1)

abbrev st4 (w : World) (g : Nat) (x y z t : Value) : World := (((w.setCell ⟨g, 0, none⟩ x).setCell ⟨g, 1, none⟩ y).setCell ⟨g, 2, none⟩ z).setCell ⟨g, 3, none⟩ t
theorem Pk.set {w : World} {g : Nat} {f e : Int} {t : Bool} {m : Int} (h : Pk w g f e t m) (f' e' : Int) (t' : Bool) (m' : Int) : Pk (st4 w g (.int .u64 f') (.int .i64 e') (.bool t') (.int .i64 m')) g f' e' t' m' := by
  unfold Pk at h ⊢
  simp [st4, World.setCell, Array.getElem?_modify, h]
theorem Pk.drew {w : World} {g : Nat} {f e : Int} {t : Bool} {m : Int} (h : Pk w g f e t m) : Pk w.drew g f e t m := h
theorem Pk.alloc {w : World} {g : Nat} {f e : Int} {t : Bool} {m : Int} (h : Pk w g f e t m) (o : Obj) : Pk (w.alloc o) g f e t m := h.below (below_alloc w o)
theorem placed_res (W : World) (g : Nat) (f e : Int) (t : Bool) (m : Int) (tmps : Array Value) (ht : tmps[4]?.getD undef = .pointer (some ⟨g, 0, none⟩)) (D : Pk W g f e t m) :
    (results Tryz.f139 tmps).run Tryz.prog W = .ok (.agg #[.int .u64 f, .int .i64 e, .bool t, .int .i64 m]) W := by
  obtain ⟨x0, x1, x2, x3, xf0, xf1, xf2, xf3⟩ := D.facts
  simp [results, Tryz.results139, ht, go_sem, x0, x1, x2, x3]

set_option maxHeartbeats 4000000 in
theorem placed_far64 {w : World} {a : Option Addr} {l c : Nat} (n : Bool) (X : Nat) (e : Int) (b : Nat) (he0 : -1048576 ≤ e) (he1 : e ≤ 1048576) (hb : b ≤ 262144) (hfar : 1024 < e + (b : Int))
    (HL : Hid (∀ u, Below w.heap.size w u → Calls Tryz.prog 141 #[.slice a l c] u fun r w' => r = .returned (.int .i64 (b : Nat)) ∧ w' = u)) :
    Calls Tryz.prog 139 #[.agg #[.bool n, .slice a l c, .int .i64 e], .agg #[.int .i64 53, .int .i64 (-1074), .int .i64 1024]] w fun r w' => r = .returned (.agg #[.int .u64 9007199254740991, .int .i64 971, .bool false, .int .i64 1]) ∧ Below w.heap.size w w' := by
  obtain ⟨W1, hW1⟩ : ∃ W, W = ((w.alloc (.cells #[.bool n, .slice a l c, .int .i64 e] 90)).alloc (.cells #[.int .i64 53, .int .i64 (-1074), .int .i64 1024] 133)).alloc (.cells #[.int .u64 0, .int .i64 0, .bool false, .int .i64 0] 170) := ⟨_, rfl⟩
  obtain ⟨hB, hz1, DD, DW, DP⟩ := placed_begin w n (.slice a l c) e 53 (-1074) 1024 W1 hW1
  have H1 := hid (HL.out W1 hB)
  obtain ⟨x0, x1, x2, xf0, xf1, xf2⟩ := DD.facts
  obtain ⟨y0, y1, y2⟩ := DW.facts
  obtain ⟨p0, p1, p2, p3, pf0, pf1, pf2, pf3⟩ := DP.facts
  have F0 := Aside.intro (show Fin w.heap.size (w.heap.size + 3) w W1 (.slice none 0 0) 0 from ⟨Nt.nil _ _, hB, by omega⟩)
  have SB := (Aside.intro (And.intro hB (And.intro hz1 DP)))
  clear hB hz1 DD DW DP HL
  go_enter Tryz.func139, Tryz.ntmps139
  go_wp2_with fail
  rw [← hW1]
  clear hW1
  refine (Calls.mono H1.out) ?_
  rintro r ww ⟨rfl, hw⟩
  rw [hw]
  clear hw ww H1
  go_wp2
  go_region
  all_goals (
    go_wp2
    refine bodyPost_ret (placed_res _ (w.heap.size + 1 + 1) 9007199254740991 971 false 1 _ rfl (by repeat (with_reducible first | exact SB.out.2.2 | refine Pk.drew ?_ | refine Pk.set (f := 0) (e := 0) (t := false) (m := 0) ?_ _ _ _ _))) rfl ⟨rfl, ?_⟩
    refine Fin.bel (m := w.heap.size + 3) (v := .slice none 0 0) (X := 0) ?_
    repeat (with_reducible first | exact F0.out | refine Fin.drew ?_ | refine Fin.alloc ?_ _ | refine Fin.set ?_ _ _ _ (by omega) (by omega)))

set_option maxHeartbeats 4000000 in
theorem placed_64one {w : World} {a : Option Addr} {l c : Nat} (n : Bool) (e ex off : Int) (b F : Nat) (he0 : -1048576 ≤ e) (he1 : e ≤ 1048576) (hb : b ≤ 262144) (hF : F < 18446744073709551616) (lF : (ws F).length ≤ 100) (hnf : e + (b : Int) ≤ 1024)
    (hmx : max (e + (b : Int) - 53) (-1074) = ex) (eof : ex - e = off) (hex0 : -2000 ≤ ex) (hex1 : ex ≤ 2000) (hof0 : -2000000 ≤ off) (hof1 : off ≤ 2000000) (tt : Bool) (htt : decide (off ≤ 0) = tt) (ho : (off == 1) = true)
    (HL : Hid (∀ u, Below w.heap.size w u → Calls Tryz.prog 141 #[.slice a l c] u fun r w' => r = .returned (.int .i64 (b : Nat)) ∧ w' = u))
    (HS : Hid (∀ u, Below w.heap.size w u → Calls Tryz.prog 147 #[.slice a l c, .int .i64 (-off)] u fun r w' => ∃ v, r = .returned (.tuple #[v, .int .i64 0]) ∧ Nt u.heap.size w' v F ∧ Below u.heap.size u w'))
    (HM : Hid (∀ (u : World) (p : Option Addr) (q : Nat), Arg u p (ws F).length q (ws F) → Calls Tryz.prog 172 #[.slice p (ws F).length q] u fun r w' => r = .returned (.tuple #[.int .u64 (F : Nat), .int .i64 0]) ∧ w' = u)) :
    Calls Tryz.prog 139 #[.agg #[.bool n, .slice a l c, .int .i64 e], .agg #[.int .i64 53, .int .i64 (-1074), .int .i64 1024]] w fun r w' => r = .returned (.agg #[.int .u64 (F : Nat), .int .i64 ex, .bool tt, .int .i64 0]) ∧ Below w.heap.size w w' := by
  obtain ⟨W1, hW1⟩ : ∃ W, W = ((w.alloc (.cells #[.bool n, .slice a l c, .int .i64 e] 90)).alloc (.cells #[.int .i64 53, .int .i64 (-1074), .int .i64 1024] 133)).alloc (.cells #[.int .u64 0, .int .i64 0, .bool false, .int .i64 0] 170) := ⟨_, rfl⟩
  obtain ⟨hB, hz1, DD, DW, DP⟩ := placed_begin w n (.slice a l c) e 53 (-1074) 1024 W1 hW1
  have H1 := hid (HL.out W1 hB)
  have H2 := hid (HS.out W1 hB)
  obtain ⟨x0, x1, x2, xf0, xf1, xf2⟩ := DD.facts
  obtain ⟨y0, y1, y2⟩ := DW.facts
  have SB := (Aside.intro (And.intro hB (And.intro hz1 (And.intro DD DP))))
  clear hB hz1 DD DW DP HL HS
  go_enter Tryz.func139, Tryz.ntmps139
  go_wp2_with fail
  rw [← hW1]
  clear hW1
  refine (Calls.mono H1.out) ?_
  rintro r ww ⟨rfl, hw⟩
  rw [hw]
  clear hw ww H1
  go_wp2_with fail
  try simp only [hmx, eof]
  refine (Calls.mono H2.out) ?_
  rintro r u1 ⟨v, rfl, hN, hbb⟩
  obtain ⟨a1, c1, rfl, A1⟩ := hN.arg (by omega)
  obtain ⟨hB, hz1, DD, DP⟩ := SB.out
  have H3 := hid (HM.out u1 a1 c1 A1)
  obtain ⟨z0, z1, z2, zf0, zf1, zf2⟩ := (DD.below hbb).facts
  have DP1 := DP.below hbb
  obtain ⟨p0, p1, p2, p3, pf0, pf1, pf2, pf3⟩ := DP1.facts
  have F0 := Aside.intro (show Fin w.heap.size (w.heap.size + 3) w u1 (.slice none 0 0) 0 from ⟨Nt.nil _ _, hB.trans (hbb.mono (by omega)), by have := hbb.size; omega⟩)
  have hz : w.heap.size + 1 + 1 < u1.heap.size := by have := hbb.size; omega
  have hz' : w.heap.size < u1.heap.size := by omega
  have SP := Aside.intro DP1
  clear hN hbb A1 hB hz1 DD DP DP1 H2 HM SB
  go_wp2_with fail
  try simp only [hmx, eof]
  refine (Calls.mono H3.out) ?_
  rintro r ww ⟨rfl, hw⟩
  rw [hw]
  clear hw ww H3
  go_wp2
  refine bodyPost_ret (placed_res _ (w.heap.size + 1 + 1) (F : Nat) ex tt 0 _ rfl (by repeat (with_reducible first | exact SP.out | refine Pk.alloc ?_ _ | refine Pk.drew ?_ | refine Pk.set (f := 0) (e := 0) (t := false) (m := 0) ?_ _ _ _ _))) rfl ⟨rfl, ?_⟩
  refine Fin.bel (m := w.heap.size + 3) (v := .slice none 0 0) (X := 0) ?_
  repeat (with_reducible first | exact F0.out | refine Fin.drew ?_ | refine Fin.alloc ?_ _ | refine Fin.set ?_ _ _ _ (by omega) (by omega))

set_option maxHeartbeats 4000000 in
theorem placed_64bt {w : World} {a : Option Addr} {l c : Nat} (n : Bool) (e ex off : Int) (b F : Nat) (he0 : -1048576 ≤ e) (he1 : e ≤ 1048576) (hb : b ≤ 262144) (hF : F < 18446744073709551616) (lF : (ws F).length ≤ 100) (hnf : e + (b : Int) ≤ 1024)
    (hmx : max (e + (b : Int) - 53) (-1074) = ex) (eof : ex - e = off) (hex0 : -2000 ≤ ex) (hex1 : ex ≤ 2000) (hof0 : -2000000 ≤ off) (hof1 : off ≤ 2000000) (tt : Bool) (htt : decide (off ≤ 0) = tt) (ho : (off == 1) = false)
    (HL : Hid (∀ u, Below w.heap.size w u → Calls Tryz.prog 141 #[.slice a l c] u fun r w' => r = .returned (.int .i64 (b : Nat)) ∧ w' = u))
    (HS : Hid (∀ u, Below w.heap.size w u → Calls Tryz.prog 147 #[.slice a l c, .int .i64 (-off)] u fun r w' => ∃ v, r = .returned (.tuple #[v, .int .i64 0]) ∧ Nt u.heap.size w' v F ∧ Below u.heap.size u w'))
    (HM : Hid (∀ (u : World) (p : Option Addr) (q : Nat), Arg u p (ws F).length q (ws F) → Calls Tryz.prog 172 #[.slice p (ws F).length q] u fun r w' => r = .returned (.tuple #[.int .u64 (F : Nat), .int .i64 0]) ∧ w' = u))
    (HB : Hid (∀ u, Below w.heap.size w u → Calls Tryz.prog 173 #[.slice a l c, .int .i64 (off - 1)] u fun r w' => r = .returned (.bool true) ∧ w' = u)) :
    Calls Tryz.prog 139 #[.agg #[.bool n, .slice a l c, .int .i64 e], .agg #[.int .i64 53, .int .i64 (-1074), .int .i64 1024]] w fun r w' => r = .returned (.agg #[.int .u64 (F : Nat), .int .i64 ex, .bool tt, .int .i64 1]) ∧ Below w.heap.size w w' := by
  obtain ⟨W1, hW1⟩ : ∃ W, W = ((w.alloc (.cells #[.bool n, .slice a l c, .int .i64 e] 90)).alloc (.cells #[.int .i64 53, .int .i64 (-1074), .int .i64 1024] 133)).alloc (.cells #[.int .u64 0, .int .i64 0, .bool false, .int .i64 0] 170) := ⟨_, rfl⟩
  obtain ⟨hB, hz1, DD, DW, DP⟩ := placed_begin w n (.slice a l c) e 53 (-1074) 1024 W1 hW1
  have H1 := hid (HL.out W1 hB)
  have H2 := hid (HS.out W1 hB)
  obtain ⟨x0, x1, x2, xf0, xf1, xf2⟩ := DD.facts
  obtain ⟨y0, y1, y2⟩ := DW.facts
  have SB := (Aside.intro (And.intro hB (And.intro hz1 (And.intro DD DP))))
  clear hB hz1 DD DW DP HL HS
  go_enter Tryz.func139, Tryz.ntmps139
  go_wp2_with fail
  rw [← hW1]
  clear hW1
  refine (Calls.mono H1.out) ?_
  rintro r ww ⟨rfl, hw⟩
  rw [hw]
  clear hw ww H1
  go_wp2_with fail
  try simp only [hmx, eof]
  refine (Calls.mono H2.out) ?_
  rintro r u1 ⟨v, rfl, hN, hbb⟩
  obtain ⟨a1, c1, rfl, A1⟩ := hN.arg (by omega)
  obtain ⟨hB, hz1, DD, DP⟩ := SB.out
  have H3 := hid (HM.out u1 a1 c1 A1)
  obtain ⟨z0, z1, z2, zf0, zf1, zf2⟩ := (DD.below hbb).facts
  have DP1 := DP.below hbb
  obtain ⟨p0, p1, p2, p3, pf0, pf1, pf2, pf3⟩ := DP1.facts
  have F0 := Aside.intro (show Fin w.heap.size (w.heap.size + 3) w u1 (.slice none 0 0) 0 from ⟨Nt.nil _ _, hB.trans (hbb.mono (by omega)), by have := hbb.size; omega⟩)
  have hz : w.heap.size + 1 + 1 < u1.heap.size := by have := hbb.size; omega
  have hz' : w.heap.size < u1.heap.size := by omega
  have SP := Aside.intro DP1
  clear hN hbb A1 hB hz1 DD DP DP1 H2 HM SB
  go_wp2_with fail
  try simp only [hmx, eof]
  refine (Calls.mono H3.out) ?_
  rintro r ww ⟨rfl, hw⟩
  rw [hw]
  clear hw ww H3
  have H4 := hid (HB.out (u1.alloc (.cells #[.int .u64 (F : Nat), .int .i64 ex, .bool tt, .int .i64 (-1)] 170)) (F0.out.bel.alloc F0.out.size _))
  clear HB
  go_wp2_with fail
  try simp only [hmx, eof, htt]
  refine (Calls.mono H4.out) ?_
  rintro r ww ⟨rfl, hw⟩
  rw [hw]
  clear hw ww H4
  go_wp2
  refine bodyPost_ret (placed_res _ (w.heap.size + 1 + 1) (F : Nat) ex tt 1 _ rfl (by repeat (with_reducible first | exact SP.out | refine Pk.alloc ?_ _ | refine Pk.drew ?_ | refine Pk.set (f := 0) (e := 0) (t := false) (m := 0) ?_ _ _ _ _))) rfl ⟨rfl, ?_⟩
  refine Fin.bel (m := w.heap.size + 3) (v := .slice none 0 0) (X := 0) ?_
  repeat (with_reducible first | exact F0.out | refine Fin.drew ?_ | refine Fin.alloc ?_ _ | refine Fin.set ?_ _ _ _ (by omega) (by omega))

set_option maxHeartbeats 4000000 in
theorem placed_64bf {w : World} {a : Option Addr} {l c : Nat} (n : Bool) (e ex off : Int) (b F : Nat) (he0 : -1048576 ≤ e) (he1 : e ≤ 1048576) (hb : b ≤ 262144) (hF : F < 18446744073709551616) (lF : (ws F).length ≤ 100) (hnf : e + (b : Int) ≤ 1024)
    (hmx : max (e + (b : Int) - 53) (-1074) = ex) (eof : ex - e = off) (hex0 : -2000 ≤ ex) (hex1 : ex ≤ 2000) (hof0 : -2000000 ≤ off) (hof1 : off ≤ 2000000) (tt : Bool) (htt : decide (off ≤ 0) = tt) (ho : (off == 1) = false)
    (HL : Hid (∀ u, Below w.heap.size w u → Calls Tryz.prog 141 #[.slice a l c] u fun r w' => r = .returned (.int .i64 (b : Nat)) ∧ w' = u))
    (HS : Hid (∀ u, Below w.heap.size w u → Calls Tryz.prog 147 #[.slice a l c, .int .i64 (-off)] u fun r w' => ∃ v, r = .returned (.tuple #[v, .int .i64 0]) ∧ Nt u.heap.size w' v F ∧ Below u.heap.size u w'))
    (HM : Hid (∀ (u : World) (p : Option Addr) (q : Nat), Arg u p (ws F).length q (ws F) → Calls Tryz.prog 172 #[.slice p (ws F).length q] u fun r w' => r = .returned (.tuple #[.int .u64 (F : Nat), .int .i64 0]) ∧ w' = u))
    (HB : Hid (∀ u, Below w.heap.size w u → Calls Tryz.prog 173 #[.slice a l c, .int .i64 (off - 1)] u fun r w' => r = .returned (.bool false) ∧ w' = u)) :
    Calls Tryz.prog 139 #[.agg #[.bool n, .slice a l c, .int .i64 e], .agg #[.int .i64 53, .int .i64 (-1074), .int .i64 1024]] w fun r w' => r = .returned (.agg #[.int .u64 (F : Nat), .int .i64 ex, .bool tt, .int .i64 (-1)]) ∧ Below w.heap.size w w' := by
  obtain ⟨W1, hW1⟩ : ∃ W, W = ((w.alloc (.cells #[.bool n, .slice a l c, .int .i64 e] 90)).alloc (.cells #[.int .i64 53, .int .i64 (-1074), .int .i64 1024] 133)).alloc (.cells #[.int .u64 0, .int .i64 0, .bool false, .int .i64 0] 170) := ⟨_, rfl⟩
  obtain ⟨hB, hz1, DD, DW, DP⟩ := placed_begin w n (.slice a l c) e 53 (-1074) 1024 W1 hW1
  have H1 := hid (HL.out W1 hB)
  have H2 := hid (HS.out W1 hB)
  obtain ⟨x0, x1, x2, xf0, xf1, xf2⟩ := DD.facts
  obtain ⟨y0, y1, y2⟩ := DW.facts
  have SB := (Aside.intro (And.intro hB (And.intro hz1 (And.intro DD DP))))
  clear hB hz1 DD DW DP HL HS
  go_enter Tryz.func139, Tryz.ntmps139
  go_wp2_with fail
  rw [← hW1]
  clear hW1
  refine (Calls.mono H1.out) ?_
  rintro r ww ⟨rfl, hw⟩
  rw [hw]
  clear hw ww H1
  go_wp2_with fail
  try simp only [hmx, eof]
  refine (Calls.mono H2.out) ?_
  rintro r u1 ⟨v, rfl, hN, hbb⟩
  obtain ⟨a1, c1, rfl, A1⟩ := hN.arg (by omega)
  obtain ⟨hB, hz1, DD, DP⟩ := SB.out
  have H3 := hid (HM.out u1 a1 c1 A1)
  obtain ⟨z0, z1, z2, zf0, zf1, zf2⟩ := (DD.below hbb).facts
  have DP1 := DP.below hbb
  obtain ⟨p0, p1, p2, p3, pf0, pf1, pf2, pf3⟩ := DP1.facts
  have F0 := Aside.intro (show Fin w.heap.size (w.heap.size + 3) w u1 (.slice none 0 0) 0 from ⟨Nt.nil _ _, hB.trans (hbb.mono (by omega)), by have := hbb.size; omega⟩)
  have hz : w.heap.size + 1 + 1 < u1.heap.size := by have := hbb.size; omega
  have hz' : w.heap.size < u1.heap.size := by omega
  have SP := Aside.intro DP1
  clear hN hbb A1 hB hz1 DD DP DP1 H2 HM SB
  go_wp2_with fail
  try simp only [hmx, eof]
  refine (Calls.mono H3.out) ?_
  rintro r ww ⟨rfl, hw⟩
  rw [hw]
  clear hw ww H3
  have H4 := hid (HB.out (u1.alloc (.cells #[.int .u64 (F : Nat), .int .i64 ex, .bool tt, .int .i64 (-1)] 170)) (F0.out.bel.alloc F0.out.size _))
  clear HB
  go_wp2_with fail
  try simp only [hmx, eof, htt]
  refine (Calls.mono H4.out) ?_
  rintro r ww ⟨rfl, hw⟩
  rw [hw]
  clear hw ww H4
  go_wp2
  refine bodyPost_ret (placed_res _ (w.heap.size + 1 + 1) (F : Nat) ex tt (-1) _ rfl (by repeat (with_reducible first | exact SP.out | refine Pk.alloc ?_ _ | refine Pk.drew ?_ | refine Pk.set (f := 0) (e := 0) (t := false) (m := 0) ?_ _ _ _ _))) rfl ⟨rfl, ?_⟩
  refine Fin.bel (m := w.heap.size + 3) (v := .slice none 0 0) (X := 0) ?_
  repeat (with_reducible first | exact F0.out | refine Fin.drew ?_ | refine Fin.alloc ?_ _ | refine Fin.set ?_ _ _ _ (by omega) (by omega))
end Go.Proofs.YtmpakpdikkfofaaGreatDoor

/- dyad's placed, goesOut: what they answer. -/
namespace Go.Proofs.YtmpakpdikkfofaaGreatDoor
open Go.RowKit
set_option linter.unusedVariables false
set_option maxRecDepth 20000
set_option linter.unusedSimpArgs false

theorem small_ws {w : World} {p : Option Addr} {q F : Nat} (hF : F < 18446744073709551616) (hA : Arg w p (ws F).length q (ws F)) :
    Calls Tryz.prog 172 #[.slice p (ws F).length q] w fun r w' => r = .returned (.tuple #[.int .u64 (F : Nat), .int .i64 0]) ∧ w' = w := by
  have := small_any (ws F) p (ws F).length q w.heap.size w hA.len hA.cap (by have := hA.big; omega) hA.wf hA.rd
  rw [val_ws] at this
  unfold smallV at this
  rw [if_pos hF] at this
  exact this

theorem plc_facts (X : Nat) (e : Int) (hX : X ≠ 0) (he0 : -1048576 ≤ e) (he1 : e ≤ 1048576) :
    (plc 53 (-1074) 1024 X e).1 ≤ 9007199254740991 ∧ -1074 ≤ (plc 53 (-1074) 1024 X e).2.1 ∧ (plc 53 (-1074) 1024 X e).2.1 ≤ 971 ∧ ((plc 53 (-1074) 1024 X e).2.1 = -1074 ∨ 4503599627370496 ≤ (plc 53 (-1074) 1024 X e).1) := by
  have hb := bl_pos X hX
  have h1 := bl_lt X
  have h2 := bl_ge X hX
  have e53 : (2 : Nat) ^ 53 = 9007199254740992 := rfl
  have e52 : (2 : Nat) ^ 52 = 4503599627370496 := rfl
  unfold plc
  by_cases hf : 1024 < e + (bl X : Int)
  · rw [if_pos hf]
    refine ⟨by simp, by simp, by simp, .inr (by simp)⟩
  · rw [if_neg hf]
    simp only
    obtain ⟨ex, hex⟩ : ∃ ex, max (e + (bl X : Int) - ((53 : Nat) : Int)) (-1074) = ex := ⟨_, rfl⟩
    rw [hex]
    by_cases ho : ex - e ≤ 0
    · rw [if_pos ho]
      obtain ⟨k, hk⟩ : ∃ k : Nat, (-(ex - e)).toNat = k := ⟨_, rfl⟩
      rw [hk]
      have hub : X * 2 ^ k < 2 ^ (bl X + k) := by rw [Nat.pow_add]; exact Nat.mul_lt_mul_of_pos_right h1 (Nat.two_pow_pos k)
      have hm : 2 ^ (bl X + k) ≤ 2 ^ 53 := Nat.pow_le_pow_right (by omega) (by omega)
      refine ⟨by simp only; omega, by simp only; omega, by simp only; omega, ?_⟩
      by_cases hl : ex = -1074
      · exact .inl hl
      · right
        have hlb : 2 ^ (bl X - 1) * 2 ^ k ≤ X * 2 ^ k := Nat.mul_le_mul_right _ h2
        rw [← Nat.pow_add, show bl X - 1 + k = 52 by omega] at hlb
        simp only
        omega
    · rw [if_neg ho]
      obtain ⟨k, hk⟩ : ∃ k : Nat, (ex - e).toNat = k := ⟨_, rfl⟩
      rw [hk]
      have hub : X / 2 ^ k < 2 ^ 53 := by
        rw [Nat.div_lt_iff_lt_mul (Nat.two_pow_pos k), ← Nat.pow_add]
        exact Nat.lt_of_lt_of_le h1 (Nat.pow_le_pow_right (by omega) (by omega))
      refine ⟨by simp only; omega, by simp only; omega, by simp only; omega, ?_⟩
      by_cases hl : ex = -1074
      · exact .inl hl
      · right
        have hlb : 2 ^ 52 ≤ X / 2 ^ k := by
          rw [Nat.le_div_iff_mul_le (Nat.two_pow_pos k), ← Nat.pow_add, show 52 + k = bl X - 1 by omega]
          exact h2
        simp only
        omega

theorem shift_down (X : Nat) (k : Nat) (hX : X ≠ 0) (hl : bl X ≤ 262144) (h0 : 0 < k) : shiftS X (-(k : Int)) = (X / 2 ^ k, 0) := by
  unfold shiftS
  rw [if_neg (notLG hl), if_neg hX, if_pos (by omega), show (- -(k : Int)).toNat = k by omega]

theorem placed_any {w : World} {a : Option Addr} {l c : Nat} {X : Nat} (hA : Arg w a l c (ws X)) (n : Bool) (e : Int) (he0 : -1048576 ≤ e) (he1 : e ≤ 1048576) (hX : X ≠ 0) (hl : bl X ≤ 262144) :
    Calls Tryz.prog 139 #[.agg #[.bool n, .slice a l c, .int .i64 e], .agg #[.int .i64 53, .int .i64 (-1074), .int .i64 1024]] w fun r w' =>
      r = .returned (.agg #[.int .u64 ((plc 53 (-1074) 1024 X e).1 : Nat), .int .i64 (plc 53 (-1074) 1024 X e).2.1, .bool (plc 53 (-1074) 1024 X e).2.2.1, .int .i64 (plc 53 (-1074) 1024 X e).2.2.2]) ∧ Below w.heap.size w w' := by
  have pf := plc_facts X e hX he0 he1
  have HL : Hid (∀ u, Below w.heap.size w u → Calls Tryz.prog 141 #[.slice a l c] u fun r w' => r = .returned (.int .i64 (bl X : Nat)) ∧ w' = u) := by
    intro u hu
    have A := hA.below hu
    have := len_any (ws X) a l c u.heap.size u A.len A.cap (by have := A.big; omega) A.wf A.rd
    rw [val_ws] at this
    exact this
  have hb := bl_pos X hX
  by_cases hf : 1024 < e + (bl X : Int)
  · have hp : plc 53 (-1074) 1024 X e = (9007199254740991, 971, false, 1) := by unfold plc; rw [if_pos hf]; rfl
    rw [hp]
    exact placed_far64 n X e (bl X) he0 he1 hl hf HL
  · obtain ⟨ex, hex⟩ : ∃ ex, max (e + (bl X : Int) - 53) (-1074) = ex := ⟨_, rfl⟩
    obtain ⟨off, hof⟩ : ∃ off, ex - e = off := ⟨_, rfl⟩
    have hexb : -2000 ≤ ex ∧ ex ≤ 2000 := by omega
    have hp : plc 53 (-1074) 1024 X e = if off ≤ 0 then (X * 2 ^ (-off).toNat, ex, true, -1) else (X / 2 ^ off.toNat, ex, false, if off = 1 then 0 else if X / 2 ^ (off - 1).toNat % 2 = 1 then 1 else -1) := by
      unfold plc
      rw [if_neg hf]
      simp only
      rw [show ((53 : Nat) : Int) = 53 from rfl, hex, hof]
    obtain ⟨F, hFe⟩ : ∃ F, (plc 53 (-1074) 1024 X e).1 = F := ⟨_, rfl⟩
    have hF : F ≤ 9007199254740991 := by rw [← hFe]; exact pf.1
    have lF : (ws F).length ≤ 100 := by have := ws_len_bl F; have := B.bl_le53' F hF; omega
    have hsh : shiftS X (-off) = (F, 0) := by
      rw [← hFe, hp]
      by_cases ho : off ≤ 0
      · rw [if_pos ho, shift_up X (-off) (by omega) hX hl, if_neg (by omega)]
      · obtain ⟨k, hk⟩ : ∃ k : Nat, off = (k : Int) := ⟨off.toNat, by omega⟩
        rw [if_neg ho, hk, shift_down X k hX hl (by omega), Int.toNat_natCast]
    have HS : Hid (∀ u, Below w.heap.size w u → Calls Tryz.prog 147 #[.slice a l c, .int .i64 (-off)] u fun r w' => ∃ v, r = .returned (.tuple #[v, .int .i64 0]) ∧ Nt u.heap.size w' v F ∧ Below u.heap.size u w') := by
      intro u hu
      have A := hA.below hu
      exact Shift_arg (-off) A (by rw [val_ws]; exact hsh) (by omega) (by omega)
    have HM : Hid (∀ (u : World) (p : Option Addr) (q : Nat), Arg u p (ws F).length q (ws F) → Calls Tryz.prog 172 #[.slice p (ws F).length q] u fun r w' => r = .returned (.tuple #[.int .u64 (F : Nat), .int .i64 0]) ∧ w' = u) := fun u p q hA => small_ws (by omega) hA
    have HB : ∀ t : Bool, (if off - 1 < 0 then false else decide (X / 2 ^ (off - 1).toNat % 2 = 1)) = t → Hid (∀ u, Below w.heap.size w u → Calls Tryz.prog 173 #[.slice a l c, .int .i64 (off - 1)] u fun r w' => r = .returned (.bool t) ∧ w' = u) := by
      intro t ht u hu
      have A := hA.below hu
      by_cases h0 : off - 1 < 0
      · rw [if_pos h0] at ht; subst ht; exact bit_neg a l c (off - 1) u h0
      · rw [if_neg h0] at ht
        obtain ⟨k, hk⟩ : ∃ k : Nat, off - 1 = (k : Int) := ⟨(off - 1).toNat, by omega⟩
        have := bit_any (ws X) a l c u.heap.size k u A.len A.wf A.rd (by omega)
        rw [val_ws] at this
        rw [hk] at ht ⊢
        rw [Int.toNat_natCast] at ht
        rw [ht] at this
        exact this
    rw [hFe]
    by_cases h1 : off = 1
    · have := placed_64one n e ex off (bl X) F he0 he1 hl (by omega) lF (by omega) hex hof hexb.1 hexb.2 (by omega) (by omega) false (decide_eq_false (by omega)) (by simp [h1]) HL HS HM
      rw [hp, if_neg (by omega)]
      simp only [h1, if_true]
      exact this
    · have h1' : (off == 1) = false := by simp [h1]
      by_cases ho : off ≤ 0
      · have := placed_64bf n e ex off (bl X) F he0 he1 hl (by omega) lF (by omega) hex hof hexb.1 hexb.2 (by omega) (by omega) true (decide_eq_true ho) h1' HL HS HM (HB false (by rw [if_pos (by omega)]))
        rw [hp, if_pos ho]
        exact this
      · rw [hp, if_neg ho]
        simp only [if_neg h1]
        by_cases hbt : X / 2 ^ (off - 1).toNat % 2 = 1
        · have := placed_64bt n e ex off (bl X) F he0 he1 hl (by omega) lF (by omega) hex hof hexb.1 hexb.2 (by omega) (by omega) false (decide_eq_false ho) h1' HL HS HM (HB true (by rw [if_neg (by omega)]; exact decide_eq_true hbt))
          rw [if_pos hbt]
          exact this
        · have := placed_64bf n e ex off (bl X) F he0 he1 hl (by omega) lF (by omega) hex hof hexb.1 hexb.2 (by omega) (by omega) false (decide_eq_false ho) h1' HL HS HM (HB false (by rw [if_neg (by omega)]; exact decide_eq_false hbt))
          rw [if_neg hbt]
          exact this

/-- Whether what lies between goes out. -/
def outS (mode : Int) (F : Nat) (mid : Int) (n : Bool) : Bool :=
  if mode = 0 then decide (0 < mid) || (decide (mid = 0) && decide (F % 2 = 1)) else if mode = 2 then !n else if mode = 3 then n else if mode = 4 then decide (0 ≤ mid) else false
end Go.Proofs.YtmpakpdikkfofaaGreatDoor

/- dyad's goesOut. -/
namespace Go.Proofs.YtmpakpdikkfofaaGreatDoor
open Go.RowKit
set_option linter.unusedVariables false
set_option maxRecDepth 20000
set_option linter.unusedSimpArgs false

theorem and_one64 (z : Nat) (h : z < 18446744073709551616) : bits BinOp.and IntKind.u64 (z : Int) 1 = ((z % 2 : Nat) : Int) := by
  have h := B.bits_mask1 z h
  exact h

set_option maxHeartbeats 1000000 in
theorem out_even1 (F : Nat) (ex : Int) (t : Bool) (n : Bool) (w : World)  :
    Calls Tryz.prog 140 #[.agg #[.int .u64 (F : Nat), .int .i64 ex, .bool t, .int .i64 1], .int .i64 0, .bool n] w fun r w' => r = .returned (.bool true) ∧ Below w.heap.size w w' := by
  have HB := Aside.intro (show Below w.heap.size w (w.alloc (.cells #[.int .u64 (F : Nat), .int .i64 ex, .bool t, .int .i64 1] 170)) from below_alloc w _)
  go_enter Tryz.func140, Tryz.ntmps140
  go_wp2
  all_goals go_ret
  all_goals exact ⟨rfl, HB.out⟩

set_option maxHeartbeats 1000000 in
theorem out_even0 (F : Nat) (ex : Int) (t : Bool) (n : Bool) (w : World) (b : Bool) (hb : (bits BinOp.and IntKind.u64 (F : Int) 1 == 1) = b) :
    Calls Tryz.prog 140 #[.agg #[.int .u64 (F : Nat), .int .i64 ex, .bool t, .int .i64 0], .int .i64 0, .bool n] w fun r w' => r = .returned (.bool b) ∧ Below w.heap.size w w' := by
  have HB := Aside.intro (show Below w.heap.size w (w.alloc (.cells #[.int .u64 (F : Nat), .int .i64 ex, .bool t, .int .i64 0] 170)) from below_alloc w _)
  go_enter Tryz.func140, Tryz.ntmps140
  go_wp2
  all_goals go_ret
  all_goals exact ⟨rfl, HB.out⟩

set_option maxHeartbeats 1000000 in
theorem out_evenm (F : Nat) (ex : Int) (t : Bool) (n : Bool) (w : World)  :
    Calls Tryz.prog 140 #[.agg #[.int .u64 (F : Nat), .int .i64 ex, .bool t, .int .i64 (-1)], .int .i64 0, .bool n] w fun r w' => r = .returned (.bool false) ∧ Below w.heap.size w w' := by
  have HB := Aside.intro (show Below w.heap.size w (w.alloc (.cells #[.int .u64 (F : Nat), .int .i64 ex, .bool t, .int .i64 (-1)] 170)) from below_alloc w _)
  go_enter Tryz.func140, Tryz.ntmps140
  go_wp2
  all_goals go_ret
  all_goals exact ⟨rfl, HB.out⟩

set_option maxHeartbeats 1000000 in
theorem out_zero (F : Nat) (ex : Int) (t : Bool) (mid : Int) (n : Bool) (w : World)  :
    Calls Tryz.prog 140 #[.agg #[.int .u64 (F : Nat), .int .i64 ex, .bool t, .int .i64 mid], .int .i64 1, .bool n] w fun r w' => r = .returned (.bool false) ∧ Below w.heap.size w w' := by
  have HB := Aside.intro (show Below w.heap.size w (w.alloc (.cells #[.int .u64 (F : Nat), .int .i64 ex, .bool t, .int .i64 mid] 170)) from below_alloc w _)
  go_enter Tryz.func140, Tryz.ntmps140
  go_wp2
  all_goals go_ret
  all_goals exact ⟨rfl, HB.out⟩

set_option maxHeartbeats 1000000 in
theorem out_up (F : Nat) (ex : Int) (t : Bool) (mid : Int) (n : Bool) (w : World)  :
    Calls Tryz.prog 140 #[.agg #[.int .u64 (F : Nat), .int .i64 ex, .bool t, .int .i64 mid], .int .i64 2, .bool n] w fun r w' => r = .returned (.bool (!n)) ∧ Below w.heap.size w w' := by
  have HB := Aside.intro (show Below w.heap.size w (w.alloc (.cells #[.int .u64 (F : Nat), .int .i64 ex, .bool t, .int .i64 mid] 170)) from below_alloc w _)
  go_enter Tryz.func140, Tryz.ntmps140
  go_wp2
  all_goals go_ret
  all_goals exact ⟨rfl, HB.out⟩

set_option maxHeartbeats 1000000 in
theorem out_down (F : Nat) (ex : Int) (t : Bool) (mid : Int) (n : Bool) (w : World)  :
    Calls Tryz.prog 140 #[.agg #[.int .u64 (F : Nat), .int .i64 ex, .bool t, .int .i64 mid], .int .i64 3, .bool n] w fun r w' => r = .returned (.bool n) ∧ Below w.heap.size w w' := by
  have HB := Aside.intro (show Below w.heap.size w (w.alloc (.cells #[.int .u64 (F : Nat), .int .i64 ex, .bool t, .int .i64 mid] 170)) from below_alloc w _)
  go_enter Tryz.func140, Tryz.ntmps140
  go_wp2
  all_goals go_ret
  all_goals exact ⟨rfl, HB.out⟩

set_option maxHeartbeats 1000000 in
theorem out_away (F : Nat) (ex : Int) (t : Bool) (mid : Int) (n : Bool) (w : World) (b : Bool) (hb : decide (0 ≤ mid) = b) :
    Calls Tryz.prog 140 #[.agg #[.int .u64 (F : Nat), .int .i64 ex, .bool t, .int .i64 mid], .int .i64 4, .bool n] w fun r w' => r = .returned (.bool b) ∧ Below w.heap.size w w' := by
  have HB := Aside.intro (show Below w.heap.size w (w.alloc (.cells #[.int .u64 (F : Nat), .int .i64 ex, .bool t, .int .i64 mid] 170)) from below_alloc w _)
  go_enter Tryz.func140, Tryz.ntmps140
  go_wp2
  all_goals go_ret
  all_goals exact ⟨rfl, HB.out⟩

theorem goesOut_any (F : Nat) (ex : Int) (t : Bool) (mid mode : Int) (n : Bool) (w : World) (hF : F < 18446744073709551616) (hm : mid = -1 ∨ mid = 0 ∨ mid = 1) (h0 : 0 ≤ mode) (h4 : mode ≤ 4) :
    Calls Tryz.prog 140 #[.agg #[.int .u64 (F : Nat), .int .i64 ex, .bool t, .int .i64 mid], .int .i64 mode, .bool n] w fun r w' => r = .returned (.bool (outS mode F mid n)) ∧ Below w.heap.size w w' := by
  have hc : mode = 0 ∨ mode = 1 ∨ mode = 2 ∨ mode = 3 ∨ mode = 4 := by omega
  rcases hc with rfl | rfl | rfl | rfl | rfl
  · rcases hm with rfl | rfl | rfl
    · exact out_evenm F ex t n w
    · have e : (bits BinOp.and IntKind.u64 (F : Int) 1 == 1) = outS 0 F 0 n := by
        rw [and_one64 F hF]
        unfold outS
        rcases Nat.mod_two_eq_zero_or_one F with h | h <;> simp [h]
      exact out_even0 F ex t n w _ e
    · exact out_even1 F ex t n w
  · exact out_zero F ex t mid n w
  · exact out_up F ex t mid n w
  · exact out_down F ex t mid n w
  · exact out_away F ex t mid n w _ rfl
end Go.Proofs.YtmpakpdikkfofaaGreatDoor

/- dyad's round, Round. -/
namespace Go.Proofs.YtmpakpdikkfofaaGreatDoor
open Go.RowKit
set_option linter.unusedVariables false
set_option maxRecDepth 20000
set_option linter.unusedSimpArgs false

theorem round_begin (w : World) (n : Bool) (v : Value) (e a b c : Int) (W : World) (hW : W = (w.alloc (.cells #[.bool n, v, .int .i64 e] 90)).alloc (.cells #[.int .i64 a, .int .i64 b, .int .i64 c] 133)) :
    Below w.heap.size w W ∧ W.heap.size = w.heap.size + 2 ∧ Dk W w.heap.size n v e ∧ Wk W (w.heap.size + 1) a b c := by
  subst hW
  refine ⟨(below_alloc w _).alloc (by simp) _, by simp, (Dk.new w n v e).alloc _, ?_⟩
  unfold Wk
  have := heap_alloc_new (w.alloc (.cells #[.bool n, v, .int .i64 e] 90)) (.cells #[.int .i64 a, .int .i64 b, .int .i64 c] 133)
  simpa using this
theorem Wk.below {w w' : World} {g : Nat} {a b c : Int} (h : Wk w g a b c) (hb : Below w.heap.size w w') : Wk w' g a b c := by
  unfold Wk; rw [hb.block g (Array.getElem?_eq_some_iff.1 h).1]; exact h

set_option maxHeartbeats 1000000 in
theorem round_mode (n : Bool) (a : Option Addr) (l c : Nat) (e mode : Int) (w : World) (hm : mode < 0 ∨ 4 < mode) :
    Calls Tryz.prog 100 #[.agg #[.bool n, .slice a l c, .int .i64 e], .int .i64 mode, .agg #[.int .i64 53, .int .i64 (-1074), .int .i64 1024]] w fun r w' => r = .returned (.tuple #[.float .f64 0, .int .i64 1]) ∧ Below w.heap.size w w' := by
  have HB := Aside.intro (show Below w.heap.size w ((w.alloc (.cells #[.bool n, .slice a l c, .int .i64 e] 90)).alloc (.cells #[.int .i64 53, .int .i64 (-1074), .int .i64 1024] 133)) from (below_alloc w _).alloc (by simp) _)
  rcases hm with h | h
  · go_enter Tryz.func100, Tryz.ntmps100
    go_wp2
    go_ret2
    exact ⟨rfl, HB.out⟩
  · have h' : decide (mode < 0) = false := decide_eq_false (by omega)
    go_enter Tryz.func100, Tryz.ntmps100
    go_wp2
    go_ret2
    exact ⟨rfl, HB.out⟩

set_option maxHeartbeats 4000000 in
theorem round_err {w : World} {a : Option Addr} {l c : Nat} (n : Bool) (e mode : Int) (n1 : Bool) (X : Nat) (e1 er : Int) (lX : (ws X).length ≤ 8192) (hm0 : 0 ≤ mode) (hm4 : mode ≤ 4) (her : (er != 0) = true)
    (HF : Hid (∀ u, Below w.heap.size w u → Calls Tryz.prog 138 #[.agg #[.bool n, .slice a l c, .int .i64 e]] u fun r w' => (∃ v, r = .returned (.tuple #[.agg #[.bool n1, v, .int .i64 e1], .int .i64 er]) ∧ Nt u.heap.size w' v X) ∧ Below u.heap.size u w')) :
    Calls Tryz.prog 100 #[.agg #[.bool n, .slice a l c, .int .i64 e], .int .i64 mode, .agg #[.int .i64 53, .int .i64 (-1074), .int .i64 1024]] w fun r w' => r = .returned (.tuple #[.float .f64 0, .int .i64 er]) ∧ Below w.heap.size w w' := by
  obtain ⟨W1, hW1⟩ : ∃ W, W = (w.alloc (.cells #[.bool n, .slice a l c, .int .i64 e] 90)).alloc (.cells #[.int .i64 53, .int .i64 (-1074), .int .i64 1024] 133) := ⟨_, rfl⟩
  obtain ⟨hB, hz1, DD, DW⟩ := round_begin w n (.slice a l c) e 53 (-1074) 1024 W1 hW1
  have H1 := hid (HF.out W1 hB)
  have SB := (Aside.intro (And.intro hB (And.intro hz1 DW)))
  clear hB hz1 DD DW HF
  go_enter Tryz.func100, Tryz.ntmps100
  go_wp2_with fail
  rw [← hW1]
  clear hW1
  refine (Calls.mono H1.out) ?_
  rintro r u1 ⟨⟨v, rfl, hN⟩, hb⟩
  obtain ⟨a1, c1, rfl, _⟩ := hN.arg (by omega)
  obtain ⟨hB, hz1, DW⟩ := SB.out
  have SF := Aside.intro (hB.trans (hb.mono (by omega)))
  have hz : w.heap.size ≤ u1.heap.size := by have := hb.size; omega
  clear hN hb H1 hB hz1 DW SB
  go_wp2
  go_ret2
  exact ⟨rfl, SF.out.alloc hz _⟩

set_option maxHeartbeats 4000000 in
theorem round_none {w : World} {a : Option Addr} {l c : Nat} (n : Bool) (e mode : Int) (n1 : Bool) (X : Nat) (e1 : Int) (lX : (ws X).length = 0) (hm0 : 0 ≤ mode) (hm4 : mode ≤ 4)
    (HF : Hid (∀ u, Below w.heap.size w u → Calls Tryz.prog 138 #[.agg #[.bool n, .slice a l c, .int .i64 e]] u fun r w' => (∃ v, r = .returned (.tuple #[.agg #[.bool n1, v, .int .i64 e1], .int .i64 0]) ∧ Nt u.heap.size w' v X) ∧ Below u.heap.size u w')) :
    Calls Tryz.prog 100 #[.agg #[.bool n, .slice a l c, .int .i64 e], .int .i64 mode, .agg #[.int .i64 53, .int .i64 (-1074), .int .i64 1024]] w fun r w' => r = .returned (.tuple #[.float .f64 0, .int .i64 0]) ∧ Below w.heap.size w w' := by
  obtain ⟨W1, hW1⟩ : ∃ W, W = (w.alloc (.cells #[.bool n, .slice a l c, .int .i64 e] 90)).alloc (.cells #[.int .i64 53, .int .i64 (-1074), .int .i64 1024] 133) := ⟨_, rfl⟩
  obtain ⟨hB, hz1, DD, DW⟩ := round_begin w n (.slice a l c) e 53 (-1074) 1024 W1 hW1
  have H1 := hid (HF.out W1 hB)
  have SB := (Aside.intro (And.intro hB (And.intro hz1 DW)))
  clear hB hz1 DD DW HF
  go_enter Tryz.func100, Tryz.ntmps100
  go_wp2_with fail
  rw [← hW1]
  clear hW1
  refine (Calls.mono H1.out) ?_
  rintro r u1 ⟨⟨v, rfl, hN⟩, hb⟩
  obtain ⟨a1, c1, rfl, _⟩ := hN.arg (by omega)
  obtain ⟨hB, hz1, DW⟩ := SB.out
  have SF := Aside.intro (hB.trans (hb.mono (by omega)))
  have hz : w.heap.size ≤ u1.heap.size := by have := hb.size; omega
  clear hN hb H1 hB hz1 DW SB
  rw [lX]
  go_wp2
  go_ret2
  exact ⟨rfl, SF.out.alloc hz _⟩

set_option maxHeartbeats 4000000 in
theorem round_tf {w : World} {a : Option Addr} {l c : Nat} (n : Bool) (e mode : Int) (X : Nat) (e1 : Int) (lX : (ws X).length ≤ 8192) (hX : ((((ws X).length : Nat) : Int) == 0) = false) (hm0 : 0 ≤ mode) (hm4 : mode ≤ 4)
    (F cw K K2 : Nat) (ex mid : Int) (hF : F ≤ 9007199254740991) (ecv : floatOfInt .f64 (F : Int) = cw)
    (HF : Hid (∀ u, Below w.heap.size w u → Calls Tryz.prog 138 #[.agg #[.bool n, .slice a l c, .int .i64 e]] u fun r w' => (∃ v, r = .returned (.tuple #[.agg #[.bool false, v, .int .i64 e1], .int .i64 0]) ∧ Nt u.heap.size w' v X) ∧ Below u.heap.size u w'))
    (HP : Hid (∀ (u : World) (p : Option Addr) (q : Nat), Arg u p (ws X).length q (ws X) → Calls Tryz.prog 139 #[.agg #[.bool false, .slice p (ws X).length q, .int .i64 e1], .agg #[.int .i64 53, .int .i64 (-1074), .int .i64 1024]] u fun r w' => r = .returned (.agg #[.int .u64 (F : Nat), .int .i64 ex, .bool true, .int .i64 mid]) ∧ Below u.heap.size u w'))
    (HD : Hid (∀ u, Calls Tryz.prog 21 #[.float .f64 cw, .int .i64 ex] u fun r w' => r = .returned (.float .f64 K) ∧ w' = u)) :
    Calls Tryz.prog 100 #[.agg #[.bool n, .slice a l c, .int .i64 e], .int .i64 mode, .agg #[.int .i64 53, .int .i64 (-1074), .int .i64 1024]] w fun r w' => r = .returned (.tuple #[.float .f64 K, .int .i64 0]) ∧ Below w.heap.size w w' := by
  obtain ⟨W1, hW1⟩ : ∃ W, W = (w.alloc (.cells #[.bool n, .slice a l c, .int .i64 e] 90)).alloc (.cells #[.int .i64 53, .int .i64 (-1074), .int .i64 1024] 133) := ⟨_, rfl⟩
  obtain ⟨hB, hz1, DD, DW⟩ := round_begin w n (.slice a l c) e 53 (-1074) 1024 W1 hW1
  have H1 := hid (HF.out W1 hB)
  have SB := (Aside.intro (And.intro hB (And.intro hz1 DW)))
  clear hB hz1 DD DW HF
  go_enter Tryz.func100, Tryz.ntmps100
  go_wp2_with fail
  rw [← hW1]
  clear hW1
  refine (Calls.mono H1.out) ?_
  rintro r u1 ⟨⟨v, rfl, hN⟩, hb⟩
  obtain ⟨a1, c1, rfl, _⟩ := hN.arg (by omega)
  obtain ⟨hB, hz1, DW⟩ := SB.out
  obtain ⟨W2, hW2⟩ : ∃ W, W = u1.alloc (.cells #[.bool false, .slice a1 (ws X).length c1, .int .i64 e1] 90) := ⟨_, rfl⟩
  have hbW : Below u1.heap.size u1 W2 := by rw [hW2]; exact below_alloc u1 _
  have D2 : Dk W2 u1.heap.size false (.slice a1 (ws X).length c1) e1 := by rw [hW2]; exact Dk.new u1 _ _ _
  have V2 : Wk W2 (w.heap.size + 1) 53 (-1074) 1024 := (DW.below hb).below hbW
  have hB2 : Below w.heap.size w W2 := (hB.trans (hb.mono (by omega))).trans (hbW.mono (by have := hb.size; omega))
  have H2 := hid (HP.out W2 a1 c1 ((hN.below hbW).arg' (by omega)).2)
  obtain ⟨x0, x1, x2, xf0, xf1, xf2⟩ := D2.facts
  obtain ⟨y0, y1, y2⟩ := V2.facts
  obtain ⟨t0, t1, t2⟩ := (DW.below hb).facts
  have hzu : w.heap.size + 1 < u1.heap.size := by have := hb.size; omega
  have hzz : w.heap.size ≤ u1.heap.size := by have := hb.size; omega
  have hz4 : u1.heap.size < W2.heap.size := D2.lt
  have S2 := (Aside.intro (And.intro hB2 D2))
  clear hN hb H1 hB hz1 DW SB hbW D2 V2 hB2 HP
  go_wp2_with fail
  rw [← hW2]
  clear hW2
  refine (Calls.mono H2.out) ?_
  rintro r u2 ⟨rfl, hb⟩
  obtain ⟨W3, hW3⟩ : ∃ W, W = u2.alloc (.cells #[.int .u64 (F : Nat), .int .i64 ex, .bool true, .int .i64 mid] 170) := ⟨_, rfl⟩
  have hbW : Below u2.heap.size u2 W3 := by rw [hW3]; exact below_alloc u2 _
  have P3 : Pk W3 u2.heap.size (F : Nat) ex true mid := by rw [hW3]; exact heap_alloc_new _ _
  have D3 := (S2.out.2.below hb).below hbW
  have hB3 : Below w.heap.size w W3 := (S2.out.1.trans (hb.mono (by omega))).trans (hbW.mono (by have := hb.size; omega))
  have hz6 : u1.heap.size < u2.heap.size := by have := hb.size; omega
  obtain ⟨q0, q1, q2, q3, qf0, qf1, qf2, qf3⟩ := P3.facts
  obtain ⟨d0, d1, d2, df0, df1, df2⟩ := D3.facts
  have hz5 : w.heap.size ≤ u2.heap.size := by omega
  have hz7 : u2.heap.size < W3.heap.size := P3.lt
  have S3 := (Aside.intro (And.intro hB3 (And.intro P3 D3)))
  clear hb hbW P3 D3 hB3 S2 H2 x0 x1 x2 xf0 xf1 xf2 y0 y1 y2
  go_upto_region 7 with fail
  rw [← hW3]
  clear hW3
  go_wp2_with fail
  try simp only [ecv]
  refine (Calls.mono (HD.out _)) ?_
  rintro r ww ⟨rfl, hw⟩
  rw [hw]
  clear hw ww HD
  go_wp2
  go_ret2
  exact ⟨rfl, S3.out.1⟩

set_option maxHeartbeats 4000000 in
theorem round_tt {w : World} {a : Option Addr} {l c : Nat} (n : Bool) (e mode : Int) (X : Nat) (e1 : Int) (lX : (ws X).length ≤ 8192) (hX : ((((ws X).length : Nat) : Int) == 0) = false) (hm0 : 0 ≤ mode) (hm4 : mode ≤ 4)
    (F cw K K2 : Nat) (ex mid : Int) (hF : F ≤ 9007199254740991) (ecv : floatOfInt .f64 (F : Int) = cw)
    (HF : Hid (∀ u, Below w.heap.size w u → Calls Tryz.prog 138 #[.agg #[.bool n, .slice a l c, .int .i64 e]] u fun r w' => (∃ v, r = .returned (.tuple #[.agg #[.bool true, v, .int .i64 e1], .int .i64 0]) ∧ Nt u.heap.size w' v X) ∧ Below u.heap.size u w'))
    (HP : Hid (∀ (u : World) (p : Option Addr) (q : Nat), Arg u p (ws X).length q (ws X) → Calls Tryz.prog 139 #[.agg #[.bool true, .slice p (ws X).length q, .int .i64 e1], .agg #[.int .i64 53, .int .i64 (-1074), .int .i64 1024]] u fun r w' => r = .returned (.agg #[.int .u64 (F : Nat), .int .i64 ex, .bool true, .int .i64 mid]) ∧ Below u.heap.size u w'))
    (HD : Hid (∀ u, Calls Tryz.prog 21 #[.float .f64 cw, .int .i64 ex] u fun r w' => r = .returned (.float .f64 K) ∧ w' = u))
    (HC : Hid (∀ u, Calls Tryz.prog 89 #[.float .f64 K, .float .f64 13830554455654793216] u fun r w' => r = .returned (.float .f64 K2) ∧ w' = u)) :
    Calls Tryz.prog 100 #[.agg #[.bool n, .slice a l c, .int .i64 e], .int .i64 mode, .agg #[.int .i64 53, .int .i64 (-1074), .int .i64 1024]] w fun r w' => r = .returned (.tuple #[.float .f64 K2, .int .i64 0]) ∧ Below w.heap.size w w' := by
  obtain ⟨W1, hW1⟩ : ∃ W, W = (w.alloc (.cells #[.bool n, .slice a l c, .int .i64 e] 90)).alloc (.cells #[.int .i64 53, .int .i64 (-1074), .int .i64 1024] 133) := ⟨_, rfl⟩
  obtain ⟨hB, hz1, DD, DW⟩ := round_begin w n (.slice a l c) e 53 (-1074) 1024 W1 hW1
  have H1 := hid (HF.out W1 hB)
  have SB := (Aside.intro (And.intro hB (And.intro hz1 DW)))
  clear hB hz1 DD DW HF
  go_enter Tryz.func100, Tryz.ntmps100
  go_wp2_with fail
  rw [← hW1]
  clear hW1
  refine (Calls.mono H1.out) ?_
  rintro r u1 ⟨⟨v, rfl, hN⟩, hb⟩
  obtain ⟨a1, c1, rfl, _⟩ := hN.arg (by omega)
  obtain ⟨hB, hz1, DW⟩ := SB.out
  obtain ⟨W2, hW2⟩ : ∃ W, W = u1.alloc (.cells #[.bool true, .slice a1 (ws X).length c1, .int .i64 e1] 90) := ⟨_, rfl⟩
  have hbW : Below u1.heap.size u1 W2 := by rw [hW2]; exact below_alloc u1 _
  have D2 : Dk W2 u1.heap.size true (.slice a1 (ws X).length c1) e1 := by rw [hW2]; exact Dk.new u1 _ _ _
  have V2 : Wk W2 (w.heap.size + 1) 53 (-1074) 1024 := (DW.below hb).below hbW
  have hB2 : Below w.heap.size w W2 := (hB.trans (hb.mono (by omega))).trans (hbW.mono (by have := hb.size; omega))
  have H2 := hid (HP.out W2 a1 c1 ((hN.below hbW).arg' (by omega)).2)
  obtain ⟨x0, x1, x2, xf0, xf1, xf2⟩ := D2.facts
  obtain ⟨y0, y1, y2⟩ := V2.facts
  obtain ⟨t0, t1, t2⟩ := (DW.below hb).facts
  have hzu : w.heap.size + 1 < u1.heap.size := by have := hb.size; omega
  have hzz : w.heap.size ≤ u1.heap.size := by have := hb.size; omega
  have hz4 : u1.heap.size < W2.heap.size := D2.lt
  have S2 := (Aside.intro (And.intro hB2 D2))
  clear hN hb H1 hB hz1 DW SB hbW D2 V2 hB2 HP
  go_wp2_with fail
  rw [← hW2]
  clear hW2
  refine (Calls.mono H2.out) ?_
  rintro r u2 ⟨rfl, hb⟩
  obtain ⟨W3, hW3⟩ : ∃ W, W = u2.alloc (.cells #[.int .u64 (F : Nat), .int .i64 ex, .bool true, .int .i64 mid] 170) := ⟨_, rfl⟩
  have hbW : Below u2.heap.size u2 W3 := by rw [hW3]; exact below_alloc u2 _
  have P3 : Pk W3 u2.heap.size (F : Nat) ex true mid := by rw [hW3]; exact heap_alloc_new _ _
  have D3 := (S2.out.2.below hb).below hbW
  have hB3 : Below w.heap.size w W3 := (S2.out.1.trans (hb.mono (by omega))).trans (hbW.mono (by have := hb.size; omega))
  have hz6 : u1.heap.size < u2.heap.size := by have := hb.size; omega
  obtain ⟨q0, q1, q2, q3, qf0, qf1, qf2, qf3⟩ := P3.facts
  obtain ⟨d0, d1, d2, df0, df1, df2⟩ := D3.facts
  have hz5 : w.heap.size ≤ u2.heap.size := by omega
  have hz7 : u2.heap.size < W3.heap.size := P3.lt
  have S3 := (Aside.intro (And.intro hB3 (And.intro P3 D3)))
  clear hb hbW P3 D3 hB3 S2 H2 x0 x1 x2 xf0 xf1 xf2 y0 y1 y2
  go_upto_region 7 with fail
  rw [← hW3]
  clear hW3
  go_wp2_with fail
  try simp only [ecv]
  refine (Calls.mono (HD.out _)) ?_
  rintro r ww ⟨rfl, hw⟩
  rw [hw]
  clear hw ww HD
  go_wp2_with fail
  refine (Calls.mono (HC.out _)) ?_
  rintro r ww ⟨rfl, hw⟩
  rw [hw]
  clear hw ww HC
  go_wp2
  go_ret2
  exact ⟨rfl, S3.out.1⟩

set_option maxHeartbeats 4000000 in
theorem round_fff {w : World} {a : Option Addr} {l c : Nat} (n : Bool) (e mode : Int) (X : Nat) (e1 : Int) (lX : (ws X).length ≤ 8192) (hX : ((((ws X).length : Nat) : Int) == 0) = false) (hm0 : 0 ≤ mode) (hm4 : mode ≤ 4)
    (F cw K K2 : Nat) (ex mid : Int) (hF : F ≤ 9007199254740991) (ecv : floatOfInt .f64 (F : Int) = cw)
    (HF : Hid (∀ u, Below w.heap.size w u → Calls Tryz.prog 138 #[.agg #[.bool n, .slice a l c, .int .i64 e]] u fun r w' => (∃ v, r = .returned (.tuple #[.agg #[.bool false, v, .int .i64 e1], .int .i64 0]) ∧ Nt u.heap.size w' v X) ∧ Below u.heap.size u w'))
    (HP : Hid (∀ (u : World) (p : Option Addr) (q : Nat), Arg u p (ws X).length q (ws X) → Calls Tryz.prog 139 #[.agg #[.bool false, .slice p (ws X).length q, .int .i64 e1], .agg #[.int .i64 53, .int .i64 (-1074), .int .i64 1024]] u fun r w' => r = .returned (.agg #[.int .u64 (F : Nat), .int .i64 ex, .bool false, .int .i64 mid]) ∧ Below u.heap.size u w'))
    (HG : Hid (∀ u, Calls Tryz.prog 140 #[.agg #[.int .u64 (F : Nat), .int .i64 ex, .bool false, .int .i64 mid], .int .i64 mode, .bool false] u fun r w' => r = .returned (.bool false) ∧ Below u.heap.size u w'))
    (HD : Hid (∀ u, Calls Tryz.prog 21 #[.float .f64 cw, .int .i64 ex] u fun r w' => r = .returned (.float .f64 K) ∧ w' = u)) :
    Calls Tryz.prog 100 #[.agg #[.bool n, .slice a l c, .int .i64 e], .int .i64 mode, .agg #[.int .i64 53, .int .i64 (-1074), .int .i64 1024]] w fun r w' => r = .returned (.tuple #[.float .f64 K, .int .i64 0]) ∧ Below w.heap.size w w' := by
  obtain ⟨W1, hW1⟩ : ∃ W, W = (w.alloc (.cells #[.bool n, .slice a l c, .int .i64 e] 90)).alloc (.cells #[.int .i64 53, .int .i64 (-1074), .int .i64 1024] 133) := ⟨_, rfl⟩
  obtain ⟨hB, hz1, DD, DW⟩ := round_begin w n (.slice a l c) e 53 (-1074) 1024 W1 hW1
  have H1 := hid (HF.out W1 hB)
  have SB := (Aside.intro (And.intro hB (And.intro hz1 DW)))
  clear hB hz1 DD DW HF
  go_enter Tryz.func100, Tryz.ntmps100
  go_wp2_with fail
  rw [← hW1]
  clear hW1
  refine (Calls.mono H1.out) ?_
  rintro r u1 ⟨⟨v, rfl, hN⟩, hb⟩
  obtain ⟨a1, c1, rfl, _⟩ := hN.arg (by omega)
  obtain ⟨hB, hz1, DW⟩ := SB.out
  obtain ⟨W2, hW2⟩ : ∃ W, W = u1.alloc (.cells #[.bool false, .slice a1 (ws X).length c1, .int .i64 e1] 90) := ⟨_, rfl⟩
  have hbW : Below u1.heap.size u1 W2 := by rw [hW2]; exact below_alloc u1 _
  have D2 : Dk W2 u1.heap.size false (.slice a1 (ws X).length c1) e1 := by rw [hW2]; exact Dk.new u1 _ _ _
  have V2 : Wk W2 (w.heap.size + 1) 53 (-1074) 1024 := (DW.below hb).below hbW
  have hB2 : Below w.heap.size w W2 := (hB.trans (hb.mono (by omega))).trans (hbW.mono (by have := hb.size; omega))
  have H2 := hid (HP.out W2 a1 c1 ((hN.below hbW).arg' (by omega)).2)
  obtain ⟨x0, x1, x2, xf0, xf1, xf2⟩ := D2.facts
  obtain ⟨y0, y1, y2⟩ := V2.facts
  obtain ⟨t0, t1, t2⟩ := (DW.below hb).facts
  have hzu : w.heap.size + 1 < u1.heap.size := by have := hb.size; omega
  have hzz : w.heap.size ≤ u1.heap.size := by have := hb.size; omega
  have hz4 : u1.heap.size < W2.heap.size := D2.lt
  have S2 := (Aside.intro (And.intro hB2 D2))
  clear hN hb H1 hB hz1 DW SB hbW D2 V2 hB2 HP
  go_wp2_with fail
  rw [← hW2]
  clear hW2
  refine (Calls.mono H2.out) ?_
  rintro r u2 ⟨rfl, hb⟩
  obtain ⟨W3, hW3⟩ : ∃ W, W = u2.alloc (.cells #[.int .u64 (F : Nat), .int .i64 ex, .bool false, .int .i64 mid] 170) := ⟨_, rfl⟩
  have hbW : Below u2.heap.size u2 W3 := by rw [hW3]; exact below_alloc u2 _
  have P3 : Pk W3 u2.heap.size (F : Nat) ex false mid := by rw [hW3]; exact heap_alloc_new _ _
  have D3 := (S2.out.2.below hb).below hbW
  have hB3 : Below w.heap.size w W3 := (S2.out.1.trans (hb.mono (by omega))).trans (hbW.mono (by have := hb.size; omega))
  have hz6 : u1.heap.size < u2.heap.size := by have := hb.size; omega
  obtain ⟨q0, q1, q2, q3, qf0, qf1, qf2, qf3⟩ := P3.facts
  obtain ⟨d0, d1, d2, df0, df1, df2⟩ := D3.facts
  have hz5 : w.heap.size ≤ u2.heap.size := by omega
  have hz7 : u2.heap.size < W3.heap.size := P3.lt
  have S3 := (Aside.intro (And.intro hB3 (And.intro P3 D3)))
  clear hb hbW P3 D3 hB3 S2 H2 x0 x1 x2 xf0 xf1 xf2 y0 y1 y2
  go_upto_region 7 with fail
  rw [← hW3]
  clear hW3
  go_wp2_with fail
  refine (Calls.mono (HG.out _)) ?_
  rintro r u3 ⟨rfl, hb⟩
  have P4 := S3.out.2.1.below hb
  have D4 := S3.out.2.2.below hb
  have hB4 : Below w.heap.size w u3 := S3.out.1.trans (hb.mono (by omega))
  have hz8 : w.heap.size ≤ u3.heap.size := by have := hb.size; omega
  obtain ⟨r0, r1, r2, r3, rf0, rf1, rf2, rf3⟩ := P4.facts
  obtain ⟨s0, s1, s2, sf0, sf1, sf2⟩ := D4.facts
  have S4 := Aside.intro hB4
  clear hb P4 D4 hB4 S3 HG q0 q1 q2 q3 qf0 qf1 qf2 qf3 d0 d1 d2 df0 df1 df2
  go_wp2_with fail
  try simp only [ecv]
  refine (Calls.mono (HD.out _)) ?_
  rintro r ww ⟨rfl, hw⟩
  rw [hw]
  clear hw ww HD
  go_wp2
  go_ret2
  exact ⟨rfl, S4.out⟩

set_option maxHeartbeats 4000000 in
theorem round_fft {w : World} {a : Option Addr} {l c : Nat} (n : Bool) (e mode : Int) (X : Nat) (e1 : Int) (lX : (ws X).length ≤ 8192) (hX : ((((ws X).length : Nat) : Int) == 0) = false) (hm0 : 0 ≤ mode) (hm4 : mode ≤ 4)
    (F cw K K2 : Nat) (ex mid : Int) (hF : F ≤ 9007199254740991) (ecv : floatOfInt .f64 (F : Int) = cw)
    (HF : Hid (∀ u, Below w.heap.size w u → Calls Tryz.prog 138 #[.agg #[.bool n, .slice a l c, .int .i64 e]] u fun r w' => (∃ v, r = .returned (.tuple #[.agg #[.bool true, v, .int .i64 e1], .int .i64 0]) ∧ Nt u.heap.size w' v X) ∧ Below u.heap.size u w'))
    (HP : Hid (∀ (u : World) (p : Option Addr) (q : Nat), Arg u p (ws X).length q (ws X) → Calls Tryz.prog 139 #[.agg #[.bool true, .slice p (ws X).length q, .int .i64 e1], .agg #[.int .i64 53, .int .i64 (-1074), .int .i64 1024]] u fun r w' => r = .returned (.agg #[.int .u64 (F : Nat), .int .i64 ex, .bool false, .int .i64 mid]) ∧ Below u.heap.size u w'))
    (HG : Hid (∀ u, Calls Tryz.prog 140 #[.agg #[.int .u64 (F : Nat), .int .i64 ex, .bool false, .int .i64 mid], .int .i64 mode, .bool true] u fun r w' => r = .returned (.bool false) ∧ Below u.heap.size u w'))
    (HD : Hid (∀ u, Calls Tryz.prog 21 #[.float .f64 cw, .int .i64 ex] u fun r w' => r = .returned (.float .f64 K) ∧ w' = u))
    (HC : Hid (∀ u, Calls Tryz.prog 89 #[.float .f64 K, .float .f64 13830554455654793216] u fun r w' => r = .returned (.float .f64 K2) ∧ w' = u)) :
    Calls Tryz.prog 100 #[.agg #[.bool n, .slice a l c, .int .i64 e], .int .i64 mode, .agg #[.int .i64 53, .int .i64 (-1074), .int .i64 1024]] w fun r w' => r = .returned (.tuple #[.float .f64 K2, .int .i64 0]) ∧ Below w.heap.size w w' := by
  obtain ⟨W1, hW1⟩ : ∃ W, W = (w.alloc (.cells #[.bool n, .slice a l c, .int .i64 e] 90)).alloc (.cells #[.int .i64 53, .int .i64 (-1074), .int .i64 1024] 133) := ⟨_, rfl⟩
  obtain ⟨hB, hz1, DD, DW⟩ := round_begin w n (.slice a l c) e 53 (-1074) 1024 W1 hW1
  have H1 := hid (HF.out W1 hB)
  have SB := (Aside.intro (And.intro hB (And.intro hz1 DW)))
  clear hB hz1 DD DW HF
  go_enter Tryz.func100, Tryz.ntmps100
  go_wp2_with fail
  rw [← hW1]
  clear hW1
  refine (Calls.mono H1.out) ?_
  rintro r u1 ⟨⟨v, rfl, hN⟩, hb⟩
  obtain ⟨a1, c1, rfl, _⟩ := hN.arg (by omega)
  obtain ⟨hB, hz1, DW⟩ := SB.out
  obtain ⟨W2, hW2⟩ : ∃ W, W = u1.alloc (.cells #[.bool true, .slice a1 (ws X).length c1, .int .i64 e1] 90) := ⟨_, rfl⟩
  have hbW : Below u1.heap.size u1 W2 := by rw [hW2]; exact below_alloc u1 _
  have D2 : Dk W2 u1.heap.size true (.slice a1 (ws X).length c1) e1 := by rw [hW2]; exact Dk.new u1 _ _ _
  have V2 : Wk W2 (w.heap.size + 1) 53 (-1074) 1024 := (DW.below hb).below hbW
  have hB2 : Below w.heap.size w W2 := (hB.trans (hb.mono (by omega))).trans (hbW.mono (by have := hb.size; omega))
  have H2 := hid (HP.out W2 a1 c1 ((hN.below hbW).arg' (by omega)).2)
  obtain ⟨x0, x1, x2, xf0, xf1, xf2⟩ := D2.facts
  obtain ⟨y0, y1, y2⟩ := V2.facts
  obtain ⟨t0, t1, t2⟩ := (DW.below hb).facts
  have hzu : w.heap.size + 1 < u1.heap.size := by have := hb.size; omega
  have hzz : w.heap.size ≤ u1.heap.size := by have := hb.size; omega
  have hz4 : u1.heap.size < W2.heap.size := D2.lt
  have S2 := (Aside.intro (And.intro hB2 D2))
  clear hN hb H1 hB hz1 DW SB hbW D2 V2 hB2 HP
  go_wp2_with fail
  rw [← hW2]
  clear hW2
  refine (Calls.mono H2.out) ?_
  rintro r u2 ⟨rfl, hb⟩
  obtain ⟨W3, hW3⟩ : ∃ W, W = u2.alloc (.cells #[.int .u64 (F : Nat), .int .i64 ex, .bool false, .int .i64 mid] 170) := ⟨_, rfl⟩
  have hbW : Below u2.heap.size u2 W3 := by rw [hW3]; exact below_alloc u2 _
  have P3 : Pk W3 u2.heap.size (F : Nat) ex false mid := by rw [hW3]; exact heap_alloc_new _ _
  have D3 := (S2.out.2.below hb).below hbW
  have hB3 : Below w.heap.size w W3 := (S2.out.1.trans (hb.mono (by omega))).trans (hbW.mono (by have := hb.size; omega))
  have hz6 : u1.heap.size < u2.heap.size := by have := hb.size; omega
  obtain ⟨q0, q1, q2, q3, qf0, qf1, qf2, qf3⟩ := P3.facts
  obtain ⟨d0, d1, d2, df0, df1, df2⟩ := D3.facts
  have hz5 : w.heap.size ≤ u2.heap.size := by omega
  have hz7 : u2.heap.size < W3.heap.size := P3.lt
  have S3 := (Aside.intro (And.intro hB3 (And.intro P3 D3)))
  clear hb hbW P3 D3 hB3 S2 H2 x0 x1 x2 xf0 xf1 xf2 y0 y1 y2
  go_upto_region 7 with fail
  rw [← hW3]
  clear hW3
  go_wp2_with fail
  refine (Calls.mono (HG.out _)) ?_
  rintro r u3 ⟨rfl, hb⟩
  have P4 := S3.out.2.1.below hb
  have D4 := S3.out.2.2.below hb
  have hB4 : Below w.heap.size w u3 := S3.out.1.trans (hb.mono (by omega))
  have hz8 : w.heap.size ≤ u3.heap.size := by have := hb.size; omega
  obtain ⟨r0, r1, r2, r3, rf0, rf1, rf2, rf3⟩ := P4.facts
  obtain ⟨s0, s1, s2, sf0, sf1, sf2⟩ := D4.facts
  have S4 := Aside.intro hB4
  clear hb P4 D4 hB4 S3 HG q0 q1 q2 q3 qf0 qf1 qf2 qf3 d0 d1 d2 df0 df1 df2
  go_wp2_with fail
  try simp only [ecv]
  refine (Calls.mono (HD.out _)) ?_
  rintro r ww ⟨rfl, hw⟩
  rw [hw]
  clear hw ww HD
  go_wp2_with fail
  refine (Calls.mono (HC.out _)) ?_
  rintro r ww ⟨rfl, hw⟩
  rw [hw]
  clear hw ww HC
  go_wp2
  go_ret2
  exact ⟨rfl, S4.out⟩

set_option maxHeartbeats 4000000 in
theorem round_ftf {w : World} {a : Option Addr} {l c : Nat} (n : Bool) (e mode : Int) (X : Nat) (e1 : Int) (lX : (ws X).length ≤ 8192) (hX : ((((ws X).length : Nat) : Int) == 0) = false) (hm0 : 0 ≤ mode) (hm4 : mode ≤ 4)
    (F cw K K2 : Nat) (ex mid : Int) (hF : F ≤ 9007199254740991) (ecv : floatOfInt .f64 ((F : Int) + 1) = cw)
    (HF : Hid (∀ u, Below w.heap.size w u → Calls Tryz.prog 138 #[.agg #[.bool n, .slice a l c, .int .i64 e]] u fun r w' => (∃ v, r = .returned (.tuple #[.agg #[.bool false, v, .int .i64 e1], .int .i64 0]) ∧ Nt u.heap.size w' v X) ∧ Below u.heap.size u w'))
    (HP : Hid (∀ (u : World) (p : Option Addr) (q : Nat), Arg u p (ws X).length q (ws X) → Calls Tryz.prog 139 #[.agg #[.bool false, .slice p (ws X).length q, .int .i64 e1], .agg #[.int .i64 53, .int .i64 (-1074), .int .i64 1024]] u fun r w' => r = .returned (.agg #[.int .u64 (F : Nat), .int .i64 ex, .bool false, .int .i64 mid]) ∧ Below u.heap.size u w'))
    (HG : Hid (∀ u, Calls Tryz.prog 140 #[.agg #[.int .u64 (F : Nat), .int .i64 ex, .bool false, .int .i64 mid], .int .i64 mode, .bool false] u fun r w' => r = .returned (.bool true) ∧ Below u.heap.size u w'))
    (HD : Hid (∀ u, Calls Tryz.prog 21 #[.float .f64 cw, .int .i64 ex] u fun r w' => r = .returned (.float .f64 K) ∧ w' = u)) :
    Calls Tryz.prog 100 #[.agg #[.bool n, .slice a l c, .int .i64 e], .int .i64 mode, .agg #[.int .i64 53, .int .i64 (-1074), .int .i64 1024]] w fun r w' => r = .returned (.tuple #[.float .f64 K, .int .i64 0]) ∧ Below w.heap.size w w' := by
  obtain ⟨W1, hW1⟩ : ∃ W, W = (w.alloc (.cells #[.bool n, .slice a l c, .int .i64 e] 90)).alloc (.cells #[.int .i64 53, .int .i64 (-1074), .int .i64 1024] 133) := ⟨_, rfl⟩
  obtain ⟨hB, hz1, DD, DW⟩ := round_begin w n (.slice a l c) e 53 (-1074) 1024 W1 hW1
  have H1 := hid (HF.out W1 hB)
  have SB := (Aside.intro (And.intro hB (And.intro hz1 DW)))
  clear hB hz1 DD DW HF
  go_enter Tryz.func100, Tryz.ntmps100
  go_wp2_with fail
  rw [← hW1]
  clear hW1
  refine (Calls.mono H1.out) ?_
  rintro r u1 ⟨⟨v, rfl, hN⟩, hb⟩
  obtain ⟨a1, c1, rfl, _⟩ := hN.arg (by omega)
  obtain ⟨hB, hz1, DW⟩ := SB.out
  obtain ⟨W2, hW2⟩ : ∃ W, W = u1.alloc (.cells #[.bool false, .slice a1 (ws X).length c1, .int .i64 e1] 90) := ⟨_, rfl⟩
  have hbW : Below u1.heap.size u1 W2 := by rw [hW2]; exact below_alloc u1 _
  have D2 : Dk W2 u1.heap.size false (.slice a1 (ws X).length c1) e1 := by rw [hW2]; exact Dk.new u1 _ _ _
  have V2 : Wk W2 (w.heap.size + 1) 53 (-1074) 1024 := (DW.below hb).below hbW
  have hB2 : Below w.heap.size w W2 := (hB.trans (hb.mono (by omega))).trans (hbW.mono (by have := hb.size; omega))
  have H2 := hid (HP.out W2 a1 c1 ((hN.below hbW).arg' (by omega)).2)
  obtain ⟨x0, x1, x2, xf0, xf1, xf2⟩ := D2.facts
  obtain ⟨y0, y1, y2⟩ := V2.facts
  obtain ⟨t0, t1, t2⟩ := (DW.below hb).facts
  have hzu : w.heap.size + 1 < u1.heap.size := by have := hb.size; omega
  have hzz : w.heap.size ≤ u1.heap.size := by have := hb.size; omega
  have hz4 : u1.heap.size < W2.heap.size := D2.lt
  have S2 := (Aside.intro (And.intro hB2 D2))
  clear hN hb H1 hB hz1 DW SB hbW D2 V2 hB2 HP
  go_wp2_with fail
  rw [← hW2]
  clear hW2
  refine (Calls.mono H2.out) ?_
  rintro r u2 ⟨rfl, hb⟩
  obtain ⟨W3, hW3⟩ : ∃ W, W = u2.alloc (.cells #[.int .u64 (F : Nat), .int .i64 ex, .bool false, .int .i64 mid] 170) := ⟨_, rfl⟩
  have hbW : Below u2.heap.size u2 W3 := by rw [hW3]; exact below_alloc u2 _
  have P3 : Pk W3 u2.heap.size (F : Nat) ex false mid := by rw [hW3]; exact heap_alloc_new _ _
  have D3 := (S2.out.2.below hb).below hbW
  have hB3 : Below w.heap.size w W3 := (S2.out.1.trans (hb.mono (by omega))).trans (hbW.mono (by have := hb.size; omega))
  have hz6 : u1.heap.size < u2.heap.size := by have := hb.size; omega
  obtain ⟨q0, q1, q2, q3, qf0, qf1, qf2, qf3⟩ := P3.facts
  obtain ⟨d0, d1, d2, df0, df1, df2⟩ := D3.facts
  have hz5 : w.heap.size ≤ u2.heap.size := by omega
  have hz7 : u2.heap.size < W3.heap.size := P3.lt
  have S3 := (Aside.intro (And.intro hB3 (And.intro P3 D3)))
  clear hb hbW P3 D3 hB3 S2 H2 x0 x1 x2 xf0 xf1 xf2 y0 y1 y2
  go_upto_region 7 with fail
  rw [← hW3]
  clear hW3
  go_wp2_with fail
  refine (Calls.mono (HG.out _)) ?_
  rintro r u3 ⟨rfl, hb⟩
  have P4 := S3.out.2.1.below hb
  have D4 := S3.out.2.2.below hb
  have hB4 : Below w.heap.size w u3 := S3.out.1.trans (hb.mono (by omega))
  have hz8 : w.heap.size ≤ u3.heap.size := by have := hb.size; omega
  obtain ⟨r0, r1, r2, r3, rf0, rf1, rf2, rf3⟩ := P4.facts
  obtain ⟨s0, s1, s2, sf0, sf1, sf2⟩ := D4.facts
  have S4 := Aside.intro hB4
  clear hb P4 D4 hB4 S3 HG q0 q1 q2 q3 qf0 qf1 qf2 qf3 d0 d1 d2 df0 df1 df2
  go_wp2_with fail
  try simp only [ecv]
  refine (Calls.mono (HD.out _)) ?_
  rintro r ww ⟨rfl, hw⟩
  rw [hw]
  clear hw ww HD
  go_wp2
  go_ret2
  exact ⟨rfl, Below.setC S4.out _ _ _ hz5 hz8⟩

set_option maxHeartbeats 4000000 in
theorem round_ftt {w : World} {a : Option Addr} {l c : Nat} (n : Bool) (e mode : Int) (X : Nat) (e1 : Int) (lX : (ws X).length ≤ 8192) (hX : ((((ws X).length : Nat) : Int) == 0) = false) (hm0 : 0 ≤ mode) (hm4 : mode ≤ 4)
    (F cw K K2 : Nat) (ex mid : Int) (hF : F ≤ 9007199254740991) (ecv : floatOfInt .f64 ((F : Int) + 1) = cw)
    (HF : Hid (∀ u, Below w.heap.size w u → Calls Tryz.prog 138 #[.agg #[.bool n, .slice a l c, .int .i64 e]] u fun r w' => (∃ v, r = .returned (.tuple #[.agg #[.bool true, v, .int .i64 e1], .int .i64 0]) ∧ Nt u.heap.size w' v X) ∧ Below u.heap.size u w'))
    (HP : Hid (∀ (u : World) (p : Option Addr) (q : Nat), Arg u p (ws X).length q (ws X) → Calls Tryz.prog 139 #[.agg #[.bool true, .slice p (ws X).length q, .int .i64 e1], .agg #[.int .i64 53, .int .i64 (-1074), .int .i64 1024]] u fun r w' => r = .returned (.agg #[.int .u64 (F : Nat), .int .i64 ex, .bool false, .int .i64 mid]) ∧ Below u.heap.size u w'))
    (HG : Hid (∀ u, Calls Tryz.prog 140 #[.agg #[.int .u64 (F : Nat), .int .i64 ex, .bool false, .int .i64 mid], .int .i64 mode, .bool true] u fun r w' => r = .returned (.bool true) ∧ Below u.heap.size u w'))
    (HD : Hid (∀ u, Calls Tryz.prog 21 #[.float .f64 cw, .int .i64 ex] u fun r w' => r = .returned (.float .f64 K) ∧ w' = u))
    (HC : Hid (∀ u, Calls Tryz.prog 89 #[.float .f64 K, .float .f64 13830554455654793216] u fun r w' => r = .returned (.float .f64 K2) ∧ w' = u)) :
    Calls Tryz.prog 100 #[.agg #[.bool n, .slice a l c, .int .i64 e], .int .i64 mode, .agg #[.int .i64 53, .int .i64 (-1074), .int .i64 1024]] w fun r w' => r = .returned (.tuple #[.float .f64 K2, .int .i64 0]) ∧ Below w.heap.size w w' := by
  obtain ⟨W1, hW1⟩ : ∃ W, W = (w.alloc (.cells #[.bool n, .slice a l c, .int .i64 e] 90)).alloc (.cells #[.int .i64 53, .int .i64 (-1074), .int .i64 1024] 133) := ⟨_, rfl⟩
  obtain ⟨hB, hz1, DD, DW⟩ := round_begin w n (.slice a l c) e 53 (-1074) 1024 W1 hW1
  have H1 := hid (HF.out W1 hB)
  have SB := (Aside.intro (And.intro hB (And.intro hz1 DW)))
  clear hB hz1 DD DW HF
  go_enter Tryz.func100, Tryz.ntmps100
  go_wp2_with fail
  rw [← hW1]
  clear hW1
  refine (Calls.mono H1.out) ?_
  rintro r u1 ⟨⟨v, rfl, hN⟩, hb⟩
  obtain ⟨a1, c1, rfl, _⟩ := hN.arg (by omega)
  obtain ⟨hB, hz1, DW⟩ := SB.out
  obtain ⟨W2, hW2⟩ : ∃ W, W = u1.alloc (.cells #[.bool true, .slice a1 (ws X).length c1, .int .i64 e1] 90) := ⟨_, rfl⟩
  have hbW : Below u1.heap.size u1 W2 := by rw [hW2]; exact below_alloc u1 _
  have D2 : Dk W2 u1.heap.size true (.slice a1 (ws X).length c1) e1 := by rw [hW2]; exact Dk.new u1 _ _ _
  have V2 : Wk W2 (w.heap.size + 1) 53 (-1074) 1024 := (DW.below hb).below hbW
  have hB2 : Below w.heap.size w W2 := (hB.trans (hb.mono (by omega))).trans (hbW.mono (by have := hb.size; omega))
  have H2 := hid (HP.out W2 a1 c1 ((hN.below hbW).arg' (by omega)).2)
  obtain ⟨x0, x1, x2, xf0, xf1, xf2⟩ := D2.facts
  obtain ⟨y0, y1, y2⟩ := V2.facts
  obtain ⟨t0, t1, t2⟩ := (DW.below hb).facts
  have hzu : w.heap.size + 1 < u1.heap.size := by have := hb.size; omega
  have hzz : w.heap.size ≤ u1.heap.size := by have := hb.size; omega
  have hz4 : u1.heap.size < W2.heap.size := D2.lt
  have S2 := (Aside.intro (And.intro hB2 D2))
  clear hN hb H1 hB hz1 DW SB hbW D2 V2 hB2 HP
  go_wp2_with fail
  rw [← hW2]
  clear hW2
  refine (Calls.mono H2.out) ?_
  rintro r u2 ⟨rfl, hb⟩
  obtain ⟨W3, hW3⟩ : ∃ W, W = u2.alloc (.cells #[.int .u64 (F : Nat), .int .i64 ex, .bool false, .int .i64 mid] 170) := ⟨_, rfl⟩
  have hbW : Below u2.heap.size u2 W3 := by rw [hW3]; exact below_alloc u2 _
  have P3 : Pk W3 u2.heap.size (F : Nat) ex false mid := by rw [hW3]; exact heap_alloc_new _ _
  have D3 := (S2.out.2.below hb).below hbW
  have hB3 : Below w.heap.size w W3 := (S2.out.1.trans (hb.mono (by omega))).trans (hbW.mono (by have := hb.size; omega))
  have hz6 : u1.heap.size < u2.heap.size := by have := hb.size; omega
  obtain ⟨q0, q1, q2, q3, qf0, qf1, qf2, qf3⟩ := P3.facts
  obtain ⟨d0, d1, d2, df0, df1, df2⟩ := D3.facts
  have hz5 : w.heap.size ≤ u2.heap.size := by omega
  have hz7 : u2.heap.size < W3.heap.size := P3.lt
  have S3 := (Aside.intro (And.intro hB3 (And.intro P3 D3)))
  clear hb hbW P3 D3 hB3 S2 H2 x0 x1 x2 xf0 xf1 xf2 y0 y1 y2
  go_upto_region 7 with fail
  rw [← hW3]
  clear hW3
  go_wp2_with fail
  refine (Calls.mono (HG.out _)) ?_
  rintro r u3 ⟨rfl, hb⟩
  have P4 := S3.out.2.1.below hb
  have D4 := S3.out.2.2.below hb
  have hB4 : Below w.heap.size w u3 := S3.out.1.trans (hb.mono (by omega))
  have hz8 : w.heap.size ≤ u3.heap.size := by have := hb.size; omega
  obtain ⟨r0, r1, r2, r3, rf0, rf1, rf2, rf3⟩ := P4.facts
  obtain ⟨s0, s1, s2, sf0, sf1, sf2⟩ := D4.facts
  have S4 := Aside.intro hB4
  clear hb P4 D4 hB4 S3 HG q0 q1 q2 q3 qf0 qf1 qf2 qf3 d0 d1 d2 df0 df1 df2
  go_wp2_with fail
  try simp only [ecv]
  refine (Calls.mono (HD.out _)) ?_
  rintro r ww ⟨rfl, hw⟩
  rw [hw]
  clear hw ww HD
  go_wp2_with fail
  refine (Calls.mono (HC.out _)) ?_
  rintro r ww ⟨rfl, hw⟩
  rw [hw]
  clear hw ww HC
  go_wp2
  go_ret2
  exact ⟨rfl, Below.setC S4.out _ _ _ hz5 hz8⟩

end Go.Proofs.YtmpakpdikkfofaaGreatDoor

/- dyad's Round: what it answers. -/
namespace Go.Proofs.YtmpakpdikkfofaaGreatDoor
open Go.RowKit
set_option linter.unusedVariables false
set_option maxRecDepth 20000
set_option linter.unusedSimpArgs false

/-- The bits without a sign. -/
def rndK (mode : Int) (n : Bool) (X : Nat) (e : Int) : Nat :=
  let p := plc 53 (-1074) 1024 X e
  (p.2.1 + 1074).toNat * 4503599627370496 + (if p.2.2.1 then p.1 else if outS mode p.1 p.2.2.2 n then p.1 + 1 else p.1)
def rndS (o : Option (Bool × Nat × Int)) (mode : Int) : Nat × Int :=
  if mode < 0 ∨ 4 < mode then (0, 1)
  else match o with
    | none => (0, 2)
    | some (n, X, e) => if X = 0 then (0, 0) else (rndK mode n X e + (if n then 9223372036854775808 else 0), 0)

theorem plc_mid (X : Nat) (e : Int) : (plc 53 (-1074) 1024 X e).2.2.2 = -1 ∨ (plc 53 (-1074) 1024 X e).2.2.2 = 0 ∨ (plc 53 (-1074) 1024 X e).2.2.2 = 1 := by
  unfold plc
  split
  · simp
  · simp only
    split
    · simp
    · simp only
      split
      · simp
      · split <;> simp

theorem ldexp_word (F : Nat) (ex : Int) (hF : F ≤ 9007199254740992) (h0 : -1074 ≤ ex) (h1 : ex ≤ 971) (hn : ex = -1074 ∨ 4503599627370496 ≤ F) :
    ∃ cw, floatOfInt .f64 (F : Int) = cw ∧ ∀ u, Calls Tryz.prog 21 #[.float .f64 cw, .int .i64 ex] u fun r w' => r = .returned (.float .f64 ((ex + 1074).toNat * 4503599627370496 + F)) ∧ w' = u := by
  by_cases hz : F = 0
  · subst hz
    obtain rfl : ex = -1074 := by omega
    exact ⟨0, by decide, fun u => B.Ldexp_nought _ u⟩
  · obtain ⟨e, g, hw⟩ := B.whole_of F (by omega) hF
    exact ⟨_, B.ofInt_whole F e g hw, fun u => B.Ldexp_any F e g ex u hw (by omega) hF h0 h1 hn⟩

theorem copy_word (K : Nat) (hK : K ≤ 9218868437227405312) (u : World) : Calls Tryz.prog 89 #[.float .f64 K, .float .f64 13830554455654793216] u fun r w' => r = .returned (.float .f64 (K + 9223372036854775808)) ∧ w' = u := by
  have h := B.copysign_neg (K / 4503599627370496) (K % 4503599627370496) (by omega) (by omega) u
  have e1 : B.bw false (K / 4503599627370496) (K % 4503599627370496) = K := by unfold B.bw; simp; omega
  have e2 : B.bw true (K / 4503599627370496) (K % 4503599627370496) = K + 9223372036854775808 := by unfold B.bw; simp; omega
  rw [e1, e2] at h
  exact h

theorem round_any {w : World} {a : Option Addr} {l c : Nat} {xs : List Nat} (hA : Arg w a l c xs) (hT : Tab w) (n : Bool) (e mode : Int) (he0 : -9223372036854775808 ≤ e) (he1 : e ≤ 9223372036854775807) :
    Calls Tryz.prog 100 #[.agg #[.bool n, .slice a l c, .int .i64 e], .int .i64 mode, .agg #[.int .i64 53, .int .i64 (-1074), .int .i64 1024]] w fun r w' => r = .returned (.tuple #[.float .f64 (rndS (mkS n (val xs) e) mode).1, .int .i64 (rndS (mkS n (val xs) e) mode).2]) ∧ Below w.heap.size w w' := by
  unfold rndS
  by_cases hm : mode < 0 ∨ 4 < mode
  · rw [if_pos hm]; exact round_mode n a l c e mode w hm
  · rw [if_neg hm]
    have HF : Hid (∀ u, Below w.heap.size w u → Calls Tryz.prog 138 #[.agg #[.bool n, .slice a l c, .int .i64 e]] u fun r w' => DAns u.heap.size w' r (mkS n (val xs) e) ∧ Below u.heap.size u w') := fun u hu => form_any (hA.below hu) (hT.belows hu) n e he0 he1
    cases ho : mkS n (val xs) e with
    | none =>
      rw [ho] at HF
      exact round_err n e mode false 0 0 2 (by rw [ws_zero]; simp) (by omega) (by omega) rfl HF
    | some d =>
      obtain ⟨n1, X, e1⟩ := d
      rw [ho] at HF
      have FX := mkS_frm ho
      simp only
      by_cases hX : X = 0
      · rw [if_pos hX]
        exact round_none n e mode n1 X e1 ((ws_len_zero X).2 hX) (by omega) (by omega) HF
      · rw [if_neg hX]
        have pf := plc_facts X e1 hX FX.down FX.up
        have pm := plc_mid X e1
        have HP : ∀ (u : World) (p : Option Addr) (q : Nat), Arg u p (ws X).length q (ws X) → Calls Tryz.prog 139 #[.agg #[.bool n1, .slice p (ws X).length q, .int .i64 e1], .agg #[.int .i64 53, .int .i64 (-1074), .int .i64 1024]] u fun r w' => r = .returned (.agg #[.int .u64 ((plc 53 (-1074) 1024 X e1).1 : Nat), .int .i64 (plc 53 (-1074) 1024 X e1).2.1, .bool (plc 53 (-1074) 1024 X e1).2.2.1, .int .i64 (plc 53 (-1074) 1024 X e1).2.2.2]) ∧ Below u.heap.size u w' := fun u p q hA => placed_any hA n1 e1 FX.down FX.up hX FX.size
        unfold rndK
        simp only
        generalize plc 53 (-1074) 1024 X e1 = P at pf pm HP ⊢
        obtain ⟨F, ex, t, mid⟩ := P
        simp only at pf pm HP ⊢
        obtain ⟨p1, p2, p3, p4⟩ := pf
        have HG : ∀ u, Calls Tryz.prog 140 #[.agg #[.int .u64 (F : Nat), .int .i64 ex, .bool false, .int .i64 mid], .int .i64 mode, .bool n1] u fun r w' => r = .returned (.bool (outS mode F mid n1)) ∧ Below u.heap.size u w' := fun u => goesOut_any F ex false mid mode n1 u (by omega) pm (by omega) (by omega)
        have lX := frm_len FX
        cases t with
        | true =>
          simp only [if_true]
          obtain ⟨cw, ecv, HD⟩ := ldexp_word F ex (by omega) p2 p3 p4
          cases n1 with
          | false =>
            simp only [Bool.false_eq_true, if_false, Nat.add_zero]
            exact round_tf n e mode X e1 lX (len_ne hX) (by omega) (by omega) F cw _ 0 ex mid p1 ecv HF (hid HP) (hid HD)
          | true =>
            simp only [if_true]
            exact round_tt n e mode X e1 lX (len_ne hX) (by omega) (by omega) F cw _ _ ex mid p1 ecv HF (hid HP) (hid HD) (hid fun u => copy_word _ (by omega) u)
        | false =>
          simp only [Bool.false_eq_true, if_false]
          cases hob : outS mode F mid n1 with
          | false =>
            rw [hob] at HG
            simp only [Bool.false_eq_true, if_false]
            obtain ⟨cw, ecv, HD⟩ := ldexp_word F ex (by omega) p2 p3 p4
            cases n1 with
            | false =>
              simp only [Bool.false_eq_true, if_false, Nat.add_zero]
              exact round_fff n e mode X e1 lX (len_ne hX) (by omega) (by omega) F cw _ 0 ex mid p1 ecv HF (hid HP) (hid HG) (hid HD)
            | true =>
              simp only [if_true]
              exact round_fft n e mode X e1 lX (len_ne hX) (by omega) (by omega) F cw _ _ ex mid p1 ecv HF (hid HP) (hid HG) (hid HD) (hid fun u => copy_word _ (by omega) u)
          | true =>
            rw [hob] at HG
            simp only [if_true]
            obtain ⟨cw, ecv, HD⟩ := ldexp_word (F + 1) ex (by omega) p2 p3 (by omega)
            cases n1 with
            | false =>
              simp only [Bool.false_eq_true, if_false, Nat.add_zero]
              exact round_ftf n e mode X e1 lX (len_ne hX) (by omega) (by omega) F cw _ 0 ex mid p1 (by simpa using ecv) HF (hid HP) (hid HG) (hid HD)
            | true =>
              simp only [if_true]
              exact round_ftt n e mode X e1 lX (len_ne hX) (by omega) (by omega) F cw _ _ ex mid p1 (by simpa using ecv) HF (hid HP) (hid HG) (hid HD) (hid fun u => copy_word _ (by omega) u)

set_option maxHeartbeats 1000000 in
theorem Round_any {w : World} {a : Option Addr} {l c : Nat} {xs : List Nat} (hA : Arg w a l c xs) (hT : Tab w) (n : Bool) (e mode : Int) (he0 : -9223372036854775808 ≤ e) (he1 : e ≤ 9223372036854775807) :
    Calls Tryz.prog 58 #[.agg #[.bool n, .slice a l c, .int .i64 e], .int .i64 mode] w fun r w' => r = .returned (.tuple #[.float .f64 (rndS (mkS n (val xs) e) mode).1, .int .i64 (rndS (mkS n (val xs) e) mode).2]) ∧ Below w.heap.size w w' := by
  have hb0 := below_alloc w (.cells #[.bool n, .slice a l c, .int .i64 e] 90)
  have H := hid (round_any (hA.below hb0) (hT.belows hb0) n e mode he0 he1)
  have S0 := Aside.intro hb0
  obtain ⟨⟨K, er⟩, hK⟩ : ∃ K, rndS (mkS n (val xs) e) mode = K := ⟨_, rfl⟩
  rw [hK] at H ⊢
  simp only at H ⊢
  clear hA hT hb0 hK
  go_enter Tryz.func58, Tryz.ntmps58
  go_wp2_with fail
  refine (Calls.mono H.out) ?_
  rintro r u1 ⟨rfl, hb⟩
  have S1 := Aside.intro hb
  clear hb
  go_wp2
  go_ret2
  exact ⟨rfl, S0.out.trans (S1.out.mono (by simp))⟩
end Go.Proofs.YtmpakpdikkfofaaGreatDoor

/- Round. -/
namespace Go.Proofs.YtmpakpdikkfofaaGreatDoor
open Go.RowKit
set_option linter.unusedVariables false
set_option maxRecDepth 20000
set_option linter.unusedSimpArgs false

/-- What Round answers, where nothing is refused. -/
def rd7 (V : Int) (s : Sp) (mode a b : Int) : Nat × Int :=
  if (ahd V s mode a b).2.1 then ((ahd V s mode a b).1, 0) else rndS (mkS (dN (exV V)) (dX (exV V)) (dE (exV V))) mode
theorem ahd_er (V : Int) (s : Sp) (mode a b : Int) : (ahd V s mode a b).2.2 = 0 := by
  unfold ahd
  split
  · rfl
  · split <;> rfl
theorem dX_small {V : Int} (h0 : -(HB : Int) < V) (h1 : V < (HB : Int)) : (ws (dX (exV V))).length ≤ 133 := by
  refine (ws_len_le _ 133).2 ?_
  have e : pw 133 = PB := by unfold PB; rfl
  rw [e]
  have hp := PB_HB
  have hq := HB_pos
  refine Nat.lt_of_le_of_lt (m := V.natAbs) ?_ (by omega)
  unfold exV mkS dX
  split
  · exact Nat.zero_le _
  · split
    · exact Nat.zero_le _
    · exact Nat.div_le_self _ _
theorem dE_small (V : Int) : -9223372036854775808 ≤ dE (exV V) ∧ dE (exV V) ≤ 9223372036854775807 := by
  unfold exV mkS dE
  split
  · simp
  · split
    · simp
    · next h => simp only [Option.getD_some]; omega

set_option maxHeartbeats 2000000 in
theorem Round7 (g : Nat) (V : Int) (s : Sp) (mode a b : Int) (w : World) (hA : Acc7 w g V s) (hs : s.ok) (hT : Tab w) (hm0 : 0 ≤ mode) (hm1 : mode ≤ 4) (hab : may a b = true) (ha : a ≠ 2) (hb : b ≠ 2) :
    Calls Tryz.prog 27 #[.pointer (some ⟨g, 0, none⟩), .int .i64 mode, .agg #[.int .i64 a, .int .i64 b]] w fun r w' => r = .returned (.tuple #[.float .f64 (rd7 V s mode a b).1, .int .i64 (rd7 V s mode a b).2]) ∧ Below w.heap.size w w' := by
  obtain ⟨⟨X, er⟩, hX⟩ : ∃ X, X = rd7 V s mode a b := ⟨_, rfl⟩
  rw [← hX]
  simp only
  have hb0 := bel_alloc w (Obj.cells #[.int .i64 a, .int .i64 b] 27)
  have HH := hid (ahead7 g V s mode a b _ (hA.bel hb0) hs hm0 hm1 hab ha hb)
  have her := ahd_er V s mode a b
  unfold rd7 at hX
  obtain ⟨⟨ax, at', ae⟩, hAh⟩ : ∃ Y, Y = ahd V s mode a b := ⟨_, rfl⟩
  rw [← hAh] at HH her hX
  simp only at HH her hX
  subst her
  have HX := Aside.intro hX
  have HA := Aside.intro (And.intro hA (And.intro hT hb0))
  clear hA hT hb0 hX hAh hs hab ha hb
  go_enter Tryz.func27, Tryz.ntmps27
  go_wp2_with fail
  refine HH.out.mono ?_
  rintro r w1 ⟨rfl, hb1⟩
  have B1 := Aside.intro (HA.out.2.2.trans (hb1.mono HA.out.2.2.size))
  clear hb1
  cases at'
  · go_wp2_with fail
    refine (Exact7 g V s w1 (HA.out.1.bel B1.out) (HA.out.2.1.belows B1.out)).mono ?_
    rintro r w2 ⟨v, rfl, hN, hb2⟩
    obtain ⟨L, _, _, _, h0, h1, _⟩ := HA.out.1
    obtain ⟨ad, c, rfl, AV⟩ := hN.arg (Nat.le_trans (dX_small h0 h1) (by decide))
    have HR := hid (Round_any AV (HA.out.2.1.belows (B1.out.trans (hb2.mono B1.out.size))) (dN (exV V)) (dE (exV V)) mode (dE_small V).1 (dE_small V).2)
    rw [val_ws] at HR
    have HX2 := HX.out
    rw [if_neg (by decide)] at HX2
    rw [← HX2] at HR
    simp only at HR
    have B2 := Aside.intro (B1.out.trans (hb2.mono B1.out.size))
    clear hN hb2 AV h0 h1 HX2
    go_wp2_with fail
    refine HR.out.mono ?_
    rintro r w3 ⟨rfl, hb3⟩
    have B3 := Aside.intro hb3
    clear hb3
    go_wp2
    refine bodyPost_ret (v := .tuple #[.float .f64 X, .int .i64 er]) (by simp [results, Tryz.results27, go_sem]) rfl ?_
    exact ⟨rfl, B2.out.trans (B3.out.mono B2.out.size)⟩
  · go_wp2
    have HX2 := HX.out
    rw [if_pos trivial] at HX2
    cases HX2
    refine bodyPost_ret (v := .tuple #[.float .f64 X, .int .i64 0]) (by simp [results, Tryz.results27, go_sem]) rfl ?_
    exact ⟨rfl, B1.out⟩
end Go.Proofs.YtmpakpdikkfofaaGreatDoor

/- New, Specials, Copy, Exact. -/
namespace Go.Proofs.YtmpakpdikkfofaaGreatDoor
open Go.RowKit
set_option linter.unusedVariables false
set_option maxRecDepth 20000
set_option linter.unusedSimpArgs false

theorem Tryz.zero_acc : Tryz.zeroCells79 = ((List.replicate 133 0).map U ++ Sp.cells ⟨0, 0, 0, 0, 0, 0⟩).toArray := by kernel_rfl
theorem zero_acc7 {w : World} {g : Nat} (h : Bl w g 79 ((List.replicate 133 0).map U ++ Sp.cells ⟨0, 0, 0, 0, 0, 0⟩)) : Acc7 w g 0 ⟨0, 0, 0, 0, 0, 0⟩ :=
  ⟨List.replicate 133 0, by simp, Wf.zeros 133, by rw [val_zeros]; simp, by have := HB_pos; omega, by have := HB_pos; omega, h⟩

set_option maxHeartbeats 1000000 in
theorem New7 (w : World) : Calls Tryz.prog 25 #[] w fun r w' => r = .returned (.pointer (some ⟨w.heap.size, 0, none⟩)) ∧ Acc7 w' w.heap.size 0 ⟨0, 0, 0, 0, 0, 0⟩ ∧ Below w.heap.size w w' := by
  go_enter Tryz.func25, Tryz.ntmps25
  go_wp2
  go_ret
  refine ⟨rfl, ?_, bel_alloc _ _⟩
  rw [Tryz.zero_acc]
  exact zero_acc7 (Bl.new _ _ _)

end Go.Proofs.YtmpakpdikkfofaaGreatDoor

/- live: the law's first look. -/
namespace Go.Proofs.YtmpakpdikkfofaaGreatDoor
open Go.RowKit
open Go.Proofs.YtmpakpdikkfofaaGreatDoor.B (bw)
set_option linter.unusedVariables false
set_option maxRecDepth 20000
set_option linter.unusedSimpArgs false

theorem pK_one : pK 4607182418800017408 4607182418800017408 = 0 := by decide
theorem pK_up : pK 9110782046170513408 4607182418800017408 = 0 := by decide
theorem pK_dn : pK 18334154083025289216 4607182418800017408 = 0 := by decide
theorem pT_pow (x : Nat) (ng : Bool) (j k : Nat) (h : pK x 4607182418800017408 = 0) (hf : frW x = 2 ^ 52) (hn : (!ngW x == ngW 4607182418800017408) = ng) (hj : (xpW x + xpW 4607182418800017408 + 2148).toNat = j) (hk : k = 104 + j) : pT x 4607182418800017408 = sgn7 ng (2 ^ k) := by
  unfold pT
  rw [pv7_yes h, hf, show frW 4607182418800017408 = 2 ^ 52 by decide, hn, hj, hk, ← Nat.pow_add, ← Nat.pow_add]
theorem pT_one (k : Nat) (hk : k = 2148) : pT 4607182418800017408 4607182418800017408 = ((2 ^ k : Nat) : Int) := by
  obtain ⟨j, hj⟩ : ∃ j, j = 2044 := ⟨_, rfl⟩
  rw [pT_pow 4607182418800017408 false j k pK_one (by decide) (by decide) (by rw [hj]; decide) (by omega)]
  rfl
theorem pT_up (k : Nat) (hk : k = 3148) : pT 9110782046170513408 4607182418800017408 = ((2 ^ k : Nat) : Int) := by
  obtain ⟨j, hj⟩ : ∃ j, j = 3044 := ⟨_, rfl⟩
  rw [pT_pow 9110782046170513408 false j k pK_up (by decide) (by decide) (by rw [hj]; decide) (by omega)]
  rfl
theorem pT_dn (k : Nat) (hk : k = 3148) : pT 18334154083025289216 4607182418800017408 = -((2 ^ k : Nat) : Int) := by
  obtain ⟨j, hj⟩ : ∃ j, j = 3044 := ⟨_, rfl⟩
  rw [pT_pow 18334154083025289216 true j k pK_dn (by decide) (by decide) (by rw [hj]; decide) (by omega)]
  rfl
theorem pow_HB (k : Nat) (hk : k < 4237) : ((2 ^ k : Nat) : Int) * 4 ≤ (HB : Int) := by
  obtain ⟨j, hj⟩ : ∃ j, j = 4238 := ⟨_, rfl⟩
  rw [HB_two j hj]
  have h : 2 ^ (k + 2) ≤ 2 ^ j := Nat.pow_le_pow_right (by decide) (by omega)
  rw [Nat.pow_succ, Nat.pow_succ] at h
  omega
theorem bl_double7 (X : Nat) (h : X ≠ 0) : bl (2 * X) = bl X + 1 := by
  have := bl_mul_pow 1 X h
  rw [Nat.pow_one] at this
  omega
theorem lo_double7 (X : Nat) (h : X ≠ 0) : lo (2 * X) = lo X + 1 := by
  obtain ⟨m, hm⟩ := lo_form X h
  obtain ⟨k, hk⟩ : ∃ k, lo X = k := ⟨_, rfl⟩
  rw [hk] at hm ⊢
  have e : 2 * X = 2 ^ (k + 1) * (2 * m + 1) := by rw [hm, Nat.pow_succ]; grind
  rw [e]
  exact lo_eq (k + 1) m
theorem mkS_double7 (n : Bool) (X : Nat) (e : Int) : mkS n (2 * X) e = mkS n X (e + 1) := by
  unfold mkS
  by_cases h : X = 0
  · subst h; simp
  · rw [if_neg (by omega), if_neg h, lo_double7 X h, bl_double7 X h]
    have e1 : 2 * X / 2 ^ (lo X + 1) = X / 2 ^ lo X := by
      rw [Nat.pow_succ, Nat.mul_comm (2 ^ lo X) 2, Nat.mul_div_mul_left _ _ (by omega)]
    rw [e1]
    have e2 : (262144 < bl X + 1 - (lo X + 1) ∨ 1048576 - ((lo X + 1 : Nat) : Int) < e ∨ e < -1048576 - ((lo X + 1 : Nat) : Int)) ↔ (262144 < bl X - lo X ∨ 1048576 - (lo X : Int) < e + 1 ∨ e + 1 < -1048576 - (lo X : Int)) := by omega
    by_cases h2 : 262144 < bl X - lo X ∨ 1048576 - (lo X : Int) < e + 1 ∨ e + 1 < -1048576 - (lo X : Int)
    · rw [if_pos h2, if_pos (e2.2 h2)]
    · rw [if_neg h2, if_neg (fun h3 => h2 (e2.1 h3))]
      congr 3
      omega
theorem mkS_pow7 (n : Bool) (k : Nat) : ∀ e : Int, mkS n (2 ^ k) e = mkS n 1 (e + k) := by
  induction k with
  | zero => intro e; simp
  | succ k ih => intro e; rw [Nat.pow_succ, Nat.mul_comm, mkS_double7, ih]; congr 1; omega
end Go.Proofs.YtmpakpdikkfofaaGreatDoor

/- What is added and then taken: the plain part. -/
namespace Go.Proofs.YtmpakpdikkfofaaGreatDoor
open Go.RowKit
set_option linter.unusedVariables false
set_option maxRecDepth 20000
set_option linter.unusedSimpArgs false

/-- A bound for one thing's value. -/
def QB : Nat := HB / 4398046511104
theorem QB_HB : HB = 4398046511104 * QB := by
  obtain ⟨k, hk⟩ : ∃ k, k = 4238 := ⟨_, rfl⟩
  obtain ⟨j, hj⟩ : ∃ j, j = 4196 := ⟨_, rfl⟩
  unfold QB
  rw [HB_two k hk, show k = 42 + j by omega, Nat.pow_add]
  have e : (2 : Nat) ^ 42 = 4398046511104 := by decide
  rw [e, Nat.mul_div_cancel_left _ (by decide)]
theorem QB_pos : 0 < QB := by have := QB_HB; have := HB_pos; omega
theorem pT_small (x y : Nat) (hx : x < 18446744073709551616) (hy : y < 18446744073709551616) : -(QB : Int) ≤ pT x y ∧ pT x y ≤ (QB : Int) := by
  have hp := QB_pos
  have e2 : ∃ j, j = 4196 ∧ QB = 2 ^ j := by
    obtain ⟨k, hk⟩ : ∃ k, k = 4238 := ⟨_, rfl⟩
    obtain ⟨j, hj⟩ : ∃ j, j = 4196 := ⟨_, rfl⟩
    refine ⟨j, hj, ?_⟩
    unfold QB
    rw [HB_two k hk, show k = 42 + j by omega, Nat.pow_add]
    have e : (2 : Nat) ^ 42 = 4398046511104 := by decide
    rw [e, Nat.mul_div_cancel_left _ (by decide)]
  obtain ⟨j, hj, hq⟩ := e2
  unfold pT pv7
  split
  · have f1 := fr_bound (eW x) (fW x) (bw_parts x hx).2.2
    have f2 := fr_bound (eW y) (fW y) (bw_parts y hy).2.2
    have x1 := xp_bound (eW x) (bw_parts x hx).2.1
    have x2 := xp_bound (eW y) (bw_parts y hy).2.1
    have h1 : frW x * frW y < 2 ^ 106 := by
      have : frW x * frW y ≤ 9007199254740991 * 9007199254740991 := Nat.mul_le_mul (by unfold frW; omega) (by unfold frW; omega)
      exact Nat.lt_of_le_of_lt this (by decide)
    have h3 : frW x * frW y * 2 ^ (xpW x + xpW y + 2148).toNat < QB := by
      rw [hq]
      refine Nat.lt_of_lt_of_le (Nat.mul_lt_mul_of_pos_right h1 (Nat.two_pow_pos _)) ?_
      rw [← Nat.pow_add]
      exact Nat.pow_le_pow_right (by decide) (by unfold xpW; omega)
    have := sgn_bound (!ngW x == ngW y) _ _ h3
    omega
  · constructor <;> omega

/-- Counts that may be. -/
def Sp.pos (s : Sp) : Prop := 0 ≤ s.n ∧ 0 ≤ s.u ∧ 0 ≤ s.d ∧ 0 ≤ s.m ∧ 0 ≤ s.p ∧ s.n + s.u + s.d + s.m + s.p ≤ s.a
theorem Sp.pos.cnt {s : Sp} (h : s.pos) (k : Nat) (hk : k ≤ 5) : (s.cnt k 1).pos := by
  obtain ⟨h0, h1, h2, h3, h4, h5⟩ := h
  have hc : k = 0 ∨ k = 1 ∨ k = 2 ∨ k = 3 ∨ k = 4 ∨ k = 5 := by omega
  rcases hc with rfl | rfl | rfl | rfl | rfl | rfl <;> (unfold Sp.pos Sp.cnt; simp; omega)
theorem Sp.pos.ok {s : Sp} (h : s.pos) (ha : s.a ≤ 4398046511104) : s.ok := by
  obtain ⟨h0, h1, h2, h3, h4, h5⟩ := h
  unfold Sp.ok
  omega
theorem cnt_a (s : Sp) (k : Nat) (c : Int) : (s.cnt k c).a = s.a + c := rfl

theorem put_ok (V : Int) (s : Sp) (k : Nat) (T : Int) (h0 : -(HB : Int) < V + T) (h1 : V + T < (HB : Int)) (ha : s.a < 1099511627776) : putS V s k T = (0, V + T, s.cnt k 1) := by
  unfold putS step7
  rw [if_neg (by omega), if_pos ⟨h0, h1⟩]
/-- n - 1, .., 0. -/
def down : Nat → List Nat
  | 0 => []
  | n + 1 => n :: down n
end Go.Proofs.YtmpakpdikkfofaaGreatDoor

