/- The document's Add. -/
import Derived.Test.YtonhahbmdekkdaaDoorD31
import Derived.Deep.Cut
import Derived.Deep.RegionHeld3
namespace Go.Proofs.YtonhahbmdekkdaaDoor
open Go.RowKit
set_option linter.unusedVariables false
set_option maxRecDepth 20000
set_option linter.unusedSimpArgs false

theorem radd_res (W : World) (g : Nat) (n : Bool) (v : Value) (e k : Int) (tmps : Array Value) (ht : tmps[4]?.getD undef = .pointer (some ⟨g, 0, none⟩)) (hk : tmps[5]?.getD undef = .int .i64 k) (D : Dk W g n v e) :
    (results Tryd.f24 tmps).run Tryd.prog W = .ok (.tuple #[.agg #[.bool n, v, .int .i64 e], .int .i64 k]) W := by
  obtain ⟨x0, x1, x2, xf0, xf1, xf2⟩ := D.facts
  simp [results, Tryd.results24, ht, hk, go_sem, x0, x1, x2]

set_option maxHeartbeats 4000000 in
theorem radd_ff {w : World} {a b : Option Addr} {l c k d : Nat} (n m : Bool) (e f : Int) (n1 m1 : Bool) (X Y : Nat) (e1 f1 : Int) (lX : (ws X).length ≤ 8192) (lY : (ws Y).length ≤ 8192)
    (HF1 : Hid (∀ u, Below w.heap.size w u → Calls Tryd.prog 73 #[.agg #[.bool n, .slice a l c, .int .i64 e]] u fun r w' => (∃ v, r = .returned (.tuple #[.agg #[.bool n1, v, .int .i64 e1], .bool false]) ∧ Nt u.heap.size w' v X) ∧ Below u.heap.size u w'))
    (HF2 : Hid (∀ u, Below w.heap.size w u → Calls Tryd.prog 73 #[.agg #[.bool m, .slice b k d, .int .i64 f]] u fun r w' => (∃ v, r = .returned (.tuple #[.agg #[.bool m1, v, .int .i64 f1], .bool false]) ∧ Nt u.heap.size w' v Y) ∧ Below u.heap.size u w')) : Calls Tryd.prog 24 #[.agg #[.bool n, .slice a l c, .int .i64 e], .agg #[.bool m, .slice b k d, .int .i64 f]] w fun r w' => r = .returned (.tuple #[.agg #[.bool false, .slice none 0 0, .int .i64 0], .int .i64 2]) ∧ Below w.heap.size w w' := by
  obtain ⟨W1, hW1⟩ : ∃ W, W = ((w.alloc (.cells #[.bool n, .slice a l c, .int .i64 e] 38)).alloc (.cells #[.bool m, .slice b k d, .int .i64 f] 38)).alloc (.cells #[.bool false, .slice none 0 0, .int .i64 0] 38) := ⟨_, rfl⟩
  obtain ⟨hB, hz1, DA, DB, DR⟩ := add_begin w n m (.slice a l c) (.slice b k d) e f W1 hW1
  have H1 := hid (HF1.out W1 hB)
  have SB := (Aside.intro (And.intro hB (And.intro hz1 (And.intro DA (And.intro DB DR)))))
  clear hB hz1 DA DB DR HF1
  go_enter Tryd.func24, Tryd.ntmps24
  go_wp2_with fail
  rw [← hW1]
  clear hW1
  refine (Calls.mono H1.out) ?_
  rintro r u1 ⟨⟨v, rfl, hN⟩, hb⟩
  obtain ⟨a1, c1, rfl, _⟩ := hN.arg (by omega)
  obtain ⟨hB, hz1, DA, DB, DR⟩ := SB.out
  obtain ⟨U1, hU1⟩ : ∃ U, U = u1.alloc (.cells #[.bool n1, .slice a1 (ws X).length c1, .int .i64 e1] 38) := ⟨_, rfl⟩
  have hA : Below u1.heap.size u1 U1 := by rw [hU1]; exact below_alloc _ _
  have hs1 : w.heap.size + 3 ≤ u1.heap.size := by have := hb.size; omega
  have hs2 : u1.heap.size < U1.heap.size := by rw [hU1]; simp
  have FB := (DB.below hb).below hA
  have FR := (DR.below hb).below hA
  have DX : Dk U1 u1.heap.size n1 (.slice a1 (ws X).length c1) e1 := by rw [hU1]; exact Dk.new _ _ _ _
  have NX : Nt (w.heap.size + 3) U1 (.slice a1 (ws X).length c1) X := (hN.mono (by omega)).below hA
  have BU : Below w.heap.size w U1 := (hB.trans (hb.mono (by omega))).trans (hA.mono (by omega))
  have H2 := hid (HF2.out U1 BU)
  obtain ⟨y0, y1, y2, yf0, yf1, yf2⟩ := FB.facts
  have S1 := (Aside.intro (And.intro BU (And.intro FR (And.intro DX NX))))
  clear hN hb H1 hB hz1 hA DA DB DR FB FR DX NX BU SB HF2
  go_upto_region 2 with fail
  rw [← hU1]
  clear hU1
  go_wp2_with fail
  clear y0 y1 y2 yf0 yf1 yf2
  refine (Calls.mono H2.out) ?_
  rintro r u2 ⟨⟨v, rfl, hM⟩, hb⟩
  obtain ⟨a2, c2, rfl, _⟩ := hM.arg (by omega)
  obtain ⟨BU, FR, DX, NX⟩ := S1.out
  obtain ⟨U2, hU2⟩ : ∃ U, U = u2.alloc (.cells #[.bool m1, .slice a2 (ws Y).length c2, .int .i64 f1] 38) := ⟨_, rfl⟩
  have hA : Below u2.heap.size u2 U2 := by rw [hU2]; exact below_alloc _ _
  have hs3 : U1.heap.size ≤ u2.heap.size := hb.size
  have hs4 : u2.heap.size < U2.heap.size := by rw [hU2]; simp
  have GR := (FR.below hb).below hA
  have GX := (DX.below hb).below hA
  have GY : Dk U2 u2.heap.size m1 (.slice a2 (ws Y).length c2) f1 := by rw [hU2]; exact Dk.new _ _ _ _
  have MX := (NX.below hb).below hA
  have MY : Nt (w.heap.size + 3) U2 (.slice a2 (ws Y).length c2) Y := (hM.mono (by omega)).below hA
  have BV : Below w.heap.size w U2 := (BU.trans (hb.mono (by omega))).trans (hA.mono (by omega))
  have S2 := (Aside.intro (And.intro BV (And.intro GR (And.intro GX (And.intro GY (And.intro MX MY))))))
  clear hM hb H2 hA FR DX NX BU GR GX GY MX MY BV S1
  go_upto_region 3 with fail
  rw [← hU2]
  clear hU2
  obtain ⟨r0, r1, r2, rf0, rf1, rf2⟩ := S2.out.2.1.facts
  obtain ⟨x0, x1, x2, xf0, xf1, xf2⟩ := S2.out.2.2.1.facts
  obtain ⟨y0, y1, y2, yf0, yf1, yf2⟩ := S2.out.2.2.2.1.facts
  go_wp2
  refine bodyPost_ret (radd_res _ (w.heap.size + 1 + 1) false (.slice none 0 0) 0 2 _ rfl rfl (S2.out.2.1.set _ _ _)) rfl ⟨rfl, ?_⟩
  refine Fin.bel (m := w.heap.size + 3) (v := .slice a1 (ws X).length c1) (X := X) ?_
  have FE : Fin w.heap.size (w.heap.size + 3) w U2 (.slice a1 (ws X).length c1) X := ⟨S2.out.2.2.2.2.1, S2.out.1, by omega⟩
  repeat (with_reducible first | exact FE | refine Fin.drew ?_ | refine Fin.alloc ?_ _ | refine Fin.set ?_ _ _ _ (by omega) (by omega))

set_option maxHeartbeats 4000000 in
theorem radd_ft {w : World} {a b : Option Addr} {l c k d : Nat} (n m : Bool) (e f : Int) (n1 m1 : Bool) (X Y : Nat) (e1 f1 : Int) (lX : (ws X).length ≤ 8192) (lY : (ws Y).length ≤ 8192)
    (HF1 : Hid (∀ u, Below w.heap.size w u → Calls Tryd.prog 73 #[.agg #[.bool n, .slice a l c, .int .i64 e]] u fun r w' => (∃ v, r = .returned (.tuple #[.agg #[.bool n1, v, .int .i64 e1], .bool false]) ∧ Nt u.heap.size w' v X) ∧ Below u.heap.size u w'))
    (HF2 : Hid (∀ u, Below w.heap.size w u → Calls Tryd.prog 73 #[.agg #[.bool m, .slice b k d, .int .i64 f]] u fun r w' => (∃ v, r = .returned (.tuple #[.agg #[.bool m1, v, .int .i64 f1], .bool true]) ∧ Nt u.heap.size w' v Y) ∧ Below u.heap.size u w')) : Calls Tryd.prog 24 #[.agg #[.bool n, .slice a l c, .int .i64 e], .agg #[.bool m, .slice b k d, .int .i64 f]] w fun r w' => r = .returned (.tuple #[.agg #[.bool false, .slice none 0 0, .int .i64 0], .int .i64 2]) ∧ Below w.heap.size w w' := by
  obtain ⟨W1, hW1⟩ : ∃ W, W = ((w.alloc (.cells #[.bool n, .slice a l c, .int .i64 e] 38)).alloc (.cells #[.bool m, .slice b k d, .int .i64 f] 38)).alloc (.cells #[.bool false, .slice none 0 0, .int .i64 0] 38) := ⟨_, rfl⟩
  obtain ⟨hB, hz1, DA, DB, DR⟩ := add_begin w n m (.slice a l c) (.slice b k d) e f W1 hW1
  have H1 := hid (HF1.out W1 hB)
  have SB := (Aside.intro (And.intro hB (And.intro hz1 (And.intro DA (And.intro DB DR)))))
  clear hB hz1 DA DB DR HF1
  go_enter Tryd.func24, Tryd.ntmps24
  go_wp2_with fail
  rw [← hW1]
  clear hW1
  refine (Calls.mono H1.out) ?_
  rintro r u1 ⟨⟨v, rfl, hN⟩, hb⟩
  obtain ⟨a1, c1, rfl, _⟩ := hN.arg (by omega)
  obtain ⟨hB, hz1, DA, DB, DR⟩ := SB.out
  obtain ⟨U1, hU1⟩ : ∃ U, U = u1.alloc (.cells #[.bool n1, .slice a1 (ws X).length c1, .int .i64 e1] 38) := ⟨_, rfl⟩
  have hA : Below u1.heap.size u1 U1 := by rw [hU1]; exact below_alloc _ _
  have hs1 : w.heap.size + 3 ≤ u1.heap.size := by have := hb.size; omega
  have hs2 : u1.heap.size < U1.heap.size := by rw [hU1]; simp
  have FB := (DB.below hb).below hA
  have FR := (DR.below hb).below hA
  have DX : Dk U1 u1.heap.size n1 (.slice a1 (ws X).length c1) e1 := by rw [hU1]; exact Dk.new _ _ _ _
  have NX : Nt (w.heap.size + 3) U1 (.slice a1 (ws X).length c1) X := (hN.mono (by omega)).below hA
  have BU : Below w.heap.size w U1 := (hB.trans (hb.mono (by omega))).trans (hA.mono (by omega))
  have H2 := hid (HF2.out U1 BU)
  obtain ⟨y0, y1, y2, yf0, yf1, yf2⟩ := FB.facts
  have S1 := (Aside.intro (And.intro BU (And.intro FR (And.intro DX NX))))
  clear hN hb H1 hB hz1 hA DA DB DR FB FR DX NX BU SB HF2
  go_upto_region 2 with fail
  rw [← hU1]
  clear hU1
  go_wp2_with fail
  clear y0 y1 y2 yf0 yf1 yf2
  refine (Calls.mono H2.out) ?_
  rintro r u2 ⟨⟨v, rfl, hM⟩, hb⟩
  obtain ⟨a2, c2, rfl, _⟩ := hM.arg (by omega)
  obtain ⟨BU, FR, DX, NX⟩ := S1.out
  obtain ⟨U2, hU2⟩ : ∃ U, U = u2.alloc (.cells #[.bool m1, .slice a2 (ws Y).length c2, .int .i64 f1] 38) := ⟨_, rfl⟩
  have hA : Below u2.heap.size u2 U2 := by rw [hU2]; exact below_alloc _ _
  have hs3 : U1.heap.size ≤ u2.heap.size := hb.size
  have hs4 : u2.heap.size < U2.heap.size := by rw [hU2]; simp
  have GR := (FR.below hb).below hA
  have GX := (DX.below hb).below hA
  have GY : Dk U2 u2.heap.size m1 (.slice a2 (ws Y).length c2) f1 := by rw [hU2]; exact Dk.new _ _ _ _
  have MX := (NX.below hb).below hA
  have MY : Nt (w.heap.size + 3) U2 (.slice a2 (ws Y).length c2) Y := (hM.mono (by omega)).below hA
  have BV : Below w.heap.size w U2 := (BU.trans (hb.mono (by omega))).trans (hA.mono (by omega))
  have S2 := (Aside.intro (And.intro BV (And.intro GR (And.intro GX (And.intro GY (And.intro MX MY))))))
  clear hM hb H2 hA FR DX NX BU GR GX GY MX MY BV S1
  go_upto_region 3 with fail
  rw [← hU2]
  clear hU2
  obtain ⟨r0, r1, r2, rf0, rf1, rf2⟩ := S2.out.2.1.facts
  obtain ⟨x0, x1, x2, xf0, xf1, xf2⟩ := S2.out.2.2.1.facts
  obtain ⟨y0, y1, y2, yf0, yf1, yf2⟩ := S2.out.2.2.2.1.facts
  go_wp2
  refine bodyPost_ret (radd_res _ (w.heap.size + 1 + 1) false (.slice none 0 0) 0 2 _ rfl rfl (S2.out.2.1.set _ _ _)) rfl ⟨rfl, ?_⟩
  refine Fin.bel (m := w.heap.size + 3) (v := .slice a1 (ws X).length c1) (X := X) ?_
  have FE : Fin w.heap.size (w.heap.size + 3) w U2 (.slice a1 (ws X).length c1) X := ⟨S2.out.2.2.2.2.1, S2.out.1, by omega⟩
  repeat (with_reducible first | exact FE | refine Fin.drew ?_ | refine Fin.alloc ?_ _ | refine Fin.set ?_ _ _ _ (by omega) (by omega))

set_option maxHeartbeats 4000000 in
theorem radd_tf {w : World} {a b : Option Addr} {l c k d : Nat} (n m : Bool) (e f : Int) (n1 m1 : Bool) (X Y : Nat) (e1 f1 : Int) (lX : (ws X).length ≤ 8192) (lY : (ws Y).length ≤ 8192)
    (HF1 : Hid (∀ u, Below w.heap.size w u → Calls Tryd.prog 73 #[.agg #[.bool n, .slice a l c, .int .i64 e]] u fun r w' => (∃ v, r = .returned (.tuple #[.agg #[.bool n1, v, .int .i64 e1], .bool true]) ∧ Nt u.heap.size w' v X) ∧ Below u.heap.size u w'))
    (HF2 : Hid (∀ u, Below w.heap.size w u → Calls Tryd.prog 73 #[.agg #[.bool m, .slice b k d, .int .i64 f]] u fun r w' => (∃ v, r = .returned (.tuple #[.agg #[.bool m1, v, .int .i64 f1], .bool false]) ∧ Nt u.heap.size w' v Y) ∧ Below u.heap.size u w')) : Calls Tryd.prog 24 #[.agg #[.bool n, .slice a l c, .int .i64 e], .agg #[.bool m, .slice b k d, .int .i64 f]] w fun r w' => r = .returned (.tuple #[.agg #[.bool false, .slice none 0 0, .int .i64 0], .int .i64 2]) ∧ Below w.heap.size w w' := by
  obtain ⟨W1, hW1⟩ : ∃ W, W = ((w.alloc (.cells #[.bool n, .slice a l c, .int .i64 e] 38)).alloc (.cells #[.bool m, .slice b k d, .int .i64 f] 38)).alloc (.cells #[.bool false, .slice none 0 0, .int .i64 0] 38) := ⟨_, rfl⟩
  obtain ⟨hB, hz1, DA, DB, DR⟩ := add_begin w n m (.slice a l c) (.slice b k d) e f W1 hW1
  have H1 := hid (HF1.out W1 hB)
  have SB := (Aside.intro (And.intro hB (And.intro hz1 (And.intro DA (And.intro DB DR)))))
  clear hB hz1 DA DB DR HF1
  go_enter Tryd.func24, Tryd.ntmps24
  go_wp2_with fail
  rw [← hW1]
  clear hW1
  refine (Calls.mono H1.out) ?_
  rintro r u1 ⟨⟨v, rfl, hN⟩, hb⟩
  obtain ⟨a1, c1, rfl, _⟩ := hN.arg (by omega)
  obtain ⟨hB, hz1, DA, DB, DR⟩ := SB.out
  obtain ⟨U1, hU1⟩ : ∃ U, U = u1.alloc (.cells #[.bool n1, .slice a1 (ws X).length c1, .int .i64 e1] 38) := ⟨_, rfl⟩
  have hA : Below u1.heap.size u1 U1 := by rw [hU1]; exact below_alloc _ _
  have hs1 : w.heap.size + 3 ≤ u1.heap.size := by have := hb.size; omega
  have hs2 : u1.heap.size < U1.heap.size := by rw [hU1]; simp
  have FB := (DB.below hb).below hA
  have FR := (DR.below hb).below hA
  have DX : Dk U1 u1.heap.size n1 (.slice a1 (ws X).length c1) e1 := by rw [hU1]; exact Dk.new _ _ _ _
  have NX : Nt (w.heap.size + 3) U1 (.slice a1 (ws X).length c1) X := (hN.mono (by omega)).below hA
  have BU : Below w.heap.size w U1 := (hB.trans (hb.mono (by omega))).trans (hA.mono (by omega))
  have H2 := hid (HF2.out U1 BU)
  obtain ⟨y0, y1, y2, yf0, yf1, yf2⟩ := FB.facts
  have S1 := (Aside.intro (And.intro BU (And.intro FR (And.intro DX NX))))
  clear hN hb H1 hB hz1 hA DA DB DR FB FR DX NX BU SB HF2
  go_upto_region 2 with fail
  rw [← hU1]
  clear hU1
  go_wp2_with fail
  clear y0 y1 y2 yf0 yf1 yf2
  refine (Calls.mono H2.out) ?_
  rintro r u2 ⟨⟨v, rfl, hM⟩, hb⟩
  obtain ⟨a2, c2, rfl, _⟩ := hM.arg (by omega)
  obtain ⟨BU, FR, DX, NX⟩ := S1.out
  obtain ⟨U2, hU2⟩ : ∃ U, U = u2.alloc (.cells #[.bool m1, .slice a2 (ws Y).length c2, .int .i64 f1] 38) := ⟨_, rfl⟩
  have hA : Below u2.heap.size u2 U2 := by rw [hU2]; exact below_alloc _ _
  have hs3 : U1.heap.size ≤ u2.heap.size := hb.size
  have hs4 : u2.heap.size < U2.heap.size := by rw [hU2]; simp
  have GR := (FR.below hb).below hA
  have GX := (DX.below hb).below hA
  have GY : Dk U2 u2.heap.size m1 (.slice a2 (ws Y).length c2) f1 := by rw [hU2]; exact Dk.new _ _ _ _
  have MX := (NX.below hb).below hA
  have MY : Nt (w.heap.size + 3) U2 (.slice a2 (ws Y).length c2) Y := (hM.mono (by omega)).below hA
  have BV : Below w.heap.size w U2 := (BU.trans (hb.mono (by omega))).trans (hA.mono (by omega))
  have S2 := (Aside.intro (And.intro BV (And.intro GR (And.intro GX (And.intro GY (And.intro MX MY))))))
  clear hM hb H2 hA FR DX NX BU GR GX GY MX MY BV S1
  go_upto_region 3 with fail
  rw [← hU2]
  clear hU2
  obtain ⟨r0, r1, r2, rf0, rf1, rf2⟩ := S2.out.2.1.facts
  obtain ⟨x0, x1, x2, xf0, xf1, xf2⟩ := S2.out.2.2.1.facts
  obtain ⟨y0, y1, y2, yf0, yf1, yf2⟩ := S2.out.2.2.2.1.facts
  go_wp2
  refine bodyPost_ret (radd_res _ (w.heap.size + 1 + 1) false (.slice none 0 0) 0 2 _ rfl rfl (S2.out.2.1.set _ _ _)) rfl ⟨rfl, ?_⟩
  refine Fin.bel (m := w.heap.size + 3) (v := .slice a1 (ws X).length c1) (X := X) ?_
  have FE : Fin w.heap.size (w.heap.size + 3) w U2 (.slice a1 (ws X).length c1) X := ⟨S2.out.2.2.2.2.1, S2.out.1, by omega⟩
  repeat (with_reducible first | exact FE | refine Fin.drew ?_ | refine Fin.alloc ?_ _ | refine Fin.set ?_ _ _ _ (by omega) (by omega))

set_option maxHeartbeats 4000000 in
theorem radd_left {w : World} {a b : Option Addr} {l c k d : Nat} (n m : Bool) (e f : Int) (n1 m1 : Bool) (X Y : Nat) (e1 f1 : Int) (lX : (ws X).length ≤ 8192) (lY : (ws Y).length ≤ 8192) (hX : (ws X).length = 0)
    (HF1 : Hid (∀ u, Below w.heap.size w u → Calls Tryd.prog 73 #[.agg #[.bool n, .slice a l c, .int .i64 e]] u fun r w' => (∃ v, r = .returned (.tuple #[.agg #[.bool n1, v, .int .i64 e1], .bool true]) ∧ Nt u.heap.size w' v X) ∧ Below u.heap.size u w'))
    (HF2 : Hid (∀ u, Below w.heap.size w u → Calls Tryd.prog 73 #[.agg #[.bool m, .slice b k d, .int .i64 f]] u fun r w' => (∃ v, r = .returned (.tuple #[.agg #[.bool m1, v, .int .i64 f1], .bool true]) ∧ Nt u.heap.size w' v Y) ∧ Below u.heap.size u w')) : Calls Tryd.prog 24 #[.agg #[.bool n, .slice a l c, .int .i64 e], .agg #[.bool m, .slice b k d, .int .i64 f]] w fun r w' => DAns w.heap.size w' r (some (m1, Y, f1)) ∧ Below w.heap.size w w' := by
  have HH := Aside.intro hX
  clear hX
  obtain ⟨W1, hW1⟩ : ∃ W, W = ((w.alloc (.cells #[.bool n, .slice a l c, .int .i64 e] 38)).alloc (.cells #[.bool m, .slice b k d, .int .i64 f] 38)).alloc (.cells #[.bool false, .slice none 0 0, .int .i64 0] 38) := ⟨_, rfl⟩
  obtain ⟨hB, hz1, DA, DB, DR⟩ := add_begin w n m (.slice a l c) (.slice b k d) e f W1 hW1
  have H1 := hid (HF1.out W1 hB)
  have SB := (Aside.intro (And.intro hB (And.intro hz1 (And.intro DA (And.intro DB DR)))))
  clear hB hz1 DA DB DR HF1
  go_enter Tryd.func24, Tryd.ntmps24
  go_wp2_with fail
  rw [← hW1]
  clear hW1
  refine (Calls.mono H1.out) ?_
  rintro r u1 ⟨⟨v, rfl, hN⟩, hb⟩
  obtain ⟨a1, c1, rfl, _⟩ := hN.arg (by omega)
  obtain ⟨hB, hz1, DA, DB, DR⟩ := SB.out
  obtain ⟨U1, hU1⟩ : ∃ U, U = u1.alloc (.cells #[.bool n1, .slice a1 (ws X).length c1, .int .i64 e1] 38) := ⟨_, rfl⟩
  have hA : Below u1.heap.size u1 U1 := by rw [hU1]; exact below_alloc _ _
  have hs1 : w.heap.size + 3 ≤ u1.heap.size := by have := hb.size; omega
  have hs2 : u1.heap.size < U1.heap.size := by rw [hU1]; simp
  have FB := (DB.below hb).below hA
  have FR := (DR.below hb).below hA
  have DX : Dk U1 u1.heap.size n1 (.slice a1 (ws X).length c1) e1 := by rw [hU1]; exact Dk.new _ _ _ _
  have NX : Nt (w.heap.size + 3) U1 (.slice a1 (ws X).length c1) X := (hN.mono (by omega)).below hA
  have BU : Below w.heap.size w U1 := (hB.trans (hb.mono (by omega))).trans (hA.mono (by omega))
  have H2 := hid (HF2.out U1 BU)
  obtain ⟨y0, y1, y2, yf0, yf1, yf2⟩ := FB.facts
  have S1 := (Aside.intro (And.intro BU (And.intro FR (And.intro DX NX))))
  clear hN hb H1 hB hz1 hA DA DB DR FB FR DX NX BU SB HF2
  go_upto_region 2 with fail
  rw [← hU1]
  clear hU1
  go_wp2_with fail
  clear y0 y1 y2 yf0 yf1 yf2
  refine (Calls.mono H2.out) ?_
  rintro r u2 ⟨⟨v, rfl, hM⟩, hb⟩
  obtain ⟨a2, c2, rfl, _⟩ := hM.arg (by omega)
  obtain ⟨BU, FR, DX, NX⟩ := S1.out
  obtain ⟨U2, hU2⟩ : ∃ U, U = u2.alloc (.cells #[.bool m1, .slice a2 (ws Y).length c2, .int .i64 f1] 38) := ⟨_, rfl⟩
  have hA : Below u2.heap.size u2 U2 := by rw [hU2]; exact below_alloc _ _
  have hs3 : U1.heap.size ≤ u2.heap.size := hb.size
  have hs4 : u2.heap.size < U2.heap.size := by rw [hU2]; simp
  have GR := (FR.below hb).below hA
  have GX := (DX.below hb).below hA
  have GY : Dk U2 u2.heap.size m1 (.slice a2 (ws Y).length c2) f1 := by rw [hU2]; exact Dk.new _ _ _ _
  have MX := (NX.below hb).below hA
  have MY : Nt (w.heap.size + 3) U2 (.slice a2 (ws Y).length c2) Y := (hM.mono (by omega)).below hA
  have BV : Below w.heap.size w U2 := (BU.trans (hb.mono (by omega))).trans (hA.mono (by omega))
  have S2 := (Aside.intro (And.intro BV (And.intro GR (And.intro GX (And.intro GY (And.intro MX MY))))))
  clear hM hb H2 hA FR DX NX BU GR GX GY MX MY BV S1
  go_upto_region 5 with fail
  rw [← hU2]
  clear hU2
  obtain ⟨r0, r1, r2, rf0, rf1, rf2⟩ := S2.out.2.1.facts
  obtain ⟨x0, x1, x2, xf0, xf1, xf2⟩ := S2.out.2.2.1.facts
  obtain ⟨y0, y1, y2, yf0, yf1, yf2⟩ := S2.out.2.2.2.1.facts
  have hX := HH.out
  go_wp2
  refine bodyPost_ret (radd_res _ (w.heap.size + 1 + 1) m1 (.slice a2 (ws Y).length c2) f1 0 _ rfl rfl (S2.out.2.1.set _ _ _)) rfl ?_
  refine Fin.dans (m := w.heap.size + 3) ?_ (by omega)
  have FE : Fin w.heap.size (w.heap.size + 3) w U2 _ _ := ⟨S2.out.2.2.2.2.2, S2.out.1, by omega⟩
  repeat (with_reducible first | exact FE | refine Fin.drew ?_ | refine Fin.alloc ?_ _ | refine Fin.set ?_ _ _ _ (by omega) (by omega))
  exact FE

set_option maxHeartbeats 4000000 in
theorem radd_right {w : World} {a b : Option Addr} {l c k d : Nat} (n m : Bool) (e f : Int) (n1 m1 : Bool) (X Y : Nat) (e1 f1 : Int) (lX : (ws X).length ≤ 8192) (lY : (ws Y).length ≤ 8192) (hX : ((((ws X).length : Nat) : Int) == 0) = false) (hY : (ws Y).length = 0)
    (HF1 : Hid (∀ u, Below w.heap.size w u → Calls Tryd.prog 73 #[.agg #[.bool n, .slice a l c, .int .i64 e]] u fun r w' => (∃ v, r = .returned (.tuple #[.agg #[.bool n1, v, .int .i64 e1], .bool true]) ∧ Nt u.heap.size w' v X) ∧ Below u.heap.size u w'))
    (HF2 : Hid (∀ u, Below w.heap.size w u → Calls Tryd.prog 73 #[.agg #[.bool m, .slice b k d, .int .i64 f]] u fun r w' => (∃ v, r = .returned (.tuple #[.agg #[.bool m1, v, .int .i64 f1], .bool true]) ∧ Nt u.heap.size w' v Y) ∧ Below u.heap.size u w')) : Calls Tryd.prog 24 #[.agg #[.bool n, .slice a l c, .int .i64 e], .agg #[.bool m, .slice b k d, .int .i64 f]] w fun r w' => DAns w.heap.size w' r (some (n1, X, e1)) ∧ Below w.heap.size w w' := by
  have HH := Aside.intro hY
  clear hY
  obtain ⟨W1, hW1⟩ : ∃ W, W = ((w.alloc (.cells #[.bool n, .slice a l c, .int .i64 e] 38)).alloc (.cells #[.bool m, .slice b k d, .int .i64 f] 38)).alloc (.cells #[.bool false, .slice none 0 0, .int .i64 0] 38) := ⟨_, rfl⟩
  obtain ⟨hB, hz1, DA, DB, DR⟩ := add_begin w n m (.slice a l c) (.slice b k d) e f W1 hW1
  have H1 := hid (HF1.out W1 hB)
  have SB := (Aside.intro (And.intro hB (And.intro hz1 (And.intro DA (And.intro DB DR)))))
  clear hB hz1 DA DB DR HF1
  go_enter Tryd.func24, Tryd.ntmps24
  go_wp2_with fail
  rw [← hW1]
  clear hW1
  refine (Calls.mono H1.out) ?_
  rintro r u1 ⟨⟨v, rfl, hN⟩, hb⟩
  obtain ⟨a1, c1, rfl, _⟩ := hN.arg (by omega)
  obtain ⟨hB, hz1, DA, DB, DR⟩ := SB.out
  obtain ⟨U1, hU1⟩ : ∃ U, U = u1.alloc (.cells #[.bool n1, .slice a1 (ws X).length c1, .int .i64 e1] 38) := ⟨_, rfl⟩
  have hA : Below u1.heap.size u1 U1 := by rw [hU1]; exact below_alloc _ _
  have hs1 : w.heap.size + 3 ≤ u1.heap.size := by have := hb.size; omega
  have hs2 : u1.heap.size < U1.heap.size := by rw [hU1]; simp
  have FB := (DB.below hb).below hA
  have FR := (DR.below hb).below hA
  have DX : Dk U1 u1.heap.size n1 (.slice a1 (ws X).length c1) e1 := by rw [hU1]; exact Dk.new _ _ _ _
  have NX : Nt (w.heap.size + 3) U1 (.slice a1 (ws X).length c1) X := (hN.mono (by omega)).below hA
  have BU : Below w.heap.size w U1 := (hB.trans (hb.mono (by omega))).trans (hA.mono (by omega))
  have H2 := hid (HF2.out U1 BU)
  obtain ⟨y0, y1, y2, yf0, yf1, yf2⟩ := FB.facts
  have S1 := (Aside.intro (And.intro BU (And.intro FR (And.intro DX NX))))
  clear hN hb H1 hB hz1 hA DA DB DR FB FR DX NX BU SB HF2
  go_upto_region 2 with fail
  rw [← hU1]
  clear hU1
  go_wp2_with fail
  clear y0 y1 y2 yf0 yf1 yf2
  refine (Calls.mono H2.out) ?_
  rintro r u2 ⟨⟨v, rfl, hM⟩, hb⟩
  obtain ⟨a2, c2, rfl, _⟩ := hM.arg (by omega)
  obtain ⟨BU, FR, DX, NX⟩ := S1.out
  obtain ⟨U2, hU2⟩ : ∃ U, U = u2.alloc (.cells #[.bool m1, .slice a2 (ws Y).length c2, .int .i64 f1] 38) := ⟨_, rfl⟩
  have hA : Below u2.heap.size u2 U2 := by rw [hU2]; exact below_alloc _ _
  have hs3 : U1.heap.size ≤ u2.heap.size := hb.size
  have hs4 : u2.heap.size < U2.heap.size := by rw [hU2]; simp
  have GR := (FR.below hb).below hA
  have GX := (DX.below hb).below hA
  have GY : Dk U2 u2.heap.size m1 (.slice a2 (ws Y).length c2) f1 := by rw [hU2]; exact Dk.new _ _ _ _
  have MX := (NX.below hb).below hA
  have MY : Nt (w.heap.size + 3) U2 (.slice a2 (ws Y).length c2) Y := (hM.mono (by omega)).below hA
  have BV : Below w.heap.size w U2 := (BU.trans (hb.mono (by omega))).trans (hA.mono (by omega))
  have S2 := (Aside.intro (And.intro BV (And.intro GR (And.intro GX (And.intro GY (And.intro MX MY))))))
  clear hM hb H2 hA FR DX NX BU GR GX GY MX MY BV S1
  go_upto_region 5 with fail
  rw [← hU2]
  clear hU2
  obtain ⟨r0, r1, r2, rf0, rf1, rf2⟩ := S2.out.2.1.facts
  obtain ⟨x0, x1, x2, xf0, xf1, xf2⟩ := S2.out.2.2.1.facts
  obtain ⟨y0, y1, y2, yf0, yf1, yf2⟩ := S2.out.2.2.2.1.facts
  have hY := HH.out
  go_wp2
  refine bodyPost_ret (radd_res _ (w.heap.size + 1 + 1) n1 (.slice a1 (ws X).length c1) e1 0 _ rfl rfl (S2.out.2.1.set _ _ _)) rfl ?_
  refine Fin.dans (m := w.heap.size + 3) ?_ (by omega)
  have FE : Fin w.heap.size (w.heap.size + 3) w U2 _ _ := ⟨S2.out.2.2.2.2.1, S2.out.1, by omega⟩
  repeat (with_reducible first | exact FE | refine Fin.drew ?_ | refine Fin.alloc ?_ _ | refine Fin.set ?_ _ _ _ (by omega) (by omega))
  exact FE

end Go.Proofs.YtonhahbmdekkdaaDoor
