/- The document's Add. -/
import Derived.Test.YteoednbmhiblfaaGreatDoorH6x
import Derived.Deep.Cut
import Derived.Deep.RegionHeld3
import Derived.Test.YteoednbmhiblfaaGreatDoorD21x
import Derived.Deep.RegionWith
import Derived.Deep.CutRange
import Derived.Test.YteoednbmhiblfaaGreatDoorM10x
import Derived.Test.YteoednbmhiblfaaGreatDoorD16x
import Derived.BigQuiet
namespace Go.Proofs.YteoednbmhiblfaaGreatDoor
open Go.RowKit
set_option linter.unusedVariables false
set_option maxRecDepth 20000
set_option linter.unusedSimpArgs false

set_option maxHeartbeats 4000000 in
theorem radd_ge {w : World} {a b : Option Addr} {l c k d : Nat} (n m : Bool) (e f : Int) (n1 m1 : Bool) (X Y : Nat) (e1 f1 : Int) (lX : (ws X).length ≤ 8192) (lY : (ws Y).length ≤ 8192) (hX : ((((ws X).length : Nat) : Int) == 0) = false) (hY : ((((ws Y).length : Nat) : Int) == 0) = false) (be0 : -1048576 ≤ e1) (be1 : e1 ≤ 1048576) (bf0 : -1048576 ≤ f1) (bf1 : f1 ≤ 1048576) (g : Int) (hg : min e1 f1 = g) (bg0 : -1048576 ≤ g) (bg1 : g ≤ 1048576) (P Q : Nat) (lP : (ws P).length ≤ 1000000) (lQ : (ws Q).length ≤ 1000000) (h5 : (ws P).length ≤ 8192) (h6 : (ws Q).length ≤ 8192) (hs : (n1 == m1) = false) (z : Int) (hz : 0 ≤ z) (L : Nat) (lL : (ws L).length ≤ 1000000) (dn : Bool) (V : Nat) (de er : Int) (lV : (ws V).length ≤ 8192)
    (HF1 : Hid (∀ u, Below w.heap.size w u → Calls Tryz.prog 116 #[.agg #[.bool n, .slice a l c, .int .i64 e]] u fun r w' => (∃ v, r = .returned (.tuple #[.agg #[.bool n1, v, .int .i64 e1], .bool true]) ∧ Nt u.heap.size w' v X) ∧ Below u.heap.size u w'))
    (HF2 : Hid (∀ u, Below w.heap.size w u → Calls Tryz.prog 116 #[.agg #[.bool m, .slice b k d, .int .i64 f]] u fun r w' => (∃ v, r = .returned (.tuple #[.agg #[.bool m1, v, .int .i64 f1], .bool true]) ∧ Nt u.heap.size w' v Y) ∧ Below u.heap.size u w'))
    (HP : Hid (∀ (u : World) (v : Value), Below w.heap.size w u → Nt (w.heap.size + 3) u v X → Calls Tryz.prog 117 #[v, .int .i64 (e1 - g)] u fun r w' => ∃ v, r = .returned v ∧ Nt u.heap.size w' v P ∧ Below u.heap.size u w'))
    (HQ : Hid (∀ (u : World) (v : Value), Below w.heap.size w u → Nt (w.heap.size + 3) u v Y → Calls Tryz.prog 117 #[v, .int .i64 (f1 - g)] u fun r w' => ∃ v, r = .returned v ∧ Nt u.heap.size w' v Q ∧ Below u.heap.size u w'))
    (HC : Hid (∀ (u : World) (p q : Option Addr) (s t : Nat), Below w.heap.size w u → Arg u p (ws P).length s (ws P) → Arg u q (ws Q).length t (ws Q) → Calls Tryz.prog 120 #[.slice p (ws P).length s, .slice q (ws Q).length t] u fun r w' => r = .returned (.int .i64 z) ∧ Below u.heap.size u w'))
    (HT : Hid (∀ (u : World) (p q : Option Addr) (s t : Nat), Below w.heap.size w u → Arg u p (ws P).length s (ws P) → Arg u q (ws Q).length t (ws Q) → Calls Tryz.prog 121 #[.slice p (ws P).length s, .slice q (ws Q).length t] u fun r w' => ∃ v, r = .returned v ∧ Nt u.heap.size w' v L ∧ Below u.heap.size u w'))
    (HL : Hid (∀ (u : World) (p : Option Addr) (s : Nat), Below w.heap.size w u → Arg u p (ws L).length s (ws L) → Calls Tryz.prog 118 #[.bool n1, .slice p (ws L).length s, .int .i64 g] u fun r w' => (∃ v, r = .returned (.tuple #[.agg #[.bool dn, v, .int .i64 de], .int .i64 er]) ∧ Nt u.heap.size w' v V) ∧ Below u.heap.size u w')) : Calls Tryz.prog 77 #[.agg #[.bool n, .slice a l c, .int .i64 e], .agg #[.bool m, .slice b k d, .int .i64 f]] w fun r w' => (∃ v, r = .returned (.tuple #[.agg #[.bool dn, v, .int .i64 de], .int .i64 er]) ∧ Nt w.heap.size w' v V) ∧ Below w.heap.size w w' := by
  obtain ⟨W1, hW1⟩ : ∃ W, W = ((w.alloc (.cells #[.bool n, .slice a l c, .int .i64 e] 37)).alloc (.cells #[.bool m, .slice b k d, .int .i64 f] 37)).alloc (.cells #[.bool false, .slice none 0 0, .int .i64 0] 37) := ⟨_, rfl⟩
  obtain ⟨hB, hz1, DA, DB, DR⟩ := add_begin w n m (.slice a l c) (.slice b k d) e f W1 hW1
  have H1 := hid (HF1.out W1 hB)
  have SB := (Aside.intro (And.intro hB (And.intro hz1 (And.intro DA (And.intro DB DR)))))
  clear hB hz1 DA DB DR HF1
  go_enter Tryz.func77, Tryz.ntmps77
  go_wp2_with fail
  rw [← hW1]
  clear hW1
  refine (Calls.mono H1.out) ?_
  rintro r u1 ⟨⟨v, rfl, hN⟩, hb⟩
  obtain ⟨a1, c1, rfl, _⟩ := hN.arg (by omega)
  obtain ⟨hB, hz1, DA, DB, DR⟩ := SB.out
  obtain ⟨U1, hU1⟩ : ∃ U, U = u1.alloc (.cells #[.bool n1, .slice a1 (ws X).length c1, .int .i64 e1] 37) := ⟨_, rfl⟩
  have hA : Below u1.heap.size u1 U1 := by rw [hU1]; exact below_alloc _ _
  have hs1 : w.heap.size + 3 ≤ u1.heap.size := by have := hb.size; omega
  have hs2 : u1.heap.size < U1.heap.size := by rw [hU1]; simp
  have FB := (DB.below hb).below hA
  have FR := (DR.below hb).below hA
  have DX : Dk U1 u1.heap.size n1 (.slice a1 (ws X).length c1) e1 := by rw [hU1]; exact Dk.new _ _ _ _
  have NX : Nt (w.heap.size + 3) U1 (.slice a1 (ws X).length c1) X := (hN.mono (by omega)).below hA
  have BU : Below w.heap.size w U1 := (hB.trans (hb.mono (by omega))).trans (hA.mono (by omega))
  have H2 := hid (HF2.out U1 BU)
  obtain ⟨y0, y1, y2, yf0, yf1, yf2⟩ := FB.facts
  have S1 := (Aside.intro (And.intro BU (And.intro FR (And.intro DX NX))))
  clear hN hb H1 hB hz1 hA DA DB DR FB FR DX NX BU SB HF2
  go_upto_region 2 with fail
  rw [← hU1]
  clear hU1
  go_wp2_with fail
  clear y0 y1 y2 yf0 yf1 yf2
  refine (Calls.mono H2.out) ?_
  rintro r u2 ⟨⟨v, rfl, hM⟩, hb⟩
  obtain ⟨a2, c2, rfl, _⟩ := hM.arg (by omega)
  obtain ⟨BU, FR, DX, NX⟩ := S1.out
  obtain ⟨U2, hU2⟩ : ∃ U, U = u2.alloc (.cells #[.bool m1, .slice a2 (ws Y).length c2, .int .i64 f1] 37) := ⟨_, rfl⟩
  have hA : Below u2.heap.size u2 U2 := by rw [hU2]; exact below_alloc _ _
  have hs3 : U1.heap.size ≤ u2.heap.size := hb.size
  have hs4 : u2.heap.size < U2.heap.size := by rw [hU2]; simp
  have GR := (FR.below hb).below hA
  have GX := (DX.below hb).below hA
  have GY : Dk U2 u2.heap.size m1 (.slice a2 (ws Y).length c2) f1 := by rw [hU2]; exact Dk.new _ _ _ _
  have MX := (NX.below hb).below hA
  have MY : Nt (w.heap.size + 3) U2 (.slice a2 (ws Y).length c2) Y := (hM.mono (by omega)).below hA
  have BV : Below w.heap.size w U2 := (BU.trans (hb.mono (by omega))).trans (hA.mono (by omega))
  have S2 := (Aside.intro (And.intro BV (And.intro GR (And.intro GX (And.intro GY (And.intro MX MY))))))
  clear hM hb H2 hA FR DX NX BU GR GX GY MX MY BV S1
  go_upto_region 5 with fail
  rw [← hU2]
  clear hU2
  obtain ⟨r0, r1, r2, rf0, rf1, rf2⟩ := S2.out.2.1.facts
  obtain ⟨x0, x1, x2, xf0, xf1, xf2⟩ := S2.out.2.2.1.facts
  obtain ⟨y0, y1, y2, yf0, yf1, yf2⟩ := S2.out.2.2.2.1.facts
  have H3 := hid (HP.out U2 _ S2.out.1 S2.out.2.2.2.2.1)
  clear HP
  go_wp2_with fail
  clear r0 r1 r2 rf0 rf1 rf2 x0 x1 x2 xf0 xf1 xf2 y0 y1 y2 yf0 yf1 yf2
  refine (Calls.mono H3.out) ?_
  rintro r u5 ⟨v, rfl, hP, hb⟩
  obtain ⟨a5, c5, rfl, _⟩ := hP.arg (by omega)
  obtain ⟨BV, GR, GX, GY, MX, MY⟩ := S2.out
  have hs5 : U2.heap.size ≤ u5.heap.size := hb.size
  have BV5 : Below w.heap.size w u5 := BV.trans (hb.mono (by omega))
  have H4 := hid (HQ.out u5 _ BV5 (MY.below hb))
  have S5 := (Aside.intro (And.intro BV5 (And.intro (GR.below hb) (And.intro (GX.below hb) (And.intro (GY.below hb) (And.intro (MX.below hb) (hP.mono (lo' := w.heap.size + 3) (by omega))))))))
  clear BV GR GX GY MX MY BV5 hP hb H3 S2 HQ
  obtain ⟨r0, r1, r2, rf0, rf1, rf2⟩ := S5.out.2.1.facts
  obtain ⟨x0, x1, x2, xf0, xf1, xf2⟩ := S5.out.2.2.1.facts
  obtain ⟨y0, y1, y2, yf0, yf1, yf2⟩ := S5.out.2.2.2.1.facts
  go_wp2_with fail
  clear r0 r1 r2 rf0 rf1 rf2 x0 x1 x2 xf0 xf1 xf2 y0 y1 y2 yf0 yf1 yf2
  refine (Calls.mono H4.out) ?_
  rintro r u6 ⟨v, rfl, hQ, hb⟩
  obtain ⟨a6, c6, rfl, _⟩ := hQ.arg (by omega)
  obtain ⟨BV, GR, GX, GY, MX, MP⟩ := S5.out
  have hs6 : u5.heap.size ≤ u6.heap.size := hb.size
  have S2 := (Aside.intro (And.intro (BV.trans (hb.mono (by omega))) (And.intro (GR.below hb) (And.intro (GX.below hb) (And.intro (GY.below hb) (And.intro (MP.below hb) (hQ.mono (lo' := w.heap.size + 3) (by omega))))))))
  clear BV GR GX GY MX MP hQ hb H4 S5
  obtain ⟨r0, r1, r2, rf0, rf1, rf2⟩ := S2.out.2.1.facts
  obtain ⟨x0, x1, x2, xf0, xf1, xf2⟩ := S2.out.2.2.1.facts
  obtain ⟨y0, y1, y2, yf0, yf1, yf2⟩ := S2.out.2.2.2.1.facts
  have H7 := hid (HC.out u6 a5 a6 c5 c6 S2.out.1 (S2.out.2.2.2.2.1.arg' (by omega)).2 (S2.out.2.2.2.2.2.arg' (by omega)).2)
  clear HC
  go_wp2_with fail
  clear r0 r1 r2 rf0 rf1 rf2 x0 x1 x2 xf0 xf1 xf2 y0 y1 y2 yf0 yf1 yf2
  refine (Calls.mono H7.out) ?_
  rintro r u7 ⟨rfl, hb⟩
  obtain ⟨BV, GR, GX, GY, MP, MQ⟩ := S2.out
  have hs7 : u6.heap.size ≤ u7.heap.size := hb.size
  have S2' := (Aside.intro (And.intro (BV.trans (hb.mono (by omega))) (And.intro (GR.below hb) (And.intro (GX.below hb) (And.intro (GY.below hb) (And.intro (MP.below hb) (MQ.below hb)))))))
  clear S2
  have S2 := S2'
  clear BV GR GX GY MP MQ hb H7 S2'
  obtain ⟨r0, r1, r2, rf0, rf1, rf2⟩ := S2.out.2.1.facts
  obtain ⟨x0, x1, x2, xf0, xf1, xf2⟩ := S2.out.2.2.1.facts
  obtain ⟨y0, y1, y2, yf0, yf1, yf2⟩ := S2.out.2.2.2.1.facts
  go_wp2_with fail
  have ne1 : u1.heap.size ≠ w.heap.size + 1 + 1 := by omega
  have ne2 : u2.heap.size ≠ w.heap.size + 1 + 1 := by omega
  have ne3 : w.heap.size + 1 + 1 ≠ u1.heap.size := by omega
  have ne4 : w.heap.size + 1 + 1 ≠ u2.heap.size := by omega
  have T1 := hid (HT.out u7 a5 a6 c5 c6 S2.out.1 (S2.out.2.2.2.2.1.arg' (by omega)).2 (S2.out.2.2.2.2.2.arg' (by omega)).2)
  have T2 := hid (HT.out u7.drew a5 a6 c5 c6 (Below.drew S2.out.1) (Arg.drew' (S2.out.2.2.2.2.1.arg' (by omega)).2) (Arg.drew' (S2.out.2.2.2.2.2.arg' (by omega)).2))
  go_region_held3 (fun w' => w'.cell? ⟨u1.heap.size, 0, none⟩ = some (.bool n1) ∧ w'.cell? ⟨u1.heap.size, 1, none⟩ = some (.slice a1 (ws X).length c1) ∧ w'.cell? ⟨u1.heap.size, 2, none⟩ = some (.int .i64 e1) ∧ w'.cell? ⟨u2.heap.size, 0, none⟩ = some (.bool m1) ∧ w'.cell? ⟨u2.heap.size, 1, none⟩ = some (.slice a2 (ws Y).length c2) ∧ w'.cell? ⟨u2.heap.size, 2, none⟩ = some (.int .i64 f1)) (go_keep) (first
    | (go_at_call 121
       first | with_reducible refine T1.out.mono ?_ | with_reducible refine T2.out.mono ?_
       rintro r u3 ⟨v, rfl, hN, hb⟩
       obtain ⟨a3, c3, rfl, _⟩ := hN.arg (by omega)
       have hb3 : Below u7.heap.size u7 u3 := by first | exact hb | exact ((Below.refl _ u7).drew).trans (hb.mono (Nat.le_refl _))
       have HL3 := hid (HL.out u3 a3 c3 (S2.out.1.trans (hb3.mono (by omega))) (hN.arg' (by omega)).2)
       have KR := S2.out.2.1.below hb3
       have KX := S2.out.2.2.1.below hb3
       have KY := S2.out.2.2.2.1.below hb3
       obtain ⟨p0, p1, p2, pf0, pf1, pf2⟩ := KR.facts
       obtain ⟨q0, q1, q2, qf0, qf1, qf2⟩ := KX.facts
       obtain ⟨s0, s1, s2, sf0, sf1, sf2⟩ := KY.facts
       have hs9 : u7.heap.size ≤ u3.heap.size := hb3.size
       have S9 := (Aside.intro (And.intro (S2.out.1.trans (hb3.mono (by omega))) (And.intro KR (And.intro KX KY))))
       clear hN hb hb3 KR KX KY)
    | (go_at_call 118
       with_reducible refine HL3.out.mono ?_
       rintro r u4 ⟨⟨v, rfl, hN⟩, hb⟩
       obtain ⟨a4, c4, rfl, _⟩ := hN.arg (by omega)
       have LR := S9.out.2.1.below hb
       obtain ⟨t0, t1, t2, tf0, tf1, tf2⟩ := LR.facts
       obtain ⟨i0, i1, i2, if0, if1, if2⟩ := (S9.out.2.2.1.below hb).facts
       obtain ⟨j0, j1, j2, jf0, jf1, jf2⟩ := (S9.out.2.2.2.below hb).facts
       have FV := Aside.intro (show Fin w.heap.size (w.heap.size + 3) w u4 (.slice a4 (ws V).length c4) V from ⟨hN.mono (by omega), S9.out.1.trans (hb.mono (by omega)), by have := hb.size; omega⟩)
       have S10 := Aside.intro LR
       clear hN hb LR))
  all_goals (
    go_wp2
    refine bodyPost_ret (radd_res _ (w.heap.size + 1 + 1) dn (.slice a4 (ws V).length c4) de er _ rfl rfl (S10.out.set _ _ _)) rfl ?_
    refine Fin.dans (m := w.heap.size + 3) ?_ (by omega)
    repeat (with_reducible first | exact FV.out | refine Fin.drew ?_ | refine Fin.alloc ?_ _ | refine Fin.set ?_ _ _ _ (by omega) (by omega)))

end Go.Proofs.YteoednbmhiblfaaGreatDoor

/- The document's Add. -/
namespace Go.Proofs.YteoednbmhiblfaaGreatDoor
open Go.RowKit
set_option linter.unusedVariables false
set_option maxRecDepth 20000
set_option linter.unusedSimpArgs false

set_option maxHeartbeats 4000000 in
theorem radd_lt {w : World} {a b : Option Addr} {l c k d : Nat} (n m : Bool) (e f : Int) (n1 m1 : Bool) (X Y : Nat) (e1 f1 : Int) (lX : (ws X).length ≤ 8192) (lY : (ws Y).length ≤ 8192) (hX : ((((ws X).length : Nat) : Int) == 0) = false) (hY : ((((ws Y).length : Nat) : Int) == 0) = false) (be0 : -1048576 ≤ e1) (be1 : e1 ≤ 1048576) (bf0 : -1048576 ≤ f1) (bf1 : f1 ≤ 1048576) (g : Int) (hg : min e1 f1 = g) (bg0 : -1048576 ≤ g) (bg1 : g ≤ 1048576) (P Q : Nat) (lP : (ws P).length ≤ 1000000) (lQ : (ws Q).length ≤ 1000000) (h5 : (ws P).length ≤ 8192) (h6 : (ws Q).length ≤ 8192) (hs : (n1 == m1) = false) (z : Int) (hz : z < 0) (L : Nat) (lL : (ws L).length ≤ 1000000) (dn : Bool) (V : Nat) (de er : Int) (lV : (ws V).length ≤ 8192)
    (HF1 : Hid (∀ u, Below w.heap.size w u → Calls Tryz.prog 116 #[.agg #[.bool n, .slice a l c, .int .i64 e]] u fun r w' => (∃ v, r = .returned (.tuple #[.agg #[.bool n1, v, .int .i64 e1], .bool true]) ∧ Nt u.heap.size w' v X) ∧ Below u.heap.size u w'))
    (HF2 : Hid (∀ u, Below w.heap.size w u → Calls Tryz.prog 116 #[.agg #[.bool m, .slice b k d, .int .i64 f]] u fun r w' => (∃ v, r = .returned (.tuple #[.agg #[.bool m1, v, .int .i64 f1], .bool true]) ∧ Nt u.heap.size w' v Y) ∧ Below u.heap.size u w'))
    (HP : Hid (∀ (u : World) (v : Value), Below w.heap.size w u → Nt (w.heap.size + 3) u v X → Calls Tryz.prog 117 #[v, .int .i64 (e1 - g)] u fun r w' => ∃ v, r = .returned v ∧ Nt u.heap.size w' v P ∧ Below u.heap.size u w'))
    (HQ : Hid (∀ (u : World) (v : Value), Below w.heap.size w u → Nt (w.heap.size + 3) u v Y → Calls Tryz.prog 117 #[v, .int .i64 (f1 - g)] u fun r w' => ∃ v, r = .returned v ∧ Nt u.heap.size w' v Q ∧ Below u.heap.size u w'))
    (HC : Hid (∀ (u : World) (p q : Option Addr) (s t : Nat), Below w.heap.size w u → Arg u p (ws P).length s (ws P) → Arg u q (ws Q).length t (ws Q) → Calls Tryz.prog 120 #[.slice p (ws P).length s, .slice q (ws Q).length t] u fun r w' => r = .returned (.int .i64 z) ∧ Below u.heap.size u w'))
    (HT : Hid (∀ (u : World) (p q : Option Addr) (s t : Nat), Below w.heap.size w u → Arg u p (ws Q).length s (ws Q) → Arg u q (ws P).length t (ws P) → Calls Tryz.prog 121 #[.slice p (ws Q).length s, .slice q (ws P).length t] u fun r w' => ∃ v, r = .returned v ∧ Nt u.heap.size w' v L ∧ Below u.heap.size u w'))
    (HL : Hid (∀ (u : World) (p : Option Addr) (s : Nat), Below w.heap.size w u → Arg u p (ws L).length s (ws L) → Calls Tryz.prog 118 #[.bool m1, .slice p (ws L).length s, .int .i64 g] u fun r w' => (∃ v, r = .returned (.tuple #[.agg #[.bool dn, v, .int .i64 de], .int .i64 er]) ∧ Nt u.heap.size w' v V) ∧ Below u.heap.size u w')) : Calls Tryz.prog 77 #[.agg #[.bool n, .slice a l c, .int .i64 e], .agg #[.bool m, .slice b k d, .int .i64 f]] w fun r w' => (∃ v, r = .returned (.tuple #[.agg #[.bool dn, v, .int .i64 de], .int .i64 er]) ∧ Nt w.heap.size w' v V) ∧ Below w.heap.size w w' := by
  obtain ⟨W1, hW1⟩ : ∃ W, W = ((w.alloc (.cells #[.bool n, .slice a l c, .int .i64 e] 37)).alloc (.cells #[.bool m, .slice b k d, .int .i64 f] 37)).alloc (.cells #[.bool false, .slice none 0 0, .int .i64 0] 37) := ⟨_, rfl⟩
  obtain ⟨hB, hz1, DA, DB, DR⟩ := add_begin w n m (.slice a l c) (.slice b k d) e f W1 hW1
  have H1 := hid (HF1.out W1 hB)
  have SB := (Aside.intro (And.intro hB (And.intro hz1 (And.intro DA (And.intro DB DR)))))
  clear hB hz1 DA DB DR HF1
  go_enter Tryz.func77, Tryz.ntmps77
  go_wp2_with fail
  rw [← hW1]
  clear hW1
  refine (Calls.mono H1.out) ?_
  rintro r u1 ⟨⟨v, rfl, hN⟩, hb⟩
  obtain ⟨a1, c1, rfl, _⟩ := hN.arg (by omega)
  obtain ⟨hB, hz1, DA, DB, DR⟩ := SB.out
  obtain ⟨U1, hU1⟩ : ∃ U, U = u1.alloc (.cells #[.bool n1, .slice a1 (ws X).length c1, .int .i64 e1] 37) := ⟨_, rfl⟩
  have hA : Below u1.heap.size u1 U1 := by rw [hU1]; exact below_alloc _ _
  have hs1 : w.heap.size + 3 ≤ u1.heap.size := by have := hb.size; omega
  have hs2 : u1.heap.size < U1.heap.size := by rw [hU1]; simp
  have FB := (DB.below hb).below hA
  have FR := (DR.below hb).below hA
  have DX : Dk U1 u1.heap.size n1 (.slice a1 (ws X).length c1) e1 := by rw [hU1]; exact Dk.new _ _ _ _
  have NX : Nt (w.heap.size + 3) U1 (.slice a1 (ws X).length c1) X := (hN.mono (by omega)).below hA
  have BU : Below w.heap.size w U1 := (hB.trans (hb.mono (by omega))).trans (hA.mono (by omega))
  have H2 := hid (HF2.out U1 BU)
  obtain ⟨y0, y1, y2, yf0, yf1, yf2⟩ := FB.facts
  have S1 := (Aside.intro (And.intro BU (And.intro FR (And.intro DX NX))))
  clear hN hb H1 hB hz1 hA DA DB DR FB FR DX NX BU SB HF2
  go_upto_region 2 with fail
  rw [← hU1]
  clear hU1
  go_wp2_with fail
  clear y0 y1 y2 yf0 yf1 yf2
  refine (Calls.mono H2.out) ?_
  rintro r u2 ⟨⟨v, rfl, hM⟩, hb⟩
  obtain ⟨a2, c2, rfl, _⟩ := hM.arg (by omega)
  obtain ⟨BU, FR, DX, NX⟩ := S1.out
  obtain ⟨U2, hU2⟩ : ∃ U, U = u2.alloc (.cells #[.bool m1, .slice a2 (ws Y).length c2, .int .i64 f1] 37) := ⟨_, rfl⟩
  have hA : Below u2.heap.size u2 U2 := by rw [hU2]; exact below_alloc _ _
  have hs3 : U1.heap.size ≤ u2.heap.size := hb.size
  have hs4 : u2.heap.size < U2.heap.size := by rw [hU2]; simp
  have GR := (FR.below hb).below hA
  have GX := (DX.below hb).below hA
  have GY : Dk U2 u2.heap.size m1 (.slice a2 (ws Y).length c2) f1 := by rw [hU2]; exact Dk.new _ _ _ _
  have MX := (NX.below hb).below hA
  have MY : Nt (w.heap.size + 3) U2 (.slice a2 (ws Y).length c2) Y := (hM.mono (by omega)).below hA
  have BV : Below w.heap.size w U2 := (BU.trans (hb.mono (by omega))).trans (hA.mono (by omega))
  have S2 := (Aside.intro (And.intro BV (And.intro GR (And.intro GX (And.intro GY (And.intro MX MY))))))
  clear hM hb H2 hA FR DX NX BU GR GX GY MX MY BV S1
  go_upto_region 5 with fail
  rw [← hU2]
  clear hU2
  obtain ⟨r0, r1, r2, rf0, rf1, rf2⟩ := S2.out.2.1.facts
  obtain ⟨x0, x1, x2, xf0, xf1, xf2⟩ := S2.out.2.2.1.facts
  obtain ⟨y0, y1, y2, yf0, yf1, yf2⟩ := S2.out.2.2.2.1.facts
  have H3 := hid (HP.out U2 _ S2.out.1 S2.out.2.2.2.2.1)
  clear HP
  go_wp2_with fail
  clear r0 r1 r2 rf0 rf1 rf2 x0 x1 x2 xf0 xf1 xf2 y0 y1 y2 yf0 yf1 yf2
  refine (Calls.mono H3.out) ?_
  rintro r u5 ⟨v, rfl, hP, hb⟩
  obtain ⟨a5, c5, rfl, _⟩ := hP.arg (by omega)
  obtain ⟨BV, GR, GX, GY, MX, MY⟩ := S2.out
  have hs5 : U2.heap.size ≤ u5.heap.size := hb.size
  have BV5 : Below w.heap.size w u5 := BV.trans (hb.mono (by omega))
  have H4 := hid (HQ.out u5 _ BV5 (MY.below hb))
  have S5 := (Aside.intro (And.intro BV5 (And.intro (GR.below hb) (And.intro (GX.below hb) (And.intro (GY.below hb) (And.intro (MX.below hb) (hP.mono (lo' := w.heap.size + 3) (by omega))))))))
  clear BV GR GX GY MX MY BV5 hP hb H3 S2 HQ
  obtain ⟨r0, r1, r2, rf0, rf1, rf2⟩ := S5.out.2.1.facts
  obtain ⟨x0, x1, x2, xf0, xf1, xf2⟩ := S5.out.2.2.1.facts
  obtain ⟨y0, y1, y2, yf0, yf1, yf2⟩ := S5.out.2.2.2.1.facts
  go_wp2_with fail
  clear r0 r1 r2 rf0 rf1 rf2 x0 x1 x2 xf0 xf1 xf2 y0 y1 y2 yf0 yf1 yf2
  refine (Calls.mono H4.out) ?_
  rintro r u6 ⟨v, rfl, hQ, hb⟩
  obtain ⟨a6, c6, rfl, _⟩ := hQ.arg (by omega)
  obtain ⟨BV, GR, GX, GY, MX, MP⟩ := S5.out
  have hs6 : u5.heap.size ≤ u6.heap.size := hb.size
  have S2 := (Aside.intro (And.intro (BV.trans (hb.mono (by omega))) (And.intro (GR.below hb) (And.intro (GX.below hb) (And.intro (GY.below hb) (And.intro (MP.below hb) (hQ.mono (lo' := w.heap.size + 3) (by omega))))))))
  clear BV GR GX GY MX MP hQ hb H4 S5
  obtain ⟨r0, r1, r2, rf0, rf1, rf2⟩ := S2.out.2.1.facts
  obtain ⟨x0, x1, x2, xf0, xf1, xf2⟩ := S2.out.2.2.1.facts
  obtain ⟨y0, y1, y2, yf0, yf1, yf2⟩ := S2.out.2.2.2.1.facts
  have H7 := hid (HC.out u6 a5 a6 c5 c6 S2.out.1 (S2.out.2.2.2.2.1.arg' (by omega)).2 (S2.out.2.2.2.2.2.arg' (by omega)).2)
  clear HC
  go_wp2_with fail
  clear r0 r1 r2 rf0 rf1 rf2 x0 x1 x2 xf0 xf1 xf2 y0 y1 y2 yf0 yf1 yf2
  refine (Calls.mono H7.out) ?_
  rintro r u7 ⟨rfl, hb⟩
  obtain ⟨BV, GR, GX, GY, MP, MQ⟩ := S2.out
  have hs7 : u6.heap.size ≤ u7.heap.size := hb.size
  have S2' := (Aside.intro (And.intro (BV.trans (hb.mono (by omega))) (And.intro (GR.below hb) (And.intro (GX.below hb) (And.intro (GY.below hb) (And.intro (MP.below hb) (MQ.below hb)))))))
  clear S2
  have S2 := S2'
  clear BV GR GX GY MP MQ hb H7 S2'
  obtain ⟨r0, r1, r2, rf0, rf1, rf2⟩ := S2.out.2.1.facts
  obtain ⟨x0, x1, x2, xf0, xf1, xf2⟩ := S2.out.2.2.1.facts
  obtain ⟨y0, y1, y2, yf0, yf1, yf2⟩ := S2.out.2.2.2.1.facts
  go_wp2_with fail
  have ne1 : u1.heap.size ≠ w.heap.size + 1 + 1 := by omega
  have ne2 : u2.heap.size ≠ w.heap.size + 1 + 1 := by omega
  have ne3 : w.heap.size + 1 + 1 ≠ u1.heap.size := by omega
  have ne4 : w.heap.size + 1 + 1 ≠ u2.heap.size := by omega
  have T1 := hid (HT.out u7 a6 a5 c6 c5 S2.out.1 (S2.out.2.2.2.2.2.arg' (by omega)).2 (S2.out.2.2.2.2.1.arg' (by omega)).2)
  have T2 := hid (HT.out u7.drew a6 a5 c6 c5 (Below.drew S2.out.1) (Arg.drew' (S2.out.2.2.2.2.2.arg' (by omega)).2) (Arg.drew' (S2.out.2.2.2.2.1.arg' (by omega)).2))
  go_region_held3 (fun w' => w'.cell? ⟨u1.heap.size, 0, none⟩ = some (.bool n1) ∧ w'.cell? ⟨u1.heap.size, 1, none⟩ = some (.slice a1 (ws X).length c1) ∧ w'.cell? ⟨u1.heap.size, 2, none⟩ = some (.int .i64 e1) ∧ w'.cell? ⟨u2.heap.size, 0, none⟩ = some (.bool m1) ∧ w'.cell? ⟨u2.heap.size, 1, none⟩ = some (.slice a2 (ws Y).length c2) ∧ w'.cell? ⟨u2.heap.size, 2, none⟩ = some (.int .i64 f1)) (go_keep) (first
    | (go_at_call 121
       first | with_reducible refine T1.out.mono ?_ | with_reducible refine T2.out.mono ?_
       rintro r u3 ⟨v, rfl, hN, hb⟩
       obtain ⟨a3, c3, rfl, _⟩ := hN.arg (by omega)
       have hb3 : Below u7.heap.size u7 u3 := by first | exact hb | exact ((Below.refl _ u7).drew).trans (hb.mono (Nat.le_refl _))
       have HL3 := hid (HL.out u3 a3 c3 (S2.out.1.trans (hb3.mono (by omega))) (hN.arg' (by omega)).2)
       have KR := S2.out.2.1.below hb3
       have KX := S2.out.2.2.1.below hb3
       have KY := S2.out.2.2.2.1.below hb3
       obtain ⟨p0, p1, p2, pf0, pf1, pf2⟩ := KR.facts
       obtain ⟨q0, q1, q2, qf0, qf1, qf2⟩ := KX.facts
       obtain ⟨s0, s1, s2, sf0, sf1, sf2⟩ := KY.facts
       have hs9 : u7.heap.size ≤ u3.heap.size := hb3.size
       have S9 := (Aside.intro (And.intro (S2.out.1.trans (hb3.mono (by omega))) (And.intro KR (And.intro KX KY))))
       clear hN hb hb3 KR KX KY)
    | (go_at_call 118
       with_reducible refine HL3.out.mono ?_
       rintro r u4 ⟨⟨v, rfl, hN⟩, hb⟩
       obtain ⟨a4, c4, rfl, _⟩ := hN.arg (by omega)
       have LR := S9.out.2.1.below hb
       obtain ⟨t0, t1, t2, tf0, tf1, tf2⟩ := LR.facts
       obtain ⟨i0, i1, i2, if0, if1, if2⟩ := (S9.out.2.2.1.below hb).facts
       obtain ⟨j0, j1, j2, jf0, jf1, jf2⟩ := (S9.out.2.2.2.below hb).facts
       have FV := Aside.intro (show Fin w.heap.size (w.heap.size + 3) w u4 (.slice a4 (ws V).length c4) V from ⟨hN.mono (by omega), S9.out.1.trans (hb.mono (by omega)), by have := hb.size; omega⟩)
       have S10 := Aside.intro LR
       clear hN hb LR))
  all_goals (
    go_wp2
    refine bodyPost_ret (radd_res _ (w.heap.size + 1 + 1) dn (.slice a4 (ws V).length c4) de er _ rfl rfl (S10.out.set _ _ _)) rfl ?_
    refine Fin.dans (m := w.heap.size + 3) ?_ (by omega)
    repeat (with_reducible first | exact FV.out | refine Fin.drew ?_ | refine Fin.alloc ?_ _ | refine Fin.set ?_ _ _ _ (by omega) (by omega)))

end Go.Proofs.YteoednbmhiblfaaGreatDoor

/- The law's awake (layer 3). -/
namespace Go.Proofs.YteoednbmhiblfaaGreatDoor
open Go.RowKit
set_option linter.unusedVariables false
set_option maxRecDepth 20000
set_option linter.unusedSimpArgs false
attribute [local go_sem] B.f64bits
theorem Dk.drew {w : World} {g : Nat} {n : Bool} {v : Value} {e : Int} (h : Dk w g n v e) : Dk w.drew g n v e := h
end Go.Proofs.YteoednbmhiblfaaGreatDoor

/- What the laws of layer 3 share. -/
namespace Go.Proofs.YteoednbmhiblfaaGreatDoor
open Go.RowKit
set_option linter.unusedVariables false
set_option maxRecDepth 20000

theorem Dk.but {w w' : World} {g k : Nat} {n : Bool} {v : Value} {e : Int} (h : Dk w k n v e) (hb : But g w w') (hk : k ≠ g) : Dk w' k n v e := by
  unfold Dk; rw [hb.block k h.lt hk]; exact h
end Go.Proofs.YteoednbmhiblfaaGreatDoor

/- The document's Lent, AsLent of Dyads. -/
namespace Go.Proofs.YteoednbmhiblfaaGreatDoor
open Go.RowKit
set_option linter.unusedVariables false
set_option maxRecDepth 20000
set_option linter.unusedSimpArgs false

theorem Own.st3 {w : World} {g : Nat} {L : List Nat} (h : Own w g L) (k : Nat) (hk : k ≠ g) (x y z : Value) : Own (((w.setCell ⟨k, 0, none⟩ x).setCell ⟨k, 1, none⟩ y).setCell ⟨k, 2, none⟩ z) g L :=
  ((h.setOther hk _).setOther hk _).setOther hk _

end Go.Proofs.YteoednbmhiblfaaGreatDoor

/- dyad's Sub, the document's Add and Sub; sums and products in either order. -/
namespace Go.Proofs.YteoednbmhiblfaaGreatDoor
open Go.RowKit
set_option linter.unusedVariables false
set_option maxRecDepth 20000
set_option linter.unusedSimpArgs false

theorem sub_res (W : World) (g : Nat) (n : Bool) (v : Value) (e k : Int) (tmps : Array Value) (ht : tmps[4]?.getD undef = .pointer (some ⟨g, 0, none⟩)) (hk : tmps[5]?.getD undef = .int .i64 k) (D : Dk W g n v e) :
    (results Tryz.f56 tmps).run Tryz.prog W = .ok (.tuple #[.agg #[.bool n, v, .int .i64 e], .int .i64 k]) W := by
  obtain ⟨x0, x1, x2, xf0, xf1, xf2⟩ := D.facts
  simp [results, Tryz.results56, ht, hk, go_sem, x0, x1, x2]

set_option maxHeartbeats 4000000 in
theorem sub_core {w : World} {a b : Option Addr} {l c k d : Nat} (n m : Bool) (e f : Int) (dn : Bool) (V : Nat) (de er : Int) (lV : (ws V).length ≤ 8192)
    (HT : Hid (∀ u, Calls Tryz.prog 55 #[.agg #[.bool m, .slice b k d, .int .i64 f]] u fun r w' => r = .returned (.agg #[.bool (!m), .slice b k d, .int .i64 f]) ∧ Below u.heap.size u w'))
    (HA : Hid (∀ u, Below w.heap.size w u → Calls Tryz.prog 22 #[.agg #[.bool n, .slice a l c, .int .i64 e], .agg #[.bool (!m), .slice b k d, .int .i64 f]] u fun r w' => (∃ v, r = .returned (.tuple #[.agg #[.bool dn, v, .int .i64 de], .int .i64 er]) ∧ Nt u.heap.size w' v V) ∧ Below u.heap.size u w')) :
    Calls Tryz.prog 56 #[.agg #[.bool n, .slice a l c, .int .i64 e], .agg #[.bool m, .slice b k d, .int .i64 f]] w fun r w' => (∃ v, r = .returned (.tuple #[.agg #[.bool dn, v, .int .i64 de], .int .i64 er]) ∧ Nt w.heap.size w' v V) ∧ Below w.heap.size w w' := by
  obtain ⟨W1, hW1⟩ : ∃ W, W = ((w.alloc (.cells #[.bool n, .slice a l c, .int .i64 e] 37)).alloc (.cells #[.bool m, .slice b k d, .int .i64 f] 37)).alloc (.cells #[.bool false, .slice none 0 0, .int .i64 0] 37) := ⟨_, rfl⟩
  obtain ⟨hB, hz1, DA, DB, DR⟩ := add_begin w n m (.slice a l c) (.slice b k d) e f W1 hW1
  have T1 := hid (HT.out W1)
  have T2 := hid (HT.out W1.drew)
  obtain ⟨x0, x1, x2, xf0, xf1, xf2⟩ := DA.facts
  obtain ⟨y0, y1, y2, yf0, yf1, yf2⟩ := DB.facts
  obtain ⟨r0, r1, r2, rf0, rf1, rf2⟩ := DR.facts
  have hs1 : w.heap.size + 3 ≤ W1.heap.size := by omega
  have SB := (Aside.intro (And.intro hB (And.intro DA (And.intro DB DR))))
  clear hB hz1 DA DB DR
  go_enter Tryz.func56, Tryz.ntmps56
  go_wp2_with fail
  rw [← hW1]
  clear hW1
  have ne1 : w.heap.size ≠ w.heap.size + 1 + 1 := by omega
  have ne2 : w.heap.size + 1 ≠ w.heap.size + 1 + 1 := by omega
  have ne3 : w.heap.size + 1 + 1 ≠ w.heap.size := by omega
  have ne4 : w.heap.size + 1 + 1 ≠ w.heap.size + 1 := by omega
  go_region_held3 (fun w' => w'.cell? ⟨w.heap.size, 0, none⟩ = some (.bool n) ∧ w'.cell? ⟨w.heap.size, 1, none⟩ = some (.slice a l c) ∧ w'.cell? ⟨w.heap.size, 2, none⟩ = some (.int .i64 e) ∧ w'.cell? ⟨w.heap.size + 1, 0, none⟩ = some (.bool m) ∧ w'.cell? ⟨w.heap.size + 1, 1, none⟩ = some (.slice b k d) ∧ w'.cell? ⟨w.heap.size + 1, 2, none⟩ = some (.int .i64 f)) (go_keep) (first
    | (go_at_call 55
       first | with_reducible refine T1.out.mono ?_ | with_reducible refine T2.out.mono ?_
       rintro r u1 ⟨rfl, hb⟩
       have hb1 : Below W1.heap.size W1 u1 := by first | exact hb | exact ((Below.refl _ W1).drew).trans (hb.mono (Nat.le_refl _))
       have hs2 : W1.heap.size ≤ u1.heap.size := hb1.size
       have BW : Below w.heap.size w u1 := SB.out.1.trans (hb1.mono (by omega))
       have HA1 := hid (HA.out u1 BW)
       have KR := SB.out.2.2.2.below hb1
       obtain ⟨p0, p1, p2, pf0, pf1, pf2⟩ := KR.facts
       obtain ⟨q0, q1, q2, qf0, qf1, qf2⟩ := (SB.out.2.1.below hb1).facts
       obtain ⟨s0, s1, s2, sf0, sf1, sf2⟩ := (SB.out.2.2.1.below hb1).facts
       have S1 := (Aside.intro (And.intro BW (And.intro KR (And.intro (SB.out.2.1.below hb1) (SB.out.2.2.1.below hb1)))))
       clear hb hb1 KR BW)
    | (go_at_call 22
       with_reducible refine HA1.out.mono ?_
       rintro r u2 ⟨⟨v, rfl, hN⟩, hb⟩
       obtain ⟨a4, c4, rfl, _⟩ := hN.arg (by omega)
       have LR := S1.out.2.1.below hb
       obtain ⟨t0, t1, t2, tf0, tf1, tf2⟩ := LR.facts
       obtain ⟨i0, i1, i2, if0, if1, if2⟩ := (S1.out.2.2.1.below hb).facts
       obtain ⟨j0, j1, j2, jf0, jf1, jf2⟩ := (S1.out.2.2.2.below hb).facts
       have FV := Aside.intro (show Fin w.heap.size (w.heap.size + 3) w u2 (.slice a4 (ws V).length c4) V from ⟨hN.mono (by omega), S1.out.1.trans (hb.mono (by omega)), by have := hb.size; omega⟩)
       have S10 := Aside.intro LR
       clear hN hb LR))
  all_goals (
    go_wp2
    refine bodyPost_ret (sub_res _ (w.heap.size + 1 + 1) dn (.slice a4 (ws V).length c4) de er _ rfl rfl (S10.out.set _ _ _)) rfl ?_
    refine Fin.dans (m := w.heap.size + 3) ?_ (by omega)
    repeat (with_reducible first | exact FV.out | refine Fin.drew ?_ | refine Fin.alloc ?_ _ | refine Fin.set ?_ _ _ _ (by omega) (by omega)))

theorem addUp_len (n : Bool) (X : Nat) (e : Int) (m : Bool) (Y : Nat) (f : Int) : (ws (dX (addUp n X e m Y f))).length ≤ 8192 := by
  unfold addUp
  split
  · show (ws 0).length ≤ 8192; rw [ws_zero]; exact Nat.zero_le _
  · split
    · exact mkS_len _ _ _
    · split <;> exact mkS_len _ _ _
theorem addD_len (n : Bool) (X : Nat) (e : Int) (m : Bool) (Y : Nat) (f : Int) : (ws (dX (addD (mkS n X e) (mkS m Y f)))).length ≤ 8192 := by
  have z0 : (ws 0).length ≤ 8192 := by rw [ws_zero]; exact Nat.zero_le _
  cases hx : mkS n X e with
  | none => exact z0
  | some x =>
    cases hy : mkS m Y f with
    | none => exact z0
    | some y =>
      obtain ⟨n1, X1, e1⟩ := x
      obtain ⟨m1, Y1, f1⟩ := y
      show (ws (dX (addF _ _))).length ≤ 8192
      unfold addF
      split
      · exact frm_len (mkS_frm hy)
      · split
        · exact frm_len (mkS_frm hx)
        · split <;> exact addUp_len _ _ _ _ _ _
theorem mkS_z2 (n m : Bool) (e f : Int) : mkS n 0 e = mkS m 0 f := by unfold mkS; rw [if_pos rfl, if_pos rfl]
theorem notb {n m : Bool} (h : ¬ n = m) : m = (!n) ∧ n = (!m) ∧ ¬ m = n := by
  cases n <;> cases m <;> first | exact absurd rfl h | exact ⟨rfl, rfl, fun h => by cases h⟩
theorem rAdd_any3 {w : World} {a b : Option Addr} {l c k d : Nat} {xs ys : List Nat} (h1 : Arg w a l c xs) (h2 : Arg w b k d ys) (hl : l ≤ 2000000) (hk : k ≤ 2000000) (n m : Bool) (e f : Int) (he0 : -9223372036854775808 ≤ e) (he1 : e ≤ 9223372036854775807) (hf0 : -9223372036854775808 ≤ f) (hf1 : f ≤ 9223372036854775807) :
    Calls Tryz.prog 77 #[.agg #[.bool n, .slice a l c, .int .i64 e], .agg #[.bool m, .slice b k d, .int .i64 f]] w fun r w' => DAns w.heap.size w' r (addD (mkS n (val xs) e) (mkS m (val ys) f)) ∧ Below w.heap.size w w' := by
  have zero : ∀ {r : Ending} {w' : World}, (r = .returned (.tuple #[.agg #[.bool false, .slice none 0 0, .int .i64 0], .int .i64 2]) ∧ Below w.heap.size w w') → DAns w.heap.size w' r none ∧ Below w.heap.size w w' := fun ⟨h1, h2⟩ => ⟨⟨_, h1, Nt.nil _ _⟩, h2⟩
  have M1 := hid fun u (hu : Below w.heap.size w u) => rMade_any (h1.below hu) hl n e he0 he1
  have M2 := hid fun u (hu : Below w.heap.size w u) => rMade_any (h2.below hu) hk m f hf0 hf1
  have z0 : (ws 0).length ≤ 8192 := by rw [ws_zero]; exact Nat.zero_le _
  cases hx : mkS n (val xs) e with
  | none =>
    cases hy : mkS m (val ys) f with
    | none =>
      rw [hx] at M1; rw [hy] at M2
      exact (radd_ff n m e f false false 0 0 0 0 z0 z0 M1 M2).mono fun r w' h => zero h
    | some y =>
      obtain ⟨m1, Y, f1⟩ := y
      rw [hx] at M1; rw [hy] at M2
      exact (radd_ft n m e f false m1 0 Y 0 f1 z0 (frm_len (mkS_frm hy)) M1 M2).mono fun r w' h => zero h
  | some x =>
    obtain ⟨n1, X, e1⟩ := x
    cases hy : mkS m (val ys) f with
    | none =>
      rw [hx] at M1; rw [hy] at M2
      exact (radd_tf n m e f n1 false X 0 e1 0 (frm_len (mkS_frm hx)) z0 M1 M2).mono fun r w' h => zero h
    | some y =>
      obtain ⟨m1, Y, f1⟩ := y
      rw [hx] at M1; rw [hy] at M2
      have FX := mkS_frm hx
      have FY := mkS_frm hy
      have lX := frm_len FX
      have lY := frm_len FY
      have := FX.up; have := FX.down; have := FY.up; have := FY.down
      show Calls _ _ _ _ fun r w' => DAns w.heap.size w' r (addF (n1, X, e1) (m1, Y, f1)) ∧ _
      unfold addF
      simp only
      by_cases hX0 : X = 0
      · rw [if_pos hX0]
        exact radd_left n m e f n1 m1 X Y e1 f1 lX lY ((ws_len_zero X).2 hX0) M1 M2
      · rw [if_neg hX0]
        by_cases hY0 : Y = 0
        · rw [if_pos hY0]
          exact radd_right n m e f n1 m1 X Y e1 f1 lX lY (len_ne hX0) ((ws_len_zero Y).2 hY0) M1 M2
        · rw [if_neg hY0]
          obtain ⟨g, hg⟩ : ∃ g, min e1 f1 = g := ⟨_, rfl⟩
          have hg2 : g = f1 ∧ f1 < e1 ∨ g = e1 ∧ e1 ≤ f1 := by omega
          have up : ∀ (d : Int) (Z : Nat), 0 ≤ d → (if d < 0 then Z / 2 ^ (-d).toNat else Z * 2 ^ d.toNat) = Z * 2 ^ d.toNat := fun d Z h => if_neg (by omega)
          obtain ⟨P, hP⟩ : ∃ P, X * 2 ^ (e1 - g).toNat = P := ⟨_, rfl⟩
          obtain ⟨Q, hQ⟩ : ∃ Q, Y * 2 ^ (f1 - g).toNat = Q := ⟨_, rfl⟩
          have HP : Hid (∀ (u : World) (v : Value), Below w.heap.size w u → Nt (w.heap.size + 3) u v X → Calls Tryz.prog 117 #[v, .int .i64 (e1 - g)] u fun r w' => ∃ v, r = .returned v ∧ Nt u.heap.size w' v P ∧ Below u.heap.size u w') := fun u v hu hN => by
            have := moved_any hN (e1 - g) (by omega) (by omega) hX0 (by omega)
            rw [up _ _ (by omega), hP] at this
            exact this
          have HQ : Hid (∀ (u : World) (v : Value), Below w.heap.size w u → Nt (w.heap.size + 3) u v Y → Calls Tryz.prog 117 #[v, .int .i64 (f1 - g)] u fun r w' => ∃ v, r = .returned v ∧ Nt u.heap.size w' v Q ∧ Below u.heap.size u w') := fun u v hu hN => by
            have := moved_any hN (f1 - g) (by omega) (by omega) hY0 (by omega)
            rw [up _ _ (by omega), hQ] at this
            exact this
          have bP : bl P = bl X + (e1 - g).toNat := by rw [← hP]; exact bl_up _ _ hX0
          have bQ : bl Q = bl Y + (f1 - g).toNat := by rw [← hQ]; exact bl_up _ _ hY0
          have s1 := FX.size
          have s2 := FY.size
          have wP := ws_len_bl P
          have wQ := ws_len_bl Q
          have kind : (if e1 < f1 then addUp m1 Y f1 n1 X e1 else addUp n1 X e1 m1 Y f1) = (if 8192 < (ws P).length ∨ 8192 < (ws Q).length then none else if n1 = m1 then mkS n1 (P + Q) g else if Q ≤ P then mkS n1 (P - Q) g else mkS m1 (Q - P) g) := by
            rcases hg2 with ⟨rfl, h⟩ | ⟨rfl, h⟩
            · rw [if_neg (by omega)]
              rw [Int.sub_self, show (0 : Int).toNat = 0 from rfl, Nat.pow_zero, Nat.mul_one] at hQ
              subst hQ
              unfold addUp
              rw [hP]
              by_cases hL : 262144 < bl X + (e1 - g).toNat
              · rw [if_pos hL, if_pos (.inl (by omega))]
              · rw [if_neg hL, if_neg (show ¬ (8192 < (ws P).length ∨ 8192 < (ws Y).length) by omega)]
                by_cases hs : n1 = m1
                · rw [if_pos hs, if_pos hs]
                · rw [if_neg hs, if_neg hs, ← (notb hs).1]
            · rw [Int.sub_self, show (0 : Int).toNat = 0 from rfl, Nat.pow_zero, Nat.mul_one] at hP
              subst hP
              by_cases he : g < f1
              · rw [if_pos he]
                unfold addUp
                rw [hQ]
                by_cases hL : 262144 < bl Y + (f1 - g).toNat
                · rw [if_pos hL, if_pos (.inr (by omega))]
                · rw [if_neg hL, if_neg (show ¬ (8192 < (ws X).length ∨ 8192 < (ws Q).length) by omega)]
                  by_cases hs : m1 = n1
                  · rw [if_pos hs, if_pos hs.symm, hs, Nat.add_comm]
                  · rw [if_neg hs, if_neg (notb hs).2.2, ← (notb hs).1]
                    rcases Nat.lt_trichotomy X Q with q | q | q
                    · rw [if_pos (show X ≤ Q by omega), if_neg (show ¬ Q ≤ X by omega)]
                    · rw [q]
                      simp only [Nat.le_refl, if_true, Nat.sub_self]
                      exact mkS_z2 _ _ _ _
                    · rw [if_neg (show ¬ X ≤ Q by omega), if_pos (show Q ≤ X by omega)]
              · obtain rfl : g = f1 := by omega
                rw [if_neg he]
                rw [Int.sub_self, show (0 : Int).toNat = 0 from rfl, Nat.pow_zero, Nat.mul_one] at hQ
                subst hQ
                unfold addUp
                rw [Int.sub_self, show (0 : Int).toNat = 0 from rfl, Nat.pow_zero, Nat.mul_one, if_neg (show ¬ 262144 < bl X + 0 by omega), if_neg (show ¬ (8192 < (ws X).length ∨ 8192 < (ws Y).length) by omega)]
                by_cases hs : n1 = m1
                · rw [if_pos hs, if_pos hs]
                · rw [if_neg hs, if_neg hs, ← (notb hs).1]
          rw [kind]
          clear kind
          have cmpz : ∀ u p q s t, Arg u p (ws P).length s (ws P) → Arg u q (ws Q).length t (ws Q) → Calls Tryz.prog 120 #[.slice p (ws P).length s, .slice q (ws Q).length t] u fun r w' => r = .returned (.int .i64 (cmpI P Q)) ∧ Below u.heap.size u w' := fun u p q s t hA hB => rCmp_arg hA hB (cmpI P Q) (by rw [val_ws, val_ws])
          by_cases c1 : 8192 < (ws P).length
          · rw [if_pos (.inl c1)]
            exact (radd_lp n m e f n1 m1 X Y e1 f1 lX lY (len_ne hX0) (len_ne hY0) (by omega) (by omega) (by omega) (by omega) g hg (by omega) (by omega) P Q (by omega) (by omega) c1 M1 M2 HP HQ).mono fun r w' h => zero h
          · by_cases c2 : 8192 < (ws Q).length
            · rw [if_pos (.inr c2)]
              exact (radd_lq n m e f n1 m1 X Y e1 f1 lX lY (len_ne hX0) (len_ne hY0) (by omega) (by omega) (by omega) (by omega) g hg (by omega) (by omega) P Q (by omega) (by omega) (by omega) c2 M1 M2 HP HQ).mono fun r w' h => zero h
            · rw [if_neg (by omega)]
              by_cases hs : n1 = m1
              · rw [if_pos hs]
                have lL : (ws (P + Q)).length ≤ 8193 := by
                  have h1 : P < pw 8192 := (ws_len_le _ _).1 (by omega)
                  have h2 : Q < pw 8192 := (ws_len_le _ _).1 (by omega)
                  exact (ws_len_le _ _).2 (pw_add_lt h1 h2)
                exact radd_sum n m e f n1 m1 X Y e1 f1 lX lY (len_ne hX0) (len_ne hY0) (by omega) (by omega) (by omega) (by omega) g hg (by omega) (by omega) P Q (by omega) (by omega) (by omega) (by omega) (by simp [hs]) (P + Q) (by omega) _ _ _ _ (mkS_len n1 (P + Q) g) M1 M2 HP HQ
                  (hid fun u p q s t hu hA hB => rPlus_arg hA hB (by omega) (by omega) (by rw [val_ws, val_ws]))
                  (hid fun u p s hu hA => by have := rtold_any hA (by omega) n1 g (by omega) (by omega); rw [val_ws] at this; exact this)
              · rw [if_neg hs]
                by_cases hq : Q ≤ P
                · rw [if_pos hq]
                  have lL : (ws (P - Q)).length ≤ 8192 := (ws_len_le _ _).2 (Nat.lt_of_le_of_lt (Nat.sub_le _ _) ((ws_len_le P 8192).1 (by omega)))
                  have hz : 0 ≤ cmpI P Q := by unfold cmpI; rw [if_neg (by omega)]; split <;> omega
                  exact radd_ge n m e f n1 m1 X Y e1 f1 lX lY (len_ne hX0) (len_ne hY0) (by omega) (by omega) (by omega) (by omega) g hg (by omega) (by omega) P Q (by omega) (by omega) (by omega) (by omega) (by simp [hs]) (cmpI P Q) hz (P - Q) (by omega) _ _ _ _ (mkS_len n1 (P - Q) g) M1 M2 HP HQ
                    (hid fun u p q s t hu hA hB => cmpz u p q s t hA hB)
                    (hid fun u p q s t hu hA hB => rMinus_arg hA hB (by omega) (by omega) (by rw [val_ws, val_ws]; omega))
                    (hid fun u p s hu hA => by have := rtold_any hA (by omega) n1 g (by omega) (by omega); rw [val_ws] at this; exact this)
                · rw [if_neg hq]
                  have lL : (ws (Q - P)).length ≤ 8192 := (ws_len_le _ _).2 (Nat.lt_of_le_of_lt (Nat.sub_le _ _) ((ws_len_le Q 8192).1 (by omega)))
                  have hz : cmpI P Q < 0 := by unfold cmpI; rw [if_pos (by omega)]; omega
                  exact radd_lt n m e f n1 m1 X Y e1 f1 lX lY (len_ne hX0) (len_ne hY0) (by omega) (by omega) (by omega) (by omega) g hg (by omega) (by omega) P Q (by omega) (by omega) (by omega) (by omega) (by simp [hs]) (cmpI P Q) hz (Q - P) (by omega) _ _ _ _ (mkS_len m1 (Q - P) g) M1 M2 HP HQ
                    (hid fun u p q s t hu hA hB => cmpz u p q s t hA hB)
                    (hid fun u p q s t hu hA hB => rMinus_arg hA hB (by omega) (by omega) (by rw [val_ws, val_ws]; omega))
                    (hid fun u p s hu hA => by have := rtold_any hA (by omega) m1 g (by omega) (by omega); rw [val_ws] at this; exact this)

theorem Sub_any3 {w : World} {a b : Option Addr} {l c k d : Nat} {xs ys : List Nat} (h1 : Arg w a l c xs) (h2 : Arg w b k d ys) (hT : Tab w) (n m : Bool) (e f : Int) (he0 : -9223372036854775808 ≤ e) (he1 : e ≤ 9223372036854775807) (hf0 : -9223372036854775808 ≤ f) (hf1 : f ≤ 9223372036854775807) :
    Calls Tryz.prog 56 #[.agg #[.bool n, .slice a l c, .int .i64 e], .agg #[.bool m, .slice b k d, .int .i64 f]] w fun r w' => DAns w.heap.size w' r (addD (mkS n (val xs) e) (mkS (!m) (val ys) f)) ∧ Below w.heap.size w w' :=
  sub_core n m e f _ _ _ _ (addD_len n (val xs) e (!m) (val ys) f) (hid fun u => turned_any b k d m f u) (hid fun u hu => Add_any3 (h1.below hu) (h2.below hu) (hT.belows hu) n (!m) e f he0 he1 hf0 hf1)
end Go.Proofs.YteoednbmhiblfaaGreatDoor

/- Numbers from the top on: plain mathematics for comparing. -/
namespace Go.Proofs.YteoednbmhiblfaaGreatDoor
open Go.RowKit
set_option linter.unusedVariables false
set_option maxRecDepth 20000

/-- What stands above the bit i. -/
def top (X : Nat) (i : Int) : Nat := if i < 0 then X * 2 ^ (-i).toNat else X / 2 ^ i.toNat
theorem win_top (X : Nat) (i : Int) : win X i = top X i % 4294967296 := by unfold win top; split <;> rfl
theorem two32 : (2 : Nat) ^ 32 = 4294967296 := rfl
theorem top_down (X : Nat) (i : Int) : top X (i - 32) / 4294967296 = top X i := by
  rw [← two32]
  unfold top
  by_cases h : i < 0
  · rw [if_pos (by omega), if_pos h, show (-(i - 32)).toNat = (-i).toNat + 32 by omega, Nat.pow_add, ← Nat.mul_assoc, Nat.mul_div_cancel _ (Nat.two_pow_pos 32)]
  · by_cases h2 : i < 32
    · rw [if_pos (by omega), if_neg h]
      obtain ⟨k, hk⟩ : ∃ k, k = (-(i - 32)).toNat := ⟨_, rfl⟩
      have e : 32 = k + i.toNat := by omega
      rw [← hk]
      generalize i.toNat = m at e ⊢
      rw [show (2 : Nat) ^ 32 = 2 ^ k * 2 ^ m by rw [← Nat.pow_add, ← e], Nat.mul_comm X, Nat.mul_div_mul_left _ _ (Nat.two_pow_pos k)]
    · rw [if_neg (by omega), if_neg h, Nat.div_div_eq_div_mul, ← Nat.pow_add, show (i - 32).toNat + 32 = i.toNat by omega]
theorem top_step (X : Nat) (i : Int) : top X (i - 32) = top X i * 4294967296 + win X (i - 32) := by
  rw [win_top, ← top_down X i]
  exact (Nat.div_add_mod' _ _).symm
theorem top_shift (X d : Nat) (j : Int) : top X (j - (d : Int)) = top (X * 2 ^ d) j := by
  unfold top
  by_cases h : j < 0
  · rw [if_pos (by omega), if_pos h, show (-(j - (d : Int))).toNat = d + (-j).toNat by omega, Nat.pow_add, Nat.mul_assoc]
  · rw [if_neg h]
    by_cases h2 : j < d
    · rw [if_pos (by omega)]
      obtain ⟨k, hk⟩ : ∃ k, k = (-(j - (d : Int))).toNat := ⟨_, rfl⟩
      have e : d = k + j.toNat := by omega
      rw [← hk]
      generalize j.toNat = m at e ⊢
      rw [e, Nat.pow_add, ← Nat.mul_assoc, Nat.mul_div_cancel _ (Nat.two_pow_pos m)]
    · rw [if_neg (by omega)]
      obtain ⟨k, hk⟩ : ∃ k, k = (j - (d : Int)).toNat := ⟨_, rfl⟩
      have e : j.toNat = k + d := by omega
      rw [← hk, e, Nat.pow_add, Nat.mul_div_mul_right _ _ (Nat.two_pow_pos d)]
theorem top_mono {X Y : Nat} (h : X ≤ Y) (j : Int) : top X j ≤ top Y j := by
  unfold top
  split
  · exact Nat.mul_le_mul_right _ h
  · exact Nat.div_le_div_right h
theorem top_lt {X Y : Nat} {j : Int} (h : top X j < top Y j) : X < Y := by
  rcases Nat.lt_or_ge X Y with k | k
  · exact k
  · have := top_mono k j; omega
theorem top_inj {X Y : Nat} {j : Int} (hj : j ≤ 0) (h : top X j = top Y j) : X = Y := by
  unfold top at h
  by_cases h0 : j < 0
  · rw [if_pos h0, if_pos h0] at h
    exact Nat.eq_of_mul_eq_mul_right (Nat.two_pow_pos _) h
  · rw [if_neg h0, if_neg h0, show j.toNat = 0 by omega] at h
    simpa using h
theorem top_bl (X : Nat) : top X (bl X : Int) = 0 := by
  unfold top
  rw [if_neg (by omega), Int.toNat_natCast]
  exact Nat.div_eq_of_lt (bl_lt X)

/-- A step of the comparison. -/
theorem top_differ {X Y : Nat} {i j : Int} (d : Nat) (hij : i = j - d) (h : top X i = top Y j) (hne : cmpI (win X (i - 32)) (win Y (j - 32)) ≠ 0) :
    cmpI (win X (i - 32)) (win Y (j - 32)) = cmpI (X * 2 ^ d) Y := by
  have h1 := top_step X i
  have h2 := top_step Y j
  have h3 := top_shift X d (j - 32)
  rw [show j - 32 - (d : Int) = i - 32 by omega] at h3
  rw [h] at h1
  generalize top Y j * 4294967296 = T at h1 h2
  unfold cmpI at hne ⊢
  by_cases k : win X (i - 32) < win Y (j - 32)
  · rw [if_pos k]
    have : X * 2 ^ d < Y := top_lt (j := j - 32) (by rw [← h3]; omega)
    rw [if_pos this]
  · rw [if_neg k] at hne ⊢
    by_cases k2 : win Y (j - 32) < win X (i - 32)
    · rw [if_pos k2]
      have : Y < X * 2 ^ d := top_lt (j := j - 32) (by rw [← h3]; omega)
      rw [if_neg (by omega), if_pos this]
    · rw [if_neg k2] at hne; exact absurd rfl hne
theorem cmpI_zero {x y : Nat} (h : cmpI x y = 0) : x = y := by
  unfold cmpI at h
  split at h
  · cases h
  · split at h
    · cases h
    · omega
theorem top_alike {X Y : Nat} {i j : Int} (h : top X i = top Y j) (he : cmpI (win X (i - 32)) (win Y (j - 32)) = 0) : top X (i - 32) = top Y (j - 32) := by
  rw [top_step, top_step, h, cmpI_zero he]
theorem top_end {X Y : Nat} {i j : Int} (d : Nat) (hij : i = j - d) (h : top X i = top Y j) (hj : j ≤ 0) : cmpI (X * 2 ^ d) Y = 0 := by
  subst hij
  rw [top_shift] at h
  rw [top_inj hj h]
  unfold cmpI
  rw [if_neg (Nat.lt_irrefl _), if_neg (Nat.lt_irrefl _)]

/-- How X times 2^e stands to Y times 2^f. -/
def cmpP (X : Nat) (e : Int) (Y : Nat) (f : Int) : Int := if e < f then cmpI X (Y * 2 ^ (f - e).toNat) else cmpI (X * 2 ^ (e - f).toNat) Y
theorem cmpI_neg (x y : Nat) : -cmpI x y = cmpI y x := by
  unfold cmpI
  rcases Nat.lt_trichotomy x y with h | h | h
  · rw [if_pos h, if_neg (by omega), if_pos h]; rfl
  · subst h; rw [if_neg (by omega), if_neg (by omega)]; rfl
  · rw [if_neg (by omega), if_pos h, if_pos h]
theorem cmpP_neg (X : Nat) (e : Int) (Y : Nat) (f : Int) : -cmpP X e Y f = cmpP Y f X e := by
  unfold cmpP
  by_cases h : e < f
  · rw [if_pos h, if_neg (by omega), cmpI_neg]
  · rw [if_neg h]
    by_cases h2 : f < e
    · rw [if_pos h2, cmpI_neg]
    · rw [if_neg h2, cmpI_neg, show (e - f).toNat = 0 by omega, show (f - e).toNat = 0 by omega, Nat.pow_zero, Nat.mul_one, Nat.mul_one]
/-- Where the lengths tell. -/
theorem cmpI_bl {x y : Nat} (h : bl x ≠ bl y) : cmpI x y = cmpI (bl x) (bl y) := by
  unfold cmpI
  rcases Nat.lt_or_ge (bl x) (bl y) with k | k
  · have : x < y := by
      rcases Nat.lt_or_ge x y with q | q
      · exact q
      · have := bl_mono q; omega
    rw [if_pos k, if_pos this]
  · have : y < x := by
      rcases Nat.lt_or_ge y x with q | q
      · exact q
      · have := bl_mono q; omega
    rw [if_neg (by omega : ¬ x < y), if_pos this, if_neg (by omega : ¬ bl x < bl y), if_pos (by omega : bl y < bl x)]
theorem cmpI_range (x y : Nat) : cmpI x y = -1 ∨ cmpI x y = 0 ∨ cmpI x y = 1 := by
  unfold cmpI; split
  · exact .inl rfl
  · split
    · exact .inr (.inr rfl)
    · exact .inr (.inl rfl)
theorem cmpP_range (X : Nat) (e : Int) (Y : Nat) (f : Int) : cmpP X e Y f = -1 ∨ cmpP X e Y f = 0 ∨ cmpP X e Y f = 1 := by
  unfold cmpP; split <;> exact cmpI_range _ _

/-- The sign of a value, and how two values stand. -/
def sgn (n : Bool) (X : Nat) : Int := if X = 0 then 0 else if n then -1 else 1
def cmpV (n : Bool) (X : Nat) (e : Int) (m : Bool) (Y : Nat) (f : Int) : Int :=
  if sgn n X < sgn m Y then -1 else if sgn m Y < sgn n X then 1 else if X = 0 then 0 else if n then cmpP Y f X e else cmpP X e Y f
end Go.Proofs.YteoednbmhiblfaaGreatDoor

/- dyad's Sign, cmpFromTop, cmpSizes, Cmp. -/
namespace Go.Proofs.YteoednbmhiblfaaGreatDoor
open Go.RowKit
set_option linter.unusedVariables false
set_option maxRecDepth 20000
set_option linter.unusedSimpArgs false

theorem isNaN_c (x : Int) (w : World) : Calls Tryz.prog 165 #[.int .u64 x] w fun r w' => r = .returned (.bool false) ∧ w' = w := by
  go_enter Tryz.func165, Tryz.ntmps165
  go_wp2
  go_ret
  exact ⟨rfl, rfl⟩
def cmpZ (x y : Int) : Int := if x < y then -1 else if y < x then 1 else 0
theorem cmpZ_nat (x y : Nat) : cmpZ (x : Int) (y : Int) = cmpI x y := by
  unfold cmpZ cmpI
  simp only [Int.ofNat_lt]
theorem compare_w (x y : Int) (w : World) : Calls Tryz.prog 131 #[.int .u64 x, .int .u64 y] w fun r w' => r = .returned (.int .i64 (cmpZ x y)) ∧ w' = w := by
  have H : Hid (∀ x w, _) := isNaN_c
  rcases Int.lt_trichotomy x y with h | h | h
  · have e : cmpZ x y = -1 := by simp [cmpZ, h]
    rw [e]; clear e
    go_enter Tryz.func131, Tryz.ntmps131
    go_wp2_with fail
    refine (H.out _ _).mono ?_
    rintro r w1 ⟨rfl, rfl⟩
    go_wp2_with fail
    refine (H.out _ _).mono ?_
    rintro r w1 ⟨rfl, rfl⟩
    go_wp2
    go_ret
    exact ⟨rfl, rfl⟩
  · have e : cmpZ x y = 0 := by simp [cmpZ, h]
    rw [e]; clear e
    subst h
    go_enter Tryz.func131, Tryz.ntmps131
    go_wp2_with fail
    refine (H.out _ _).mono ?_
    rintro r w1 ⟨rfl, rfl⟩
    go_wp2_with fail
    refine (H.out _ _).mono ?_
    rintro r w1 ⟨rfl, rfl⟩
    go_wp2
    go_ret
    exact ⟨rfl, rfl⟩
  · have e : cmpZ x y = 1 := by unfold cmpZ; rw [if_neg (by omega), if_pos h]
    rw [e]; clear e
    have h0 : decide (x < y) = false := decide_eq_false (by omega)
    go_enter Tryz.func131, Tryz.ntmps131
    go_wp2_with fail
    refine (H.out _ _).mono ?_
    rintro r w1 ⟨rfl, rfl⟩
    go_wp2_with fail
    refine (H.out _ _).mono ?_
    rintro r w1 ⟨rfl, rfl⟩
    go_wp2
    go_ret
    exact ⟨rfl, rfl⟩

theorem compare_z (x y : Int) (w : World) : Calls Tryz.prog 96 #[.int .i64 x, .int .i64 y] w fun r w' => r = .returned (.int .i64 (cmpZ x y)) ∧ w' = w := by
  have H : Hid (∀ x w, _) := isNaN_i
  rcases Int.lt_trichotomy x y with h | h | h
  · have e : cmpZ x y = -1 := by simp [cmpZ, h]
    rw [e]; clear e
    go_enter Tryz.func96, Tryz.ntmps96
    go_wp2_with fail
    refine (H.out _ _).mono ?_
    rintro r w1 ⟨rfl, rfl⟩
    go_wp2_with fail
    refine (H.out _ _).mono ?_
    rintro r w1 ⟨rfl, rfl⟩
    go_wp2
    go_ret
    exact ⟨rfl, rfl⟩
  · have e : cmpZ x y = 0 := by simp [cmpZ, h]
    rw [e]; clear e
    subst h
    go_enter Tryz.func96, Tryz.ntmps96
    go_wp2_with fail
    refine (H.out _ _).mono ?_
    rintro r w1 ⟨rfl, rfl⟩
    go_wp2_with fail
    refine (H.out _ _).mono ?_
    rintro r w1 ⟨rfl, rfl⟩
    go_wp2
    go_ret
    exact ⟨rfl, rfl⟩
  · have e : cmpZ x y = 1 := by unfold cmpZ; rw [if_neg (by omega), if_pos h]
    rw [e]; clear e
    have h0 : decide (x < y) = false := decide_eq_false (by omega)
    go_enter Tryz.func96, Tryz.ntmps96
    go_wp2_with fail
    refine (H.out _ _).mono ?_
    rintro r w1 ⟨rfl, rfl⟩
    go_wp2_with fail
    refine (H.out _ _).mono ?_
    rintro r w1 ⟨rfl, rfl⟩
    go_wp2
    go_ret
    exact ⟨rfl, rfl⟩

set_option maxHeartbeats 2000000 in
theorem Sign_any3 {w : World} {a : Option Addr} {n c : Nat} {xs : List Nat} (h1 : Arg w a n c xs) (ng : Bool) (e : Int) :
    Calls Tryz.prog 23 #[.agg #[.bool ng, .slice a n c, .int .i64 e]] w fun r w' => r = .returned (.int .i64 (sgn ng (val xs))) ∧ Below w.heap.size w w' := by
  have hB : Below w.heap.size w (w.alloc (.cells #[.bool ng, .slice a n c, .int .i64 e] 37)) := below_alloc w _
  have A1 := h1.below hB
  have hbig := h1.big
  have H1 := hid (len_any xs a n c _ _ A1.len A1.cap (by omega) A1.wf A1.rd)
  obtain ⟨X, hX⟩ : ∃ X, val xs = X := ⟨_, rfl⟩
  rw [hX] at H1 ⊢
  have SB := Aside.intro hB
  clear hB A1 h1 hX hbig
  unfold sgn
  by_cases h0 : X = 0
  · rw [if_pos h0]
    have hb : bl X = 0 := by rw [h0, bl_zero]
    rw [hb] at H1
    clear h0 hb
    go_enter Tryz.func23, Tryz.ntmps23
    go_wp2_with fail
    refine (Calls.mono H1.out) ?_
    rintro r w1 ⟨rfl, rfl⟩
    go_wp2
    go_ret
    exact ⟨rfl, SB.out⟩
  · rw [if_neg h0]
    obtain ⟨b, hb⟩ : ∃ b, bl X = b := ⟨_, rfl⟩
    have hb0 : ((b : Int) == 0) = false := by have := bl_pos X h0; simp; omega
    rw [hb] at H1
    clear h0 hb
    cases ng
    · simp only [Bool.false_eq_true, if_false]
      go_enter Tryz.func23, Tryz.ntmps23
      go_wp2_with fail
      refine (Calls.mono H1.out) ?_
      rintro r w1 ⟨rfl, rfl⟩
      go_wp2
      go_ret
      exact ⟨rfl, SB.out⟩
    · simp only [if_true]
      go_enter Tryz.func23, Tryz.ntmps23
      go_wp2_with fail
      refine (Calls.mono H1.out) ?_
      rintro r w1 ⟨rfl, rfl⟩
      go_wp2
      go_ret
      exact ⟨rfl, SB.out⟩


set_option maxHeartbeats 4000000 in
theorem cmpFromTop_any {w : World} {a b : Option Addr} {n c m d : Nat} {xs ys : List Nat} (h1 : Arg w a n c xs) (h2 : Arg w b m d ys) (dd : Nat) (hd : bl (val xs) + dd = bl (val ys)) :
    Calls Tryz.prog 132 #[.slice a n c, .slice b m d] w fun r w' => r = .returned (.int .i64 (cmpI (val xs * 2 ^ dd) (val ys))) ∧ w' = w := by
  have hb1 := h1.big
  have hb2 := h2.big
  have H1 := hid (len_any xs a n c w.heap.size w h1.len h1.cap (by omega) h1.wf h1.rd)
  have H2 := hid (len_any ys b m d w.heap.size w h2.len h2.cap (by omega) h2.wf h2.rd)
  have b1 : bl (val xs) ≤ 32 * n := by have := val_lt xs h1.wf; rw [← h1.len] at this; exact bl_pw _ _ this
  have b2 : bl (val ys) ≤ 32 * m := by have := val_lt ys h2.wf; rw [← h2.len] at this; exact bl_pw _ _ this
  have WX : Hid (∀ i : Int, -9223372036854775808 ≤ i → i ≤ 9223372036854000000 → Calls Tryz.prog 124 #[.slice a n c, .int .i64 i] w fun r w' => r = .returned (.int .u32 ((win (val xs) i : Nat) : Int)) ∧ w' = w) := fun i h0 h3 => window_any xs a n c w.heap.size i w h1.len (by omega) h1.wf h1.rd h0 (by omega)
  have WY : Hid (∀ i : Int, -9223372036854775808 ≤ i → i ≤ 9223372036854000000 → Calls Tryz.prog 124 #[.slice b m d, .int .i64 i] w fun r w' => r = .returned (.int .u32 ((win (val ys) i : Nat) : Int)) ∧ w' = w) := fun i h0 h3 => window_any ys b m d w.heap.size i w h2.len (by omega) h2.wf h2.rd h0 (by omega)
  obtain ⟨X, hX⟩ : ∃ X, val xs = X := ⟨_, rfl⟩
  obtain ⟨Y, hY⟩ : ∃ Y, val ys = Y := ⟨_, rfl⟩
  rw [hX] at H1 b1 hd WX ⊢
  rw [hY] at H2 b2 hd WY ⊢
  have st : top X (bl X : Int) = top Y (bl Y : Int) := by rw [top_bl, top_bl]
  obtain ⟨i0, hi0⟩ : ∃ i, bl X = i := ⟨_, rfl⟩
  obtain ⟨j0, hj0⟩ : ∃ j, bl Y = j := ⟨_, rfl⟩
  rw [hi0] at H1 b1 hd st
  rw [hj0] at H2 b2 hd st
  obtain ⟨R, hR⟩ : ∃ R, cmpI (X * 2 ^ dd) Y = R := ⟨_, rfl⟩
  rw [hR]
  have HR := Aside.intro hR
  have ST := Aside.intro st
  have HD := Aside.intro hd
  have bi : (i0 : Int) ≤ 1125899906842624 := by omega
  have bj : (j0 : Int) ≤ 1125899906842624 := by omega
  clear h1 h2 hX hY hi0 hj0 st hR hd b1 b2 hb1 hb2
  go_enter Tryz.func132, Tryz.ntmps132
  go_wp2_with fail
  refine (Calls.mono H1.out) ?_
  rintro r w1 ⟨rfl, rfl⟩
  go_wp2_with fail
  refine (Calls.mono H2.out) ?_
  rintro r w1 ⟨rfl, rfl⟩
  go_wp2
  go_loopg [5, 6] (j0 + 32) (fun gk iv jv wr => ∃ i j : Int, (gk : Int) = j + 32 ∧ iv = .int .i64 i ∧ jv = .int .i64 j ∧ wr = w1 ∧ -32 ≤ j ∧ j ≤ 1125899906842624 ∧ i ≤ j ∧ -1125899906842656 ≤ i ∧ Aside (i = j - dd ∧ top X i = top Y j))
  case atStart => exact ⟨i0, j0, by omega, rfl, rfl, rfl, by omega, by omega, by have := HD.out; omega, by omega, by have := HD.out; omega, ST.out⟩
  case round =>
    obtain ⟨i, j, hgk, rfl, rfl, rfl, hj0', hj1, hij, hi0', HA⟩ := hrel
    by_cases hj : 0 < j
    · have hi2 : i - 32 ≤ 9223372036854000000 := by omega
      have hj2 : j - 32 ≤ 9223372036854000000 := by omega
      have G1 := hid (WX.out (i - 32) (by omega) hi2)
      have G2 := hid (WY.out (j - 32) (by omega) hj2)
      obtain ⟨x, hx⟩ : ∃ x, win X (i - 32) = x := ⟨_, rfl⟩
      obtain ⟨y, hy⟩ : ∃ y, win Y (j - 32) = y := ⟨_, rfl⟩
      rw [hx] at G1
      rw [hy] at G2
      have HXY := (Aside.intro (And.intro hx hy))
      have hlo : -1125899906842656 ≤ i := hi0'
      clear hx hy
      have CM := hid (compare_u x y wr)
      obtain ⟨z, hz⟩ : ∃ z, cmpI x y = z := ⟨_, rfl⟩
      rw [hz] at CM
      have HZ := Aside.intro hz
      clear hz
      by_cases hpi : 0 < i
      · by_cases h0 : z = 0
        · subst h0
          go_wp2_with fail
          refine (Calls.mono G1.out) ?_
          rintro r w2 ⟨rfl, rfl⟩
          go_wp2_with fail
          refine (Calls.mono G2.out) ?_
          rintro r w2 ⟨rfl, rfl⟩
          go_wp2_with fail
          refine (Calls.mono CM.out) ?_
          rintro r w2 ⟨rfl, rfl⟩
          go_wp2
          go_roundg (gk - 32)
          case measure => omega
          case rel =>
            refine ⟨i - 32, j - 32, by omega, by first | rfl | go_num, by first | rfl | go_num, rfl, by omega, by omega, by omega, ?_, ?_, ?_⟩
            · have := HA.out.1; have := HD.out; omega
            · have := HA.out.1; omega
            · exact top_alike HA.out.2 (by rw [HXY.out.1, HXY.out.2]; exact HZ.out)
        · have h0' : (z == 0) = false := by simpa using h0
          go_wp2_with fail
          refine (Calls.mono G1.out) ?_
          rintro r w2 ⟨rfl, rfl⟩
          go_wp2_with fail
          refine (Calls.mono G2.out) ?_
          rintro r w2 ⟨rfl, rfl⟩
          go_wp2_with fail
          refine (Calls.mono CM.out) ?_
          rintro r w2 ⟨rfl, rfl⟩
          go_wp2
          have e : z = R := by
            have h := top_differ dd HA.out.1 HA.out.2 (by rw [HXY.out.1, HXY.out.2, HZ.out]; exact h0)
            rw [HXY.out.1, HXY.out.2, HZ.out, HR.out] at h
            exact h
          subst e
          go_ret
          exact ⟨rfl, rfl⟩
      · have hpi' : decide (0 < i) = false := decide_eq_false hpi
        by_cases h0 : z = 0
        · subst h0
          go_wp2_with fail
          refine (Calls.mono G1.out) ?_
          rintro r w2 ⟨rfl, rfl⟩
          go_wp2_with fail
          refine (Calls.mono G2.out) ?_
          rintro r w2 ⟨rfl, rfl⟩
          go_wp2_with fail
          refine (Calls.mono CM.out) ?_
          rintro r w2 ⟨rfl, rfl⟩
          go_wp2
          go_roundg (gk - 32)
          case measure => omega
          case rel =>
            refine ⟨i - 32, j - 32, by omega, by first | rfl | go_num, by first | rfl | go_num, rfl, by omega, by omega, by omega, ?_, ?_, ?_⟩
            · have := HA.out.1; have := HD.out; omega
            · have := HA.out.1; omega
            · exact top_alike HA.out.2 (by rw [HXY.out.1, HXY.out.2]; exact HZ.out)
        · have h0' : (z == 0) = false := by simpa using h0
          go_wp2_with fail
          refine (Calls.mono G1.out) ?_
          rintro r w2 ⟨rfl, rfl⟩
          go_wp2_with fail
          refine (Calls.mono G2.out) ?_
          rintro r w2 ⟨rfl, rfl⟩
          go_wp2_with fail
          refine (Calls.mono CM.out) ?_
          rintro r w2 ⟨rfl, rfl⟩
          go_wp2
          have e : z = R := by
            have h := top_differ dd HA.out.1 HA.out.2 (by rw [HXY.out.1, HXY.out.2, HZ.out]; exact h0)
            rw [HXY.out.1, HXY.out.2, HZ.out, HR.out] at h
            exact h
          subst e
          go_ret
          exact ⟨rfl, rfl⟩
    · have hpi' : decide (0 < i) = false := decide_eq_false (by omega)
      have hpj' : decide (0 < j) = false := decide_eq_false (by omega)
      have e : R = 0 := by rw [← HR.out]; exact top_end dd HA.out.1 HA.out.2 (by omega)
      subst e
      go_wp2
      go_ret
      exact ⟨rfl, rfl⟩


set_option maxHeartbeats 4000000 in
theorem cmpSizes_go {w : World} {a b : Option Addr} {n c m d : Nat} (ng mg : Bool) (e f : Int) (x y dd : Nat) (R : Int) (bx : x ≤ 1125899906842624) (by' : y ≤ 1125899906842624)
    (hge : decide (e < f) = false) (hap : IntKind.u64.wrap (IntKind.u64.wrap e - IntKind.u64.wrap f) = (dd : Int))
    (H1 : Hid (∀ u, Below w.heap.size w u → Calls Tryz.prog 53 #[.slice a n c] u fun r w' => r = .returned (.int .i64 (x : Nat)) ∧ w' = u))
    (H2 : Hid (∀ u, Below w.heap.size w u → Calls Tryz.prog 53 #[.slice b m d] u fun r w' => r = .returned (.int .i64 (y : Nat)) ∧ w' = u))
    (H3 : Hid (∀ u, Below w.heap.size w u → dd + x = y → Calls Tryz.prog 132 #[.slice a n c, .slice b m d] u fun r w' => r = .returned (.int .i64 R) ∧ w' = u)) :
    Calls Tryz.prog 97 #[.agg #[.bool ng, .slice a n c, .int .i64 e], .agg #[.bool mg, .slice b m d, .int .i64 f]] w fun r w' => r = .returned (.int .i64 (if y < dd then 1 else if dd + x = y then R else cmpI (dd + x) y)) ∧ Below w.heap.size w w' := by
  obtain ⟨W1, hW1⟩ : ∃ W, W = (w.alloc (.cells #[.bool ng, .slice a n c, .int .i64 e] 37)).alloc (.cells #[.bool mg, .slice b m d, .int .i64 f] 37) := ⟨_, rfl⟩
  have hB : Below w.heap.size w W1 := by rw [hW1]; exact (below_alloc w _).alloc (by simp) _
  have DA : Dk W1 w.heap.size ng (.slice a n c) e := by rw [hW1]; exact (Dk.new w ng (.slice a n c) e).alloc _
  have DB : Dk W1 (w.heap.size + 1) mg (.slice b m d) f := by
    rw [hW1]
    have := Dk.new (w.alloc (.cells #[.bool ng, .slice a n c, .int .i64 e] 37)) mg (.slice b m d) f
    simpa using this
  obtain ⟨x0, x1, x2, xf0, xf1, xf2⟩ := DA.facts
  obtain ⟨y0, y1, y2, yf0, yf1, yf2⟩ := DB.facts
  have SB := Aside.intro hB
  clear DA DB hB
  have T1 := hid (H1.out W1 SB.out)
  have T2 := hid (H2.out W1 SB.out)
  have T1' := hid (H1.out W1.drew SB.out.drew)
  have T2' := hid (H2.out W1.drew SB.out.drew)
  have ex : IntKind.u64.wrap (x : Int) = (x : Int) := by rw [IntKind.wrap_u64]; omega
  have ey : IntKind.u64.wrap (y : Int) = (y : Int) := by rw [IntKind.wrap_u64]; omega
  by_cases h1 : y < dd
  · rw [if_pos h1]
    have h1' : (y : Int) < (dd : Int) := by omega
    go_enter Tryz.func97, Tryz.ntmps97
    go_upto_region 1 with fail
    rw [← hW1]
    clear hW1
    go_upto_region 4 with fail
    go_region_held3 (fun w' => w'.cell? ⟨w.heap.size, 1, none⟩ = some (.slice a n c) ∧ w'.cell? ⟨w.heap.size + 1, 1, none⟩ = some (.slice b m d)) (go_keep) (first
      | (go_at_call 53
         first | with_reducible refine T1.out.mono ?_ | with_reducible refine T1'.out.mono ?_ | with_reducible refine T2.out.mono ?_ | with_reducible refine T2'.out.mono ?_
         rintro r w' ⟨rfl, rfl⟩))
    all_goals (
      go_wp2
      go_ret
      first | exact ⟨rfl, SB.out⟩ | exact ⟨rfl, SB.out.drew⟩)
  · rw [if_neg h1]
    have h1' : decide ((y : Int) < (dd : Int)) = false := decide_eq_false (by omega)
    have es : IntKind.u64.wrap ((dd : Int) + (x : Int)) = (dd : Int) + (x : Int) := by rw [IntKind.wrap_u64]; omega
    by_cases h2 : dd + x = y
    · rw [if_pos h2]
      have T3 := hid (H3.out W1 SB.out h2)
      have T3' := hid (H3.out W1.drew SB.out.drew h2)
      have h2' : ((dd : Int) + (x : Int) == (y : Int)) = true := by simp; omega
      have h2'' : (dd : Int) + (x : Int) = (y : Int) := by omega
      go_enter Tryz.func97, Tryz.ntmps97
      go_upto_region 1 with fail
      rw [← hW1]
      clear hW1
      go_upto_region 4 with fail
      go_region_held3 (fun w' => w'.cell? ⟨w.heap.size, 1, none⟩ = some (.slice a n c) ∧ w'.cell? ⟨w.heap.size + 1, 1, none⟩ = some (.slice b m d)) (go_keep) (first
        | (go_at_call 53
           first | with_reducible refine T1.out.mono ?_ | with_reducible refine T1'.out.mono ?_ | with_reducible refine T2.out.mono ?_ | with_reducible refine T2'.out.mono ?_
           rintro r w' ⟨rfl, rfl⟩))
      all_goals (
        go_wp2_with fail
        first | with_reducible refine T3.out.mono ?_ | with_reducible refine T3'.out.mono ?_
        rintro r w' ⟨rfl, rfl⟩
        go_wp2
        go_ret
        first | exact ⟨rfl, SB.out⟩ | exact ⟨rfl, SB.out.drew⟩)
    · rw [if_neg h2]
      have h2' : ((dd : Int) + (x : Int) == (y : Int)) = false := by simp; omega
      have CW : Hid (∀ u, Calls Tryz.prog 131 #[.int .u64 ((dd : Int) + (x : Int)), .int .u64 (y : Int)] u fun r w' => r = .returned (.int .i64 (cmpI (dd + x) y)) ∧ w' = u) := fun u => by
        have := compare_w ((dd : Int) + (x : Int)) (y : Int) u
        rw [show (dd : Int) + (x : Int) = ((dd + x : Nat) : Int) by omega, cmpZ_nat] at this
        rw [show (dd : Int) + (x : Int) = ((dd + x : Nat) : Int) by omega]
        exact this
      obtain ⟨z, hz⟩ : ∃ z, cmpI (dd + x) y = z := ⟨_, rfl⟩
      rw [hz] at CW ⊢
      clear hz
      go_enter Tryz.func97, Tryz.ntmps97
      go_upto_region 1 with fail
      rw [← hW1]
      clear hW1
      go_upto_region 4 with fail
      go_region_held3 (fun w' => w'.cell? ⟨w.heap.size, 1, none⟩ = some (.slice a n c) ∧ w'.cell? ⟨w.heap.size + 1, 1, none⟩ = some (.slice b m d)) (go_keep) (first
        | (go_at_call 53
           first | with_reducible refine T1.out.mono ?_ | with_reducible refine T1'.out.mono ?_ | with_reducible refine T2.out.mono ?_ | with_reducible refine T2'.out.mono ?_
           rintro r w' ⟨rfl, rfl⟩))
      all_goals (
        go_wp2_with fail
        refine (CW.out _).mono ?_
        rintro r w' ⟨rfl, rfl⟩
        go_wp2
        go_ret
        first | exact ⟨rfl, SB.out⟩ | exact ⟨rfl, SB.out.drew⟩)
end Go.Proofs.YteoednbmhiblfaaGreatDoor

/- dyad's Cmp. -/
namespace Go.Proofs.YteoednbmhiblfaaGreatDoor
open Go.RowKit
set_option linter.unusedVariables false
set_option maxRecDepth 20000
set_option linter.unusedSimpArgs false

set_option maxHeartbeats 4000000 in
theorem cmpSizes_lt {w : World} {a b : Option Addr} {n c m d : Nat} (ng mg : Bool) (e f : Int) (z : Int) (hlt : e < f) (hz0 : -1 ≤ z) (hz1 : z ≤ 1)
    (HR : Hid (∀ u, Below w.heap.size w u → Calls Tryz.prog 97 #[.agg #[.bool mg, .slice b m d, .int .i64 f], .agg #[.bool ng, .slice a n c, .int .i64 e]] u fun r w' => r = .returned (.int .i64 z) ∧ Below u.heap.size u w')) :
    Calls Tryz.prog 97 #[.agg #[.bool ng, .slice a n c, .int .i64 e], .agg #[.bool mg, .slice b m d, .int .i64 f]] w fun r w' => r = .returned (.int .i64 (-z)) ∧ Below w.heap.size w w' := by
  obtain ⟨W1, hW1⟩ : ∃ W, W = (w.alloc (.cells #[.bool ng, .slice a n c, .int .i64 e] 37)).alloc (.cells #[.bool mg, .slice b m d, .int .i64 f] 37) := ⟨_, rfl⟩
  have hB : Below w.heap.size w W1 := by rw [hW1]; exact (below_alloc w _).alloc (by simp) _
  have hz : W1.heap.size = w.heap.size + 2 := by rw [hW1]; simp
  have DA : Dk W1 w.heap.size ng (.slice a n c) e := by rw [hW1]; exact (Dk.new w ng (.slice a n c) e).alloc _
  have DB : Dk W1 (w.heap.size + 1) mg (.slice b m d) f := by
    rw [hW1]
    have := Dk.new (w.alloc (.cells #[.bool ng, .slice a n c, .int .i64 e] 37)) mg (.slice b m d) f
    simpa using this
  have hs : w.heap.size ≤ W1.heap.size := by omega
  have S0 := (Aside.intro (And.intro hB (And.intro DA DB)))
  clear hz
  clear hB DA DB
  go_enter Tryz.func97, Tryz.ntmps97
  go_upto_region 1 with fail
  rw [← hW1]
  clear hW1
  obtain ⟨hB, DA, DB⟩ := S0.out
  obtain ⟨x0, x1, x2, xf0, xf1, xf2⟩ := DA.facts
  obtain ⟨y0, y1, y2, yf0, yf1, yf2⟩ := DB.facts
  have HH := hid (HR.out W1 hB)
  clear hB DA DB
  go_wp2_with fail
  clear x0 x1 x2 xf0 xf1 xf2 y0 y1 y2 yf0 yf1 yf2
  refine (Calls.mono HH.out) ?_
  rintro r u1 ⟨rfl, hb⟩
  obtain ⟨hB, DA, DB⟩ := S0.out
  have hs1 := hb.size
  have S1 := (Aside.intro (And.intro (hB.trans (hb.mono (by omega))) (And.intro (DA.below hb) (DB.below hb))))
  clear hB DA DB hb HH S0
  go_wp2
  go_ret
  exact ⟨rfl, S1.out.1⟩

set_option maxHeartbeats 4000000 in
theorem cmp_nought {w : World} {a b : Option Addr} {n c m d : Nat} (ng mg : Bool) (e f : Int) (s t z : Int) (hs0 : s = 0)
    (HA : Hid (∀ u, Below w.heap.size w u → Calls Tryz.prog 23 #[.agg #[.bool ng, .slice a n c, .int .i64 e]] u fun r w' => r = .returned (.int .i64 s) ∧ Below u.heap.size u w'))
    (HB : Hid (∀ u, Below w.heap.size w u → Calls Tryz.prog 23 #[.agg #[.bool mg, .slice b m d, .int .i64 f]] u fun r w' => r = .returned (.int .i64 t) ∧ Below u.heap.size u w'))
    (HC : Hid (∀ u, Calls Tryz.prog 96 #[.int .i64 s, .int .i64 t] u fun r w' => r = .returned (.int .i64 z) ∧ w' = u)) :
    Calls Tryz.prog 58 #[.agg #[.bool ng, .slice a n c, .int .i64 e], .agg #[.bool mg, .slice b m d, .int .i64 f]] w fun r w' => r = .returned (.int .i64 z) ∧ Below w.heap.size w w' := by
  subst hs0
  obtain ⟨W1, hW1⟩ : ∃ W, W = (w.alloc (.cells #[.bool ng, .slice a n c, .int .i64 e] 37)).alloc (.cells #[.bool mg, .slice b m d, .int .i64 f] 37) := ⟨_, rfl⟩
  have hB : Below w.heap.size w W1 := by rw [hW1]; exact (below_alloc w _).alloc (by simp) _
  have hz : W1.heap.size = w.heap.size + 2 := by rw [hW1]; simp
  have DA : Dk W1 w.heap.size ng (.slice a n c) e := by rw [hW1]; exact (Dk.new w ng (.slice a n c) e).alloc _
  have DB : Dk W1 (w.heap.size + 1) mg (.slice b m d) f := by
    rw [hW1]
    have := Dk.new (w.alloc (.cells #[.bool ng, .slice a n c, .int .i64 e] 37)) mg (.slice b m d) f
    simpa using this
  have hs : w.heap.size ≤ W1.heap.size := by omega
  have S0 := (Aside.intro (And.intro hB (And.intro DA DB)))
  clear hz
  clear hB DA DB
  go_enter Tryz.func58, Tryz.ntmps58
  go_upto_region 1 with fail
  rw [← hW1]
  clear hW1
  obtain ⟨hB, DA, DB⟩ := S0.out
  obtain ⟨x0, x1, x2, xf0, xf1, xf2⟩ := DA.facts
  obtain ⟨y0, y1, y2, yf0, yf1, yf2⟩ := DB.facts
  have HH := hid (HA.out W1 hB)
  clear hB DA DB
  go_wp2_with fail
  clear x0 x1 x2 xf0 xf1 xf2 y0 y1 y2 yf0 yf1 yf2
  refine (Calls.mono HH.out) ?_
  rintro r u1 ⟨rfl, hb⟩
  obtain ⟨hB, DA, DB⟩ := S0.out
  have hs1 := hb.size
  have S1 := (Aside.intro (And.intro (hB.trans (hb.mono (by omega))) (And.intro (DA.below hb) (DB.below hb))))
  clear hB DA DB hb HH S0
  obtain ⟨hB, DA, DB⟩ := S1.out
  obtain ⟨x0, x1, x2, xf0, xf1, xf2⟩ := DA.facts
  obtain ⟨y0, y1, y2, yf0, yf1, yf2⟩ := DB.facts
  have HH := hid (HB.out u1 hB)
  clear hB DA DB
  go_wp2_with fail
  clear x0 x1 x2 xf0 xf1 xf2 y0 y1 y2 yf0 yf1 yf2
  refine (Calls.mono HH.out) ?_
  rintro r u2 ⟨rfl, hb⟩
  obtain ⟨hB, DA, DB⟩ := S1.out
  have hs2 := hb.size
  have S2 := (Aside.intro (And.intro (hB.trans (hb.mono (by omega))) (And.intro (DA.below hb) (DB.below hb))))
  clear hB DA DB hb HH S1
  obtain ⟨hB, DA, DB⟩ := S2.out
  obtain ⟨x0, x1, x2, xf0, xf1, xf2⟩ := DA.facts
  obtain ⟨y0, y1, y2, yf0, yf1, yf2⟩ := DB.facts
  have HH := hid (HC.out u2)
  clear hB DA DB
  go_wp2_with fail
  clear x0 x1 x2 xf0 xf1 xf2 y0 y1 y2 yf0 yf1 yf2
  refine (Calls.mono HH.out) ?_
  rintro r uu ⟨rfl, hw⟩
  rw [hw]
  clear hw uu HH
  go_wp2
  go_ret
  exact ⟨rfl, S2.out.1⟩

set_option maxHeartbeats 4000000 in
theorem cmp_apart {w : World} {a b : Option Addr} {n c m d : Nat} (ng mg : Bool) (e f : Int) (s t z : Int) (hs0 : (s == 0) = false) (hst : (s == t) = false)
    (HA : Hid (∀ u, Below w.heap.size w u → Calls Tryz.prog 23 #[.agg #[.bool ng, .slice a n c, .int .i64 e]] u fun r w' => r = .returned (.int .i64 s) ∧ Below u.heap.size u w'))
    (HB : Hid (∀ u, Below w.heap.size w u → Calls Tryz.prog 23 #[.agg #[.bool mg, .slice b m d, .int .i64 f]] u fun r w' => r = .returned (.int .i64 t) ∧ Below u.heap.size u w'))
    (HC : Hid (∀ u, Calls Tryz.prog 96 #[.int .i64 s, .int .i64 t] u fun r w' => r = .returned (.int .i64 z) ∧ w' = u)) :
    Calls Tryz.prog 58 #[.agg #[.bool ng, .slice a n c, .int .i64 e], .agg #[.bool mg, .slice b m d, .int .i64 f]] w fun r w' => r = .returned (.int .i64 z) ∧ Below w.heap.size w w' := by
  obtain ⟨W1, hW1⟩ : ∃ W, W = (w.alloc (.cells #[.bool ng, .slice a n c, .int .i64 e] 37)).alloc (.cells #[.bool mg, .slice b m d, .int .i64 f] 37) := ⟨_, rfl⟩
  have hB : Below w.heap.size w W1 := by rw [hW1]; exact (below_alloc w _).alloc (by simp) _
  have hz : W1.heap.size = w.heap.size + 2 := by rw [hW1]; simp
  have DA : Dk W1 w.heap.size ng (.slice a n c) e := by rw [hW1]; exact (Dk.new w ng (.slice a n c) e).alloc _
  have DB : Dk W1 (w.heap.size + 1) mg (.slice b m d) f := by
    rw [hW1]
    have := Dk.new (w.alloc (.cells #[.bool ng, .slice a n c, .int .i64 e] 37)) mg (.slice b m d) f
    simpa using this
  have hs : w.heap.size ≤ W1.heap.size := by omega
  have S0 := (Aside.intro (And.intro hB (And.intro DA DB)))
  clear hz
  clear hB DA DB
  go_enter Tryz.func58, Tryz.ntmps58
  go_upto_region 1 with fail
  rw [← hW1]
  clear hW1
  obtain ⟨hB, DA, DB⟩ := S0.out
  obtain ⟨x0, x1, x2, xf0, xf1, xf2⟩ := DA.facts
  obtain ⟨y0, y1, y2, yf0, yf1, yf2⟩ := DB.facts
  have HH := hid (HA.out W1 hB)
  clear hB DA DB
  go_wp2_with fail
  clear x0 x1 x2 xf0 xf1 xf2 y0 y1 y2 yf0 yf1 yf2
  refine (Calls.mono HH.out) ?_
  rintro r u1 ⟨rfl, hb⟩
  obtain ⟨hB, DA, DB⟩ := S0.out
  have hs1 := hb.size
  have S1 := (Aside.intro (And.intro (hB.trans (hb.mono (by omega))) (And.intro (DA.below hb) (DB.below hb))))
  clear hB DA DB hb HH S0
  obtain ⟨hB, DA, DB⟩ := S1.out
  obtain ⟨x0, x1, x2, xf0, xf1, xf2⟩ := DA.facts
  obtain ⟨y0, y1, y2, yf0, yf1, yf2⟩ := DB.facts
  have HH := hid (HB.out u1 hB)
  clear hB DA DB
  go_wp2_with fail
  clear x0 x1 x2 xf0 xf1 xf2 y0 y1 y2 yf0 yf1 yf2
  refine (Calls.mono HH.out) ?_
  rintro r u2 ⟨rfl, hb⟩
  obtain ⟨hB, DA, DB⟩ := S1.out
  have hs2 := hb.size
  have S2 := (Aside.intro (And.intro (hB.trans (hb.mono (by omega))) (And.intro (DA.below hb) (DB.below hb))))
  clear hB DA DB hb HH S1
  obtain ⟨hB, DA, DB⟩ := S2.out
  obtain ⟨x0, x1, x2, xf0, xf1, xf2⟩ := DA.facts
  obtain ⟨y0, y1, y2, yf0, yf1, yf2⟩ := DB.facts
  have HH := hid (HB.out u2 hB)
  clear hB DA DB
  go_wp2_with fail
  clear x0 x1 x2 xf0 xf1 xf2 y0 y1 y2 yf0 yf1 yf2
  refine (Calls.mono HH.out) ?_
  rintro r u3 ⟨rfl, hb⟩
  obtain ⟨hB, DA, DB⟩ := S2.out
  have hs3 := hb.size
  have S3 := (Aside.intro (And.intro (hB.trans (hb.mono (by omega))) (And.intro (DA.below hb) (DB.below hb))))
  clear hB DA DB hb HH S2
  obtain ⟨hB, DA, DB⟩ := S3.out
  obtain ⟨x0, x1, x2, xf0, xf1, xf2⟩ := DA.facts
  obtain ⟨y0, y1, y2, yf0, yf1, yf2⟩ := DB.facts
  have HH := hid (HC.out u3)
  clear hB DA DB
  go_wp2_with fail
  clear x0 x1 x2 xf0 xf1 xf2 y0 y1 y2 yf0 yf1 yf2
  refine (Calls.mono HH.out) ?_
  rintro r uu ⟨rfl, hw⟩
  rw [hw]
  clear hw uu HH
  go_wp2
  go_ret
  exact ⟨rfl, S3.out.1⟩

set_option maxHeartbeats 4000000 in
theorem cmp_alike {w : World} {a b : Option Addr} {n c m d : Nat} (ng mg : Bool) (e f : Int) (s z : Int) (hs0 : (s == 0) = false) (bs0 : -1 ≤ s) (bs1 : s ≤ 1) (bz0 : -1 ≤ z) (bz1 : z ≤ 1) (p : Int) (hp : IntKind.i64.wrap (s * z) = p)
    (HA : Hid (∀ u, Below w.heap.size w u → Calls Tryz.prog 23 #[.agg #[.bool ng, .slice a n c, .int .i64 e]] u fun r w' => r = .returned (.int .i64 s) ∧ Below u.heap.size u w'))
    (HB : Hid (∀ u, Below w.heap.size w u → Calls Tryz.prog 23 #[.agg #[.bool mg, .slice b m d, .int .i64 f]] u fun r w' => r = .returned (.int .i64 s) ∧ Below u.heap.size u w'))
    (HZ : Hid (∀ u, Below w.heap.size w u → Calls Tryz.prog 97 #[.agg #[.bool ng, .slice a n c, .int .i64 e], .agg #[.bool mg, .slice b m d, .int .i64 f]] u fun r w' => r = .returned (.int .i64 z) ∧ Below u.heap.size u w')) :
    Calls Tryz.prog 58 #[.agg #[.bool ng, .slice a n c, .int .i64 e], .agg #[.bool mg, .slice b m d, .int .i64 f]] w fun r w' => r = .returned (.int .i64 p) ∧ Below w.heap.size w w' := by
  obtain ⟨W1, hW1⟩ : ∃ W, W = (w.alloc (.cells #[.bool ng, .slice a n c, .int .i64 e] 37)).alloc (.cells #[.bool mg, .slice b m d, .int .i64 f] 37) := ⟨_, rfl⟩
  have hB : Below w.heap.size w W1 := by rw [hW1]; exact (below_alloc w _).alloc (by simp) _
  have hz : W1.heap.size = w.heap.size + 2 := by rw [hW1]; simp
  have DA : Dk W1 w.heap.size ng (.slice a n c) e := by rw [hW1]; exact (Dk.new w ng (.slice a n c) e).alloc _
  have DB : Dk W1 (w.heap.size + 1) mg (.slice b m d) f := by
    rw [hW1]
    have := Dk.new (w.alloc (.cells #[.bool ng, .slice a n c, .int .i64 e] 37)) mg (.slice b m d) f
    simpa using this
  have hs : w.heap.size ≤ W1.heap.size := by omega
  have S0 := (Aside.intro (And.intro hB (And.intro DA DB)))
  clear hz
  clear hB DA DB
  go_enter Tryz.func58, Tryz.ntmps58
  go_upto_region 1 with fail
  rw [← hW1]
  clear hW1
  obtain ⟨hB, DA, DB⟩ := S0.out
  obtain ⟨x0, x1, x2, xf0, xf1, xf2⟩ := DA.facts
  obtain ⟨y0, y1, y2, yf0, yf1, yf2⟩ := DB.facts
  have HH := hid (HA.out W1 hB)
  clear hB DA DB
  go_wp2_with fail
  clear x0 x1 x2 xf0 xf1 xf2 y0 y1 y2 yf0 yf1 yf2
  refine (Calls.mono HH.out) ?_
  rintro r u1 ⟨rfl, hb⟩
  obtain ⟨hB, DA, DB⟩ := S0.out
  have hs1 := hb.size
  have S1 := (Aside.intro (And.intro (hB.trans (hb.mono (by omega))) (And.intro (DA.below hb) (DB.below hb))))
  clear hB DA DB hb HH S0
  obtain ⟨hB, DA, DB⟩ := S1.out
  obtain ⟨x0, x1, x2, xf0, xf1, xf2⟩ := DA.facts
  obtain ⟨y0, y1, y2, yf0, yf1, yf2⟩ := DB.facts
  have HH := hid (HB.out u1 hB)
  clear hB DA DB
  go_wp2_with fail
  clear x0 x1 x2 xf0 xf1 xf2 y0 y1 y2 yf0 yf1 yf2
  refine (Calls.mono HH.out) ?_
  rintro r u2 ⟨rfl, hb⟩
  obtain ⟨hB, DA, DB⟩ := S1.out
  have hs2 := hb.size
  have S2 := (Aside.intro (And.intro (hB.trans (hb.mono (by omega))) (And.intro (DA.below hb) (DB.below hb))))
  clear hB DA DB hb HH S1
  obtain ⟨hB, DA, DB⟩ := S2.out
  obtain ⟨x0, x1, x2, xf0, xf1, xf2⟩ := DA.facts
  obtain ⟨y0, y1, y2, yf0, yf1, yf2⟩ := DB.facts
  have HH := hid (HZ.out u2 hB)
  clear hB DA DB
  go_wp2_with fail
  clear x0 x1 x2 xf0 xf1 xf2 y0 y1 y2 yf0 yf1 yf2
  refine (Calls.mono HH.out) ?_
  rintro r u3 ⟨rfl, hb⟩
  obtain ⟨hB, DA, DB⟩ := S2.out
  have hs3 := hb.size
  have S3 := (Aside.intro (And.intro (hB.trans (hb.mono (by omega))) (And.intro (DA.below hb) (DB.below hb))))
  clear hB DA DB hb HH S2
  go_wp2
  go_ret
  exact ⟨rfl, S3.out.1⟩


theorem u64_apart (e f : Int) (he0 : -9223372036854775808 ≤ e) (he1 : e ≤ 9223372036854775807) (hf0 : -9223372036854775808 ≤ f) (hf1 : f ≤ 9223372036854775807) (h : f ≤ e) : IntKind.u64.wrap (IntKind.u64.wrap e - IntKind.u64.wrap f) = (((e - f).toNat : Nat) : Int) := by
  rw [IntKind.wrap_u64, IntKind.wrap_u64, IntKind.wrap_u64]
  omega
theorem cmp_size (X Y dd : Nat) (hX : X ≠ 0) : (if bl Y < dd then 1 else if dd + bl X = bl Y then cmpI (X * 2 ^ dd) Y else cmpI (dd + bl X) (bl Y)) = cmpI (X * 2 ^ dd) Y := by
  have hb := bl_up X dd hX
  by_cases h1 : bl Y < dd
  · rw [if_pos h1, cmpI_bl (by omega), hb]
    unfold cmpI
    rw [if_neg (by omega), if_pos (by omega)]
  · rw [if_neg h1]
    by_cases h2 : dd + bl X = bl Y
    · rw [if_pos h2]
    · rw [if_neg h2, cmpI_bl (x := X * 2 ^ dd) (by omega), hb, Nat.add_comm]

theorem bl_arg {w : World} {a : Option Addr} {n c : Nat} {xs : List Nat} (h1 : Arg w a n c xs) : bl (val xs) ≤ 1125899906842624 := by
  have := val_lt xs h1.wf
  rw [← h1.len] at this
  have := bl_pw _ _ this
  have := h1.big
  omega
theorem cmpSizes_ge {w : World} {a b : Option Addr} {n c m d : Nat} {xs ys : List Nat} (h1 : Arg w a n c xs) (h2 : Arg w b m d ys) (ng mg : Bool) (e f : Int) (he0 : -9223372036854775808 ≤ e) (he1 : e ≤ 9223372036854775807) (hf0 : -9223372036854775808 ≤ f) (hf1 : f ≤ 9223372036854775807) (h : f ≤ e) (hX : val xs ≠ 0) :
    Calls Tryz.prog 97 #[.agg #[.bool ng, .slice a n c, .int .i64 e], .agg #[.bool mg, .slice b m d, .int .i64 f]] w fun r w' => r = .returned (.int .i64 (cmpP (val xs) e (val ys) f)) ∧ Below w.heap.size w w' := by
  have b1 := h1.big
  have b2 := h2.big
  have := cmpSizes_go (w := w) ng mg e f (bl (val xs)) (bl (val ys)) (e - f).toNat (cmpI (val xs * 2 ^ (e - f).toNat) (val ys)) (bl_arg h1) (bl_arg h2) (decide_eq_false (by omega)) (u64_apart e f he0 he1 hf0 hf1 h)
    (hid fun u hu => len_any xs a n c u.heap.size u h1.len h1.cap (by omega) h1.wf (h1.below hu).rd)
    (hid fun u hu => len_any ys b m d u.heap.size u h2.len h2.cap (by omega) h2.wf (h2.below hu).rd)
    (hid fun u hu hd => cmpFromTop_any (h1.below hu) (h2.below hu) (e - f).toNat (by omega))
  rw [cmp_size _ _ _ hX] at this
  unfold cmpP
  rw [if_neg (by omega)]
  exact this
theorem cmpSizes_any {w : World} {a b : Option Addr} {n c m d : Nat} {xs ys : List Nat} (h1 : Arg w a n c xs) (h2 : Arg w b m d ys) (ng mg : Bool) (e f : Int) (he0 : -9223372036854775808 ≤ e) (he1 : e ≤ 9223372036854775807) (hf0 : -9223372036854775808 ≤ f) (hf1 : f ≤ 9223372036854775807) (hX : val xs ≠ 0) (hY : val ys ≠ 0) :
    Calls Tryz.prog 97 #[.agg #[.bool ng, .slice a n c, .int .i64 e], .agg #[.bool mg, .slice b m d, .int .i64 f]] w fun r w' => r = .returned (.int .i64 (cmpP (val xs) e (val ys) f)) ∧ Below w.heap.size w w' := by
  by_cases h : e < f
  · have hr := cmpP_range (val ys) f (val xs) e
    have := cmpSizes_lt (w := w) ng mg e f (cmpP (val ys) f (val xs) e) h (by omega) (by omega) (hid fun u hu => cmpSizes_ge (h2.below hu) (h1.below hu) mg ng f e hf0 hf1 he0 he1 (by omega) hY)
    rw [cmpP_neg] at this
    exact this
  · exact cmpSizes_ge h1 h2 ng mg e f he0 he1 hf0 hf1 (by omega) hX

theorem sgn_range (n : Bool) (X : Nat) : sgn n X = -1 ∨ sgn n X = 0 ∨ sgn n X = 1 := by
  unfold sgn; split
  · exact .inr (.inl rfl)
  · split
    · exact .inl rfl
    · exact .inr (.inr rfl)
theorem sgn_zero3 {n : Bool} {X : Nat} : sgn n X = 0 ↔ X = 0 := by
  unfold sgn
  by_cases h : X = 0
  · simp [h]
  · rw [if_neg h]; cases n <;> simp [h]
theorem Cmp_any3 {w : World} {a b : Option Addr} {n c m d : Nat} {xs ys : List Nat} (h1 : Arg w a n c xs) (h2 : Arg w b m d ys) (ng mg : Bool) (e f : Int) (he0 : -9223372036854775808 ≤ e) (he1 : e ≤ 9223372036854775807) (hf0 : -9223372036854775808 ≤ f) (hf1 : f ≤ 9223372036854775807) :
    Calls Tryz.prog 58 #[.agg #[.bool ng, .slice a n c, .int .i64 e], .agg #[.bool mg, .slice b m d, .int .i64 f]] w fun r w' => r = .returned (.int .i64 (cmpV ng (val xs) e mg (val ys) f)) ∧ Below w.heap.size w w' := by
  have SA := hid fun u (hu : Below w.heap.size w u) => Sign_any3 (h1.below hu) ng e
  have SB := hid fun u (hu : Below w.heap.size w u) => Sign_any3 (h2.below hu) mg f
  have hA := sgn_range ng (val xs)
  have hB := sgn_range mg (val ys)
  by_cases h0 : sgn ng (val xs) = 0
  · have hX := sgn_zero3.1 h0
    have e1 : cmpV ng (val xs) e mg (val ys) f = cmpZ (sgn ng (val xs)) (sgn mg (val ys)) := by
      unfold cmpV cmpZ
      rw [if_pos hX]
    rw [e1]
    exact cmp_nought ng mg e f _ _ _ h0 SA SB (hid fun u => compare_z _ _ u)
  · have h0' : (sgn ng (val xs) == 0) = false := by simpa using h0
    by_cases hst : sgn ng (val xs) = sgn mg (val ys)
    · have hX : val xs ≠ 0 := fun h => h0 (sgn_zero3.2 h)
      have hY : val ys ≠ 0 := fun h => h0 (by rw [hst]; exact sgn_zero3.2 h)
      have hz := cmpP_range (val xs) e (val ys) f
      have e1 : cmpV ng (val xs) e mg (val ys) f = sgn ng (val xs) * cmpP (val xs) e (val ys) f := by
        unfold cmpV
        rw [hst, if_neg (by omega), if_neg (by omega), if_neg hX, ← hst]
        unfold sgn
        rw [if_neg hX]
        cases ng
        · simp
        · simp only [if_true]
          rw [Int.neg_one_mul, cmpP_neg]
      rw [e1]
      rw [← hst] at SB
      refine cmp_alike ng mg e f (sgn ng (val xs)) (cmpP (val xs) e (val ys) f) h0' (by omega) (by omega) (by omega) (by omega) _ ?_ SA SB (hid fun u hu => cmpSizes_any (h1.below hu) (h2.below hu) ng mg e f he0 he1 hf0 hf1 hX hY)
      rcases hA with h | h | h <;> rcases hz with k | k | k <;> rw [h, k] <;> rfl
    · have e1 : cmpV ng (val xs) e mg (val ys) f = cmpZ (sgn ng (val xs)) (sgn mg (val ys)) := by
        unfold cmpV cmpZ
        by_cases k : sgn ng (val xs) < sgn mg (val ys)
        · rw [if_pos k, if_pos k]
        · rw [if_neg k, if_neg k, if_pos (by omega), if_pos (by omega)]
      rw [e1]
      exact cmp_apart ng mg e f _ _ _ h0' (by simpa using hst) SA SB (hid fun u => compare_z _ _ u)
end Go.Proofs.YteoednbmhiblfaaGreatDoor

