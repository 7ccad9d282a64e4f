/- The law's gap. -/
import Derived.Test.YtfaaidnhmddibaaDoorD36
import Derived.Test.YtfaaidnhmddibaaDoorD34
import Derived.Deep.Cut
namespace Go.Proofs.YtfaaidnhmddibaaDoor
open Go.RowKit
set_option linter.unusedVariables false
set_option maxRecDepth 20000
set_option linter.unusedSimpArgs false

theorem gap_res (W : World) (g : Nat) (n : Bool) (v : Value) (e : Int) (k : Bool) (tmps : Array Value) (ht : tmps[4]?.getD undef = .pointer (some ⟨g, 0, none⟩)) (hk : tmps[5]?.getD undef = .bool k) (D : Dk W g n v e) :
    (results Tryd.f28 tmps).run Tryd.prog W = .ok (.tuple #[.agg #[.bool n, v, .int .i64 e], .bool k]) W := by
  obtain ⟨x0, x1, x2, xf0, xf1, xf2⟩ := D.facts
  simp [results, Tryd.results28, ht, hk, go_sem, x0, x1, x2]

set_option maxHeartbeats 4000000 in
theorem gap_no {w : World} (x : Nat) (n : Bool) (a : Option Addr) (l c : Nat) (e : Int) (nd ng nm : Bool) (Xd Xg Xm : Nat) (ed eg em erd erg sv : Int) (ld' : (ws Xd).length ≤ 8192) (lg : (ws Xg).length ≤ 8192) (lm : (ws Xm).length ≤ 8192) (hsv : sv < 0) (herd : erd = 0)
    (HO : Hid (∀ u, Below w.heap.size w u → Calls Tryd.prog 8 #[.float .f64 x] u fun r w' => (∃ v, r = .returned (.tuple #[.agg #[.bool nd, v, .int .i64 ed], .int .i64 erd]) ∧ Nt u.heap.size w' v Xd) ∧ Below u.heap.size u w'))
    (HS : Hid (∀ (u : World) (p : Option Addr) (s : Nat), Below w.heap.size w u → Arg u p (ws Xd).length s (ws Xd) → Calls Tryd.prog 19 #[.agg #[.bool nd, .slice p (ws Xd).length s, .int .i64 ed], .agg #[.bool n, .slice a l c, .int .i64 e]] u fun r w' => (∃ v, r = .returned (.tuple #[.agg #[.bool ng, v, .int .i64 eg], .int .i64 erg]) ∧ Nt u.heap.size w' v Xg) ∧ Below u.heap.size u w'))
    (HG : Hid (∀ (u : World) (p : Option Addr) (s : Nat), Below w.heap.size w u → Arg u p (ws Xg).length s (ws Xg) → Calls Tryd.prog 59 #[.agg #[.bool ng, .slice p (ws Xg).length s, .int .i64 eg]] u fun r w' => r = .returned (.int .i64 sv) ∧ Below u.heap.size u w'))
    (HN : Hid (∀ (u : World) (p : Option Addr) (s : Nat), Below w.heap.size w u → Arg u p (ws Xg).length s (ws Xg) → Calls Tryd.prog 62 #[.agg #[.bool ng, .slice p (ws Xg).length s, .int .i64 eg]] u fun r w' => (∃ v, r = .returned (.agg #[.bool nm, v, .int .i64 em]) ∧ Nt u.heap.size w' v Xm) ∧ Below u.heap.size u w')) :
    Calls Tryd.prog 28 #[.float .f64 x, .agg #[.bool n, .slice a l c, .int .i64 e]] w fun r w' => (∃ v, r = .returned (.tuple #[.agg #[.bool nm, v, .int .i64 em], .bool (erg == 0)]) ∧ Nt w.heap.size w' v Xm) ∧ Below w.heap.size w w' := by
  subst herd
  obtain ⟨W1, hW1⟩ : ∃ W, W = (w.alloc (.cells #[.bool n, .slice a l c, .int .i64 e] 27)).alloc (.cells #[.bool false, .slice none 0 0, .int .i64 0] 27) := ⟨_, rfl⟩
  have hB : Below w.heap.size w W1 := by rw [hW1]; exact (below_alloc w _).alloc (by simp) _
  have hz : W1.heap.size = w.heap.size + 2 := by rw [hW1]; simp
  have DA : Dk W1 w.heap.size n (.slice a l c) e := by rw [hW1]; exact (Dk.new w n (.slice a l c) e).alloc _
  have DR : Dk W1 (w.heap.size + 1) false (.slice none 0 0) 0 := by
    rw [hW1]
    have := Dk.new (w.alloc (.cells #[.bool n, .slice a l c, .int .i64 e] 27)) false (.slice none 0 0) 0
    simpa using this
  have H1 := hid (HO.out W1 hB)
  have hq : w.heap.size + 1 < W1.heap.size := by omega
  have S0 := (Aside.intro (And.intro hB (And.intro DA DR)))
  clear hB hz DA DR HO
  go_enter Tryd.func28, Tryd.ntmps28
  go_wp2_with fail
  rw [← hW1]
  clear hW1
  refine (Calls.mono H1.out) ?_
  rintro r u1 ⟨⟨v, rfl, hN⟩, hb⟩
  obtain ⟨a1, c1, rfl, _⟩ := hN.arg (by omega)
  obtain ⟨hB, DA, DR⟩ := S0.out
  have hs1 := hb.size
  obtain ⟨U1, hU1⟩ : ∃ U, U = u1.alloc (.cells #[.bool nd, .slice a1 (ws Xd).length c1, .int .i64 ed] 27) := ⟨_, rfl⟩
  have hA : Below u1.heap.size u1 U1 := by rw [hU1]; exact below_alloc _ _
  have hs2 : u1.heap.size < U1.heap.size := by rw [hU1]; simp
  have DX : Dk U1 u1.heap.size nd (.slice a1 (ws Xd).length c1) ed := by rw [hU1]; exact Dk.new _ _ _ _
  have BU : Below w.heap.size w U1 := (hB.trans (hb.mono (by omega))).trans (hA.mono (by omega))
  have EA := (DA.below hb).below hA
  have ER := (DR.below hb).below hA
  have NX := hN.below hA
  have H2 := hid (HS.out U1 a1 c1 BU (NX.arg' (by omega)).2)
  obtain ⟨x0, x1, x2, xf0, xf1, xf2⟩ := EA.facts
  obtain ⟨y0, y1, y2, yf0, yf1, yf2⟩ := DX.facts
  have S1 := (Aside.intro (And.intro BU ER))
  clear hN hb hB DA DR hA DX BU EA ER NX H1 S0 HS
  go_upto_region 2 with fail
  rw [← hU1]
  clear hU1
  go_wp2_with fail
  clear x0 x1 x2 xf0 xf1 xf2 y0 y1 y2 yf0 yf1 yf2
  refine (Calls.mono H2.out) ?_
  rintro r u2 ⟨⟨v, rfl, hN⟩, hb⟩
  obtain ⟨a2, c2, rfl, _⟩ := hN.arg (by omega)
  obtain ⟨BU, ER⟩ := S1.out
  have hs3 := hb.size
  obtain ⟨U2, hU2⟩ : ∃ U, U = u2.alloc (.cells #[.bool ng, .slice a2 (ws Xg).length c2, .int .i64 eg] 27) := ⟨_, rfl⟩
  have hA : Below u2.heap.size u2 U2 := by rw [hU2]; exact below_alloc _ _
  have hs4 : u2.heap.size < U2.heap.size := by rw [hU2]; simp
  have DG : Dk U2 u2.heap.size ng (.slice a2 (ws Xg).length c2) eg := by rw [hU2]; exact Dk.new _ _ _ _
  have BV : Below w.heap.size w U2 := (BU.trans (hb.mono (by omega))).trans (hA.mono (by omega))
  have FR := (ER.below hb).below hA
  have NG := (hN.mono (lo' := W1.heap.size) (by omega)).below hA
  have H3 := hid (HG.out U2 a2 c2 BV (NG.arg' (by omega)).2)
  obtain ⟨y0, y1, y2, yf0, yf1, yf2⟩ := DG.facts
  have S2 := (Aside.intro (And.intro BV (And.intro FR (And.intro DG NG))))
  clear hN hb BU ER hA DG BV FR NG H2 S1 HG
  go_upto_region 3 with fail
  rw [← hU2]
  clear hU2
  go_wp2_with fail
  clear y0 y1 y2 yf0 yf1 yf2
  refine (Calls.mono H3.out) ?_
  rintro r u3 ⟨rfl, hb⟩
  obtain ⟨BV, FR, DG, NG⟩ := S2.out
  have hs5 := hb.size
  have GR := FR.below hb
  have GG := DG.below hb
  have MG := NG.below hb
  have BW : Below w.heap.size w u3 := BV.trans (hb.mono (by omega))
  obtain ⟨r0, r1, r2, rf0, rf1, rf2⟩ := GR.facts
  obtain ⟨y0, y1, y2, yf0, yf1, yf2⟩ := GG.facts
  have H4 := hid (HN.out u3 a2 c2 BW (MG.arg' (by omega)).2)
  have S3 := (Aside.intro (And.intro BW (And.intro GR GG)))
  clear BV FR DG NG hb GR GG MG BW H3 S2 HN
  go_wp2_with fail
  clear y0 y1 y2 yf0 yf1 yf2 r0 r1 r2 rf0 rf1 rf2
  refine (Calls.mono H4.out) ?_
  rintro r u4 ⟨⟨v, rfl, hN⟩, hb⟩
  obtain ⟨a4, c4, rfl, _⟩ := hN.arg (by omega)
  obtain ⟨BW, GR, GG⟩ := S3.out
  have hs6 := hb.size
  obtain ⟨U4, hU4⟩ : ∃ U, U = st3 u4 u2.heap.size (.bool nm) (.slice a4 (ws Xm).length c4) (.int .i64 em) := ⟨_, rfl⟩
  have KG : Dk U4 u2.heap.size nm (.slice a4 (ws Xm).length c4) em := by rw [hU4]; exact (GG.below hb).set _ _ _
  have KR : Dk U4 (w.heap.size + 1) false (.slice none 0 0) 0 := by rw [hU4]; exact (GR.below hb).other _ (by omega) _ _ _
  have FV : Fin w.heap.size (u3.heap.size) w U4 (.slice a4 (ws Xm).length c4) Xm := by rw [hU4]; exact Fin.st3 ⟨hN, BW.trans (hb.mono (by omega)), by omega⟩ _ _ _ _ (by omega) (by omega)
  obtain ⟨g0, g1, g2, gf0, gf1, gf2⟩ := (GG.below hb).facts
  have S4 := (Aside.intro (And.intro KR (And.intro KG FV)))
  clear hN hb BW GR GG KG KR FV H4 S3
  unfold st3 at hU4
  go_upto_region 5 with fail
  rw [← hU4]
  clear hU4 g0 g1 g2 gf0 gf1 gf2
  obtain ⟨r0, r1, r2, rf0, rf1, rf2⟩ := S4.out.1.facts
  obtain ⟨y0, y1, y2, yf0, yf1, yf2⟩ := S4.out.2.1.facts
  have hsz : w.heap.size + 1 < u3.heap.size := by omega
  go_wp2
  refine bodyPost_ret (gap_res _ (w.heap.size + 1) nm (.slice a4 (ws Xm).length c4) em _ _ rfl rfl (S4.out.1.set _ _ _)) rfl ⟨⟨_, rfl, ?_⟩, ?_⟩
  · exact (Fin.st3 S4.out.2.2 (w.heap.size + 1) _ _ _ (by omega) hsz).nt.mono (by omega)
  · exact (Fin.st3 S4.out.2.2 (w.heap.size + 1) _ _ _ (by omega) hsz).bel

set_option maxHeartbeats 4000000 in
theorem gap_nx {w : World} (x : Nat) (n : Bool) (a : Option Addr) (l c : Nat) (e : Int) (nd ng nm : Bool) (Xd Xg Xm : Nat) (ed eg em erd erg sv : Int) (ld' : (ws Xd).length ≤ 8192) (lg : (ws Xg).length ≤ 8192) (lm : (ws Xm).length ≤ 8192) (hsv : sv < 0) (herd : (erd == 0) = false)
    (HO : Hid (∀ u, Below w.heap.size w u → Calls Tryd.prog 8 #[.float .f64 x] u fun r w' => (∃ v, r = .returned (.tuple #[.agg #[.bool nd, v, .int .i64 ed], .int .i64 erd]) ∧ Nt u.heap.size w' v Xd) ∧ Below u.heap.size u w'))
    (HS : Hid (∀ (u : World) (p : Option Addr) (s : Nat), Below w.heap.size w u → Arg u p (ws Xd).length s (ws Xd) → Calls Tryd.prog 19 #[.agg #[.bool nd, .slice p (ws Xd).length s, .int .i64 ed], .agg #[.bool n, .slice a l c, .int .i64 e]] u fun r w' => (∃ v, r = .returned (.tuple #[.agg #[.bool ng, v, .int .i64 eg], .int .i64 erg]) ∧ Nt u.heap.size w' v Xg) ∧ Below u.heap.size u w'))
    (HG : Hid (∀ (u : World) (p : Option Addr) (s : Nat), Below w.heap.size w u → Arg u p (ws Xg).length s (ws Xg) → Calls Tryd.prog 59 #[.agg #[.bool ng, .slice p (ws Xg).length s, .int .i64 eg]] u fun r w' => r = .returned (.int .i64 sv) ∧ Below u.heap.size u w'))
    (HN : Hid (∀ (u : World) (p : Option Addr) (s : Nat), Below w.heap.size w u → Arg u p (ws Xg).length s (ws Xg) → Calls Tryd.prog 62 #[.agg #[.bool ng, .slice p (ws Xg).length s, .int .i64 eg]] u fun r w' => (∃ v, r = .returned (.agg #[.bool nm, v, .int .i64 em]) ∧ Nt u.heap.size w' v Xm) ∧ Below u.heap.size u w')) :
    Calls Tryd.prog 28 #[.float .f64 x, .agg #[.bool n, .slice a l c, .int .i64 e]] w fun r w' => (∃ v, r = .returned (.tuple #[.agg #[.bool nm, v, .int .i64 em], .bool false]) ∧ Nt w.heap.size w' v Xm) ∧ Below w.heap.size w w' := by
  obtain ⟨W1, hW1⟩ : ∃ W, W = (w.alloc (.cells #[.bool n, .slice a l c, .int .i64 e] 27)).alloc (.cells #[.bool false, .slice none 0 0, .int .i64 0] 27) := ⟨_, rfl⟩
  have hB : Below w.heap.size w W1 := by rw [hW1]; exact (below_alloc w _).alloc (by simp) _
  have hz : W1.heap.size = w.heap.size + 2 := by rw [hW1]; simp
  have DA : Dk W1 w.heap.size n (.slice a l c) e := by rw [hW1]; exact (Dk.new w n (.slice a l c) e).alloc _
  have DR : Dk W1 (w.heap.size + 1) false (.slice none 0 0) 0 := by
    rw [hW1]
    have := Dk.new (w.alloc (.cells #[.bool n, .slice a l c, .int .i64 e] 27)) false (.slice none 0 0) 0
    simpa using this
  have H1 := hid (HO.out W1 hB)
  have hq : w.heap.size + 1 < W1.heap.size := by omega
  have S0 := (Aside.intro (And.intro hB (And.intro DA DR)))
  clear hB hz DA DR HO
  go_enter Tryd.func28, Tryd.ntmps28
  go_wp2_with fail
  rw [← hW1]
  clear hW1
  refine (Calls.mono H1.out) ?_
  rintro r u1 ⟨⟨v, rfl, hN⟩, hb⟩
  obtain ⟨a1, c1, rfl, _⟩ := hN.arg (by omega)
  obtain ⟨hB, DA, DR⟩ := S0.out
  have hs1 := hb.size
  obtain ⟨U1, hU1⟩ : ∃ U, U = u1.alloc (.cells #[.bool nd, .slice a1 (ws Xd).length c1, .int .i64 ed] 27) := ⟨_, rfl⟩
  have hA : Below u1.heap.size u1 U1 := by rw [hU1]; exact below_alloc _ _
  have hs2 : u1.heap.size < U1.heap.size := by rw [hU1]; simp
  have DX : Dk U1 u1.heap.size nd (.slice a1 (ws Xd).length c1) ed := by rw [hU1]; exact Dk.new _ _ _ _
  have BU : Below w.heap.size w U1 := (hB.trans (hb.mono (by omega))).trans (hA.mono (by omega))
  have EA := (DA.below hb).below hA
  have ER := (DR.below hb).below hA
  have NX := hN.below hA
  have H2 := hid (HS.out U1 a1 c1 BU (NX.arg' (by omega)).2)
  obtain ⟨x0, x1, x2, xf0, xf1, xf2⟩ := EA.facts
  obtain ⟨y0, y1, y2, yf0, yf1, yf2⟩ := DX.facts
  have S1 := (Aside.intro (And.intro BU ER))
  clear hN hb hB DA DR hA DX BU EA ER NX H1 S0 HS
  go_upto_region 2 with fail
  rw [← hU1]
  clear hU1
  go_wp2_with fail
  clear x0 x1 x2 xf0 xf1 xf2 y0 y1 y2 yf0 yf1 yf2
  refine (Calls.mono H2.out) ?_
  rintro r u2 ⟨⟨v, rfl, hN⟩, hb⟩
  obtain ⟨a2, c2, rfl, _⟩ := hN.arg (by omega)
  obtain ⟨BU, ER⟩ := S1.out
  have hs3 := hb.size
  obtain ⟨U2, hU2⟩ : ∃ U, U = u2.alloc (.cells #[.bool ng, .slice a2 (ws Xg).length c2, .int .i64 eg] 27) := ⟨_, rfl⟩
  have hA : Below u2.heap.size u2 U2 := by rw [hU2]; exact below_alloc _ _
  have hs4 : u2.heap.size < U2.heap.size := by rw [hU2]; simp
  have DG : Dk U2 u2.heap.size ng (.slice a2 (ws Xg).length c2) eg := by rw [hU2]; exact Dk.new _ _ _ _
  have BV : Below w.heap.size w U2 := (BU.trans (hb.mono (by omega))).trans (hA.mono (by omega))
  have FR := (ER.below hb).below hA
  have NG := (hN.mono (lo' := W1.heap.size) (by omega)).below hA
  have H3 := hid (HG.out U2 a2 c2 BV (NG.arg' (by omega)).2)
  obtain ⟨y0, y1, y2, yf0, yf1, yf2⟩ := DG.facts
  have S2 := (Aside.intro (And.intro BV (And.intro FR (And.intro DG NG))))
  clear hN hb BU ER hA DG BV FR NG H2 S1 HG
  go_upto_region 3 with fail
  rw [← hU2]
  clear hU2
  go_wp2_with fail
  clear y0 y1 y2 yf0 yf1 yf2
  refine (Calls.mono H3.out) ?_
  rintro r u3 ⟨rfl, hb⟩
  obtain ⟨BV, FR, DG, NG⟩ := S2.out
  have hs5 := hb.size
  have GR := FR.below hb
  have GG := DG.below hb
  have MG := NG.below hb
  have BW : Below w.heap.size w u3 := BV.trans (hb.mono (by omega))
  obtain ⟨r0, r1, r2, rf0, rf1, rf2⟩ := GR.facts
  obtain ⟨y0, y1, y2, yf0, yf1, yf2⟩ := GG.facts
  have H4 := hid (HN.out u3 a2 c2 BW (MG.arg' (by omega)).2)
  have S3 := (Aside.intro (And.intro BW (And.intro GR GG)))
  clear BV FR DG NG hb GR GG MG BW H3 S2 HN
  go_wp2_with fail
  clear y0 y1 y2 yf0 yf1 yf2 r0 r1 r2 rf0 rf1 rf2
  refine (Calls.mono H4.out) ?_
  rintro r u4 ⟨⟨v, rfl, hN⟩, hb⟩
  obtain ⟨a4, c4, rfl, _⟩ := hN.arg (by omega)
  obtain ⟨BW, GR, GG⟩ := S3.out
  have hs6 := hb.size
  obtain ⟨U4, hU4⟩ : ∃ U, U = st3 u4 u2.heap.size (.bool nm) (.slice a4 (ws Xm).length c4) (.int .i64 em) := ⟨_, rfl⟩
  have KG : Dk U4 u2.heap.size nm (.slice a4 (ws Xm).length c4) em := by rw [hU4]; exact (GG.below hb).set _ _ _
  have KR : Dk U4 (w.heap.size + 1) false (.slice none 0 0) 0 := by rw [hU4]; exact (GR.below hb).other _ (by omega) _ _ _
  have FV : Fin w.heap.size (u3.heap.size) w U4 (.slice a4 (ws Xm).length c4) Xm := by rw [hU4]; exact Fin.st3 ⟨hN, BW.trans (hb.mono (by omega)), by omega⟩ _ _ _ _ (by omega) (by omega)
  obtain ⟨g0, g1, g2, gf0, gf1, gf2⟩ := (GG.below hb).facts
  have S4 := (Aside.intro (And.intro KR (And.intro KG FV)))
  clear hN hb BW GR GG KG KR FV H4 S3
  unfold st3 at hU4
  go_upto_region 5 with fail
  rw [← hU4]
  clear hU4 g0 g1 g2 gf0 gf1 gf2
  obtain ⟨r0, r1, r2, rf0, rf1, rf2⟩ := S4.out.1.facts
  obtain ⟨y0, y1, y2, yf0, yf1, yf2⟩ := S4.out.2.1.facts
  have hsz : w.heap.size + 1 < u3.heap.size := by omega
  go_wp2
  refine bodyPost_ret (gap_res _ (w.heap.size + 1) nm (.slice a4 (ws Xm).length c4) em _ _ rfl rfl (S4.out.1.set _ _ _)) rfl ⟨⟨_, rfl, ?_⟩, ?_⟩
  · exact (Fin.st3 S4.out.2.2 (w.heap.size + 1) _ _ _ (by omega) hsz).nt.mono (by omega)
  · exact (Fin.st3 S4.out.2.2 (w.heap.size + 1) _ _ _ (by omega) hsz).bel

set_option maxHeartbeats 4000000 in
theorem gap_po {w : World} (x : Nat) (n : Bool) (a : Option Addr) (l c : Nat) (e : Int) (nd ng nm : Bool) (Xd Xg Xm : Nat) (ed eg em erd erg sv : Int) (ld' : (ws Xd).length ≤ 8192) (lg : (ws Xg).length ≤ 8192) (lm : (ws Xm).length ≤ 8192) (hsv : decide (sv < 0) = false) (herd : erd = 0)
    (HO : Hid (∀ u, Below w.heap.size w u → Calls Tryd.prog 8 #[.float .f64 x] u fun r w' => (∃ v, r = .returned (.tuple #[.agg #[.bool nd, v, .int .i64 ed], .int .i64 erd]) ∧ Nt u.heap.size w' v Xd) ∧ Below u.heap.size u w'))
    (HS : Hid (∀ (u : World) (p : Option Addr) (s : Nat), Below w.heap.size w u → Arg u p (ws Xd).length s (ws Xd) → Calls Tryd.prog 19 #[.agg #[.bool nd, .slice p (ws Xd).length s, .int .i64 ed], .agg #[.bool n, .slice a l c, .int .i64 e]] u fun r w' => (∃ v, r = .returned (.tuple #[.agg #[.bool ng, v, .int .i64 eg], .int .i64 erg]) ∧ Nt u.heap.size w' v Xg) ∧ Below u.heap.size u w'))
    (HG : Hid (∀ (u : World) (p : Option Addr) (s : Nat), Below w.heap.size w u → Arg u p (ws Xg).length s (ws Xg) → Calls Tryd.prog 59 #[.agg #[.bool ng, .slice p (ws Xg).length s, .int .i64 eg]] u fun r w' => r = .returned (.int .i64 sv) ∧ Below u.heap.size u w'))
    (HN : Hid (∀ (u : World) (p : Option Addr) (s : Nat), Below w.heap.size w u → Arg u p (ws Xg).length s (ws Xg) → Calls Tryd.prog 62 #[.agg #[.bool ng, .slice p (ws Xg).length s, .int .i64 eg]] u fun r w' => (∃ v, r = .returned (.agg #[.bool nm, v, .int .i64 em]) ∧ Nt u.heap.size w' v Xm) ∧ Below u.heap.size u w')) :
    Calls Tryd.prog 28 #[.float .f64 x, .agg #[.bool n, .slice a l c, .int .i64 e]] w fun r w' => (∃ v, r = .returned (.tuple #[.agg #[.bool ng, v, .int .i64 eg], .bool (erg == 0)]) ∧ Nt w.heap.size w' v Xg) ∧ Below w.heap.size w w' := by
  subst herd
  obtain ⟨W1, hW1⟩ : ∃ W, W = (w.alloc (.cells #[.bool n, .slice a l c, .int .i64 e] 27)).alloc (.cells #[.bool false, .slice none 0 0, .int .i64 0] 27) := ⟨_, rfl⟩
  have hB : Below w.heap.size w W1 := by rw [hW1]; exact (below_alloc w _).alloc (by simp) _
  have hz : W1.heap.size = w.heap.size + 2 := by rw [hW1]; simp
  have DA : Dk W1 w.heap.size n (.slice a l c) e := by rw [hW1]; exact (Dk.new w n (.slice a l c) e).alloc _
  have DR : Dk W1 (w.heap.size + 1) false (.slice none 0 0) 0 := by
    rw [hW1]
    have := Dk.new (w.alloc (.cells #[.bool n, .slice a l c, .int .i64 e] 27)) false (.slice none 0 0) 0
    simpa using this
  have H1 := hid (HO.out W1 hB)
  have hq : w.heap.size + 1 < W1.heap.size := by omega
  have S0 := (Aside.intro (And.intro hB (And.intro DA DR)))
  clear hB hz DA DR HO
  go_enter Tryd.func28, Tryd.ntmps28
  go_wp2_with fail
  rw [← hW1]
  clear hW1
  refine (Calls.mono H1.out) ?_
  rintro r u1 ⟨⟨v, rfl, hN⟩, hb⟩
  obtain ⟨a1, c1, rfl, _⟩ := hN.arg (by omega)
  obtain ⟨hB, DA, DR⟩ := S0.out
  have hs1 := hb.size
  obtain ⟨U1, hU1⟩ : ∃ U, U = u1.alloc (.cells #[.bool nd, .slice a1 (ws Xd).length c1, .int .i64 ed] 27) := ⟨_, rfl⟩
  have hA : Below u1.heap.size u1 U1 := by rw [hU1]; exact below_alloc _ _
  have hs2 : u1.heap.size < U1.heap.size := by rw [hU1]; simp
  have DX : Dk U1 u1.heap.size nd (.slice a1 (ws Xd).length c1) ed := by rw [hU1]; exact Dk.new _ _ _ _
  have BU : Below w.heap.size w U1 := (hB.trans (hb.mono (by omega))).trans (hA.mono (by omega))
  have EA := (DA.below hb).below hA
  have ER := (DR.below hb).below hA
  have NX := hN.below hA
  have H2 := hid (HS.out U1 a1 c1 BU (NX.arg' (by omega)).2)
  obtain ⟨x0, x1, x2, xf0, xf1, xf2⟩ := EA.facts
  obtain ⟨y0, y1, y2, yf0, yf1, yf2⟩ := DX.facts
  have S1 := (Aside.intro (And.intro BU ER))
  clear hN hb hB DA DR hA DX BU EA ER NX H1 S0 HS
  go_upto_region 2 with fail
  rw [← hU1]
  clear hU1
  go_wp2_with fail
  clear x0 x1 x2 xf0 xf1 xf2 y0 y1 y2 yf0 yf1 yf2
  refine (Calls.mono H2.out) ?_
  rintro r u2 ⟨⟨v, rfl, hN⟩, hb⟩
  obtain ⟨a2, c2, rfl, _⟩ := hN.arg (by omega)
  obtain ⟨BU, ER⟩ := S1.out
  have hs3 := hb.size
  obtain ⟨U2, hU2⟩ : ∃ U, U = u2.alloc (.cells #[.bool ng, .slice a2 (ws Xg).length c2, .int .i64 eg] 27) := ⟨_, rfl⟩
  have hA : Below u2.heap.size u2 U2 := by rw [hU2]; exact below_alloc _ _
  have hs4 : u2.heap.size < U2.heap.size := by rw [hU2]; simp
  have DG : Dk U2 u2.heap.size ng (.slice a2 (ws Xg).length c2) eg := by rw [hU2]; exact Dk.new _ _ _ _
  have BV : Below w.heap.size w U2 := (BU.trans (hb.mono (by omega))).trans (hA.mono (by omega))
  have FR := (ER.below hb).below hA
  have NG := (hN.mono (lo' := W1.heap.size) (by omega)).below hA
  have H3 := hid (HG.out U2 a2 c2 BV (NG.arg' (by omega)).2)
  obtain ⟨y0, y1, y2, yf0, yf1, yf2⟩ := DG.facts
  have S2 := (Aside.intro (And.intro BV (And.intro FR (And.intro DG NG))))
  clear hN hb BU ER hA DG BV FR NG H2 S1 HG
  go_upto_region 3 with fail
  rw [← hU2]
  clear hU2
  go_wp2_with fail
  clear y0 y1 y2 yf0 yf1 yf2
  refine (Calls.mono H3.out) ?_
  rintro r u3 ⟨rfl, hb⟩
  obtain ⟨BV, FR, DG, NG⟩ := S2.out
  have hs5 := hb.size
  have GR := FR.below hb
  have GG := DG.below hb
  have MG := NG.below hb
  have BW : Below w.heap.size w u3 := BV.trans (hb.mono (by omega))
  obtain ⟨r0, r1, r2, rf0, rf1, rf2⟩ := GR.facts
  obtain ⟨y0, y1, y2, yf0, yf1, yf2⟩ := GG.facts
  have FV : Fin w.heap.size (w.heap.size + 2) w u3 (.slice a2 (ws Xg).length c2) Xg := ⟨MG.mono (by omega), BW, by omega⟩
  have S4 := (Aside.intro (And.intro GR (And.intro GG FV)))
  clear BV FR DG NG hb GR GG MG BW H3 S2 HN FV
  go_wp2
  refine bodyPost_ret (gap_res _ (w.heap.size + 1) ng (.slice a2 (ws Xg).length c2) eg _ _ rfl rfl (S4.out.1.set _ _ _)) rfl ⟨⟨_, rfl, ?_⟩, ?_⟩
  · exact (Fin.st3 S4.out.2.2 (w.heap.size + 1) _ _ _ (by omega) (by omega)).nt.mono (by omega)
  · exact (Fin.st3 S4.out.2.2 (w.heap.size + 1) _ _ _ (by omega) (by omega)).bel

set_option maxHeartbeats 4000000 in
theorem gap_px {w : World} (x : Nat) (n : Bool) (a : Option Addr) (l c : Nat) (e : Int) (nd ng nm : Bool) (Xd Xg Xm : Nat) (ed eg em erd erg sv : Int) (ld' : (ws Xd).length ≤ 8192) (lg : (ws Xg).length ≤ 8192) (lm : (ws Xm).length ≤ 8192) (hsv : decide (sv < 0) = false) (herd : (erd == 0) = false)
    (HO : Hid (∀ u, Below w.heap.size w u → Calls Tryd.prog 8 #[.float .f64 x] u fun r w' => (∃ v, r = .returned (.tuple #[.agg #[.bool nd, v, .int .i64 ed], .int .i64 erd]) ∧ Nt u.heap.size w' v Xd) ∧ Below u.heap.size u w'))
    (HS : Hid (∀ (u : World) (p : Option Addr) (s : Nat), Below w.heap.size w u → Arg u p (ws Xd).length s (ws Xd) → Calls Tryd.prog 19 #[.agg #[.bool nd, .slice p (ws Xd).length s, .int .i64 ed], .agg #[.bool n, .slice a l c, .int .i64 e]] u fun r w' => (∃ v, r = .returned (.tuple #[.agg #[.bool ng, v, .int .i64 eg], .int .i64 erg]) ∧ Nt u.heap.size w' v Xg) ∧ Below u.heap.size u w'))
    (HG : Hid (∀ (u : World) (p : Option Addr) (s : Nat), Below w.heap.size w u → Arg u p (ws Xg).length s (ws Xg) → Calls Tryd.prog 59 #[.agg #[.bool ng, .slice p (ws Xg).length s, .int .i64 eg]] u fun r w' => r = .returned (.int .i64 sv) ∧ Below u.heap.size u w'))
    (HN : Hid (∀ (u : World) (p : Option Addr) (s : Nat), Below w.heap.size w u → Arg u p (ws Xg).length s (ws Xg) → Calls Tryd.prog 62 #[.agg #[.bool ng, .slice p (ws Xg).length s, .int .i64 eg]] u fun r w' => (∃ v, r = .returned (.agg #[.bool nm, v, .int .i64 em]) ∧ Nt u.heap.size w' v Xm) ∧ Below u.heap.size u w')) :
    Calls Tryd.prog 28 #[.float .f64 x, .agg #[.bool n, .slice a l c, .int .i64 e]] w fun r w' => (∃ v, r = .returned (.tuple #[.agg #[.bool ng, v, .int .i64 eg], .bool false]) ∧ Nt w.heap.size w' v Xg) ∧ Below w.heap.size w w' := by
  obtain ⟨W1, hW1⟩ : ∃ W, W = (w.alloc (.cells #[.bool n, .slice a l c, .int .i64 e] 27)).alloc (.cells #[.bool false, .slice none 0 0, .int .i64 0] 27) := ⟨_, rfl⟩
  have hB : Below w.heap.size w W1 := by rw [hW1]; exact (below_alloc w _).alloc (by simp) _
  have hz : W1.heap.size = w.heap.size + 2 := by rw [hW1]; simp
  have DA : Dk W1 w.heap.size n (.slice a l c) e := by rw [hW1]; exact (Dk.new w n (.slice a l c) e).alloc _
  have DR : Dk W1 (w.heap.size + 1) false (.slice none 0 0) 0 := by
    rw [hW1]
    have := Dk.new (w.alloc (.cells #[.bool n, .slice a l c, .int .i64 e] 27)) false (.slice none 0 0) 0
    simpa using this
  have H1 := hid (HO.out W1 hB)
  have hq : w.heap.size + 1 < W1.heap.size := by omega
  have S0 := (Aside.intro (And.intro hB (And.intro DA DR)))
  clear hB hz DA DR HO
  go_enter Tryd.func28, Tryd.ntmps28
  go_wp2_with fail
  rw [← hW1]
  clear hW1
  refine (Calls.mono H1.out) ?_
  rintro r u1 ⟨⟨v, rfl, hN⟩, hb⟩
  obtain ⟨a1, c1, rfl, _⟩ := hN.arg (by omega)
  obtain ⟨hB, DA, DR⟩ := S0.out
  have hs1 := hb.size
  obtain ⟨U1, hU1⟩ : ∃ U, U = u1.alloc (.cells #[.bool nd, .slice a1 (ws Xd).length c1, .int .i64 ed] 27) := ⟨_, rfl⟩
  have hA : Below u1.heap.size u1 U1 := by rw [hU1]; exact below_alloc _ _
  have hs2 : u1.heap.size < U1.heap.size := by rw [hU1]; simp
  have DX : Dk U1 u1.heap.size nd (.slice a1 (ws Xd).length c1) ed := by rw [hU1]; exact Dk.new _ _ _ _
  have BU : Below w.heap.size w U1 := (hB.trans (hb.mono (by omega))).trans (hA.mono (by omega))
  have EA := (DA.below hb).below hA
  have ER := (DR.below hb).below hA
  have NX := hN.below hA
  have H2 := hid (HS.out U1 a1 c1 BU (NX.arg' (by omega)).2)
  obtain ⟨x0, x1, x2, xf0, xf1, xf2⟩ := EA.facts
  obtain ⟨y0, y1, y2, yf0, yf1, yf2⟩ := DX.facts
  have S1 := (Aside.intro (And.intro BU ER))
  clear hN hb hB DA DR hA DX BU EA ER NX H1 S0 HS
  go_upto_region 2 with fail
  rw [← hU1]
  clear hU1
  go_wp2_with fail
  clear x0 x1 x2 xf0 xf1 xf2 y0 y1 y2 yf0 yf1 yf2
  refine (Calls.mono H2.out) ?_
  rintro r u2 ⟨⟨v, rfl, hN⟩, hb⟩
  obtain ⟨a2, c2, rfl, _⟩ := hN.arg (by omega)
  obtain ⟨BU, ER⟩ := S1.out
  have hs3 := hb.size
  obtain ⟨U2, hU2⟩ : ∃ U, U = u2.alloc (.cells #[.bool ng, .slice a2 (ws Xg).length c2, .int .i64 eg] 27) := ⟨_, rfl⟩
  have hA : Below u2.heap.size u2 U2 := by rw [hU2]; exact below_alloc _ _
  have hs4 : u2.heap.size < U2.heap.size := by rw [hU2]; simp
  have DG : Dk U2 u2.heap.size ng (.slice a2 (ws Xg).length c2) eg := by rw [hU2]; exact Dk.new _ _ _ _
  have BV : Below w.heap.size w U2 := (BU.trans (hb.mono (by omega))).trans (hA.mono (by omega))
  have FR := (ER.below hb).below hA
  have NG := (hN.mono (lo' := W1.heap.size) (by omega)).below hA
  have H3 := hid (HG.out U2 a2 c2 BV (NG.arg' (by omega)).2)
  obtain ⟨y0, y1, y2, yf0, yf1, yf2⟩ := DG.facts
  have S2 := (Aside.intro (And.intro BV (And.intro FR (And.intro DG NG))))
  clear hN hb BU ER hA DG BV FR NG H2 S1 HG
  go_upto_region 3 with fail
  rw [← hU2]
  clear hU2
  go_wp2_with fail
  clear y0 y1 y2 yf0 yf1 yf2
  refine (Calls.mono H3.out) ?_
  rintro r u3 ⟨rfl, hb⟩
  obtain ⟨BV, FR, DG, NG⟩ := S2.out
  have hs5 := hb.size
  have GR := FR.below hb
  have GG := DG.below hb
  have MG := NG.below hb
  have BW : Below w.heap.size w u3 := BV.trans (hb.mono (by omega))
  obtain ⟨r0, r1, r2, rf0, rf1, rf2⟩ := GR.facts
  obtain ⟨y0, y1, y2, yf0, yf1, yf2⟩ := GG.facts
  have FV : Fin w.heap.size (w.heap.size + 2) w u3 (.slice a2 (ws Xg).length c2) Xg := ⟨MG.mono (by omega), BW, by omega⟩
  have S4 := (Aside.intro (And.intro GR (And.intro GG FV)))
  clear BV FR DG NG hb GR GG MG BW H3 S2 HN FV
  go_wp2
  refine bodyPost_ret (gap_res _ (w.heap.size + 1) ng (.slice a2 (ws Xg).length c2) eg _ _ rfl rfl (S4.out.1.set _ _ _)) rfl ⟨⟨_, rfl, ?_⟩, ?_⟩
  · exact (Fin.st3 S4.out.2.2 (w.heap.size + 1) _ _ _ (by omega) (by omega)).nt.mono (by omega)
  · exact (Fin.st3 S4.out.2.2 (w.heap.size + 1) _ _ _ (by omega) (by omega)).bel

end Go.Proofs.YtfaaidnhmddibaaDoor
