/- The law's fine: add, mul. What DyadRing keeps from call to call. -/
import Derived.Test.YtonhahbmdekkdaaDoorD36
import Derived.Test.YtonhahbmdekkdaaDoorD34
import Derived.Deep.Cut
namespace Go.Proofs.YtonhahbmdekkdaaDoor
open Go.RowKit
set_option linter.unusedVariables false
set_option maxRecDepth 20000
set_option linter.unusedSimpArgs false

/-- The law's own mark, in a block. -/
def Fk (w : World) (g : Nat) (b : Bool) : Prop := w.heap[g]? = some (.cells #[.bool b] 58 (0, 0))
theorem Fk.lt {w : World} {g : Nat} {b : Bool} (h : Fk w g b) : g < w.heap.size := (Array.getElem?_eq_some_iff.1 h).1
theorem Fk.below {w w' : World} {g : Nat} {b : Bool} (h : Fk w g b) (hb : Below w.heap.size w w') : Fk w' g b := by
  unfold Fk; rw [hb.block g h.lt]; exact h
theorem Fk.facts {w : World} {g : Nat} {b : Bool} (h : Fk w g b) : w.cell? ⟨g, 0, none⟩ = some (.bool b) ∧ w.frozen? ⟨g, 0, none⟩ = false := by
  unfold Fk at h
  simp [World.cell?, World.frozen?, h]
theorem Fk.set {w : World} {g : Nat} {b : Bool} (h : Fk w g b) (q : Bool) : Fk (w.setCell ⟨g, 0, none⟩ (.bool q)) g q := by
  unfold Fk at h ⊢
  simp [World.setCell, Array.getElem?_modify, h]
theorem Fk.but {w w' : World} {g k : Nat} {b : Bool} (h : Fk w k b) (hb : But g w w') (hk : k ≠ g) : Fk w' k b := by
  unfold Fk; rw [hb.block k h.lt hk]; exact h
theorem Fk.st3 {w : World} {g : Nat} {b : Bool} (h : Fk w g b) (k : Nat) (hk : g ≠ k) (x y z : Value) : Fk (st3 w k x y z) g b := h.but (set3_but k w x y z) hk
theorem But.far {g : Nat} {a w : World} (h : But g a w) (k i : Nat) (u : Value) (hk : a.heap.size ≤ k) : But g a (w.setCell ⟨k, i, none⟩ u) :=
  ⟨h.os, h.tape, h.output, by have := h.size; simpa [World.setCell] using this, fun j hj hg => by
    have h1 := h.block j hj hg
    rw [← h1]
    have hkj : k ≠ j := by omega
    simp [World.setCell, Array.getElem?_modify, hkj]⟩
theorem But.farst3 {g : Nat} {a w : World} (h : But g a w) (k : Nat) (x y z : Value) (hk : a.heap.size ≤ k) : But g a (st3 w k x y z) := ((h.far k 0 x hk).far k 1 y hk).far k 2 z hk

theorem fadd_res (W : World) (g : Nat) (n : Bool) (v : Value) (e : Int) (tmps : Array Value) (ht : tmps[6]?.getD undef = .pointer (some ⟨g, 0, none⟩)) (D : Dk W g n v e) :
    (results Tryd.f41 tmps).run Tryd.prog W = .ok (.agg #[.bool n, v, .int .i64 e]) W := by
  obtain ⟨x0, x1, x2, xf0, xf1, xf2⟩ := D.facts
  simp [results, Tryd.results41, ht, go_sem, x0, x1, x2]

set_option maxHeartbeats 4000000 in
theorem fadd_t {w : World} {a b : Option Addr} {l c k d : Nat} (n m : Bool) (e f : Int) (gF : Nat) (HFk : Fk w gF true) (dn : Bool) (V : Nat) (de er : Int) (lV : (ws V).length ≤ 8192) 
    (HA : Hid (∀ u, Below w.heap.size w u → Calls Tryd.prog 21 #[.agg #[.bool n, .slice a l c, .int .i64 e], .agg #[.bool m, .slice b k d, .int .i64 f]] u fun r w' => (∃ v, r = .returned (.tuple #[.agg #[.bool dn, v, .int .i64 de], .int .i64 er]) ∧ Nt u.heap.size w' v V) ∧ Below u.heap.size u w')) :
    Calls Tryd.prog 41 #[.pointer (some ⟨gF, 0, none⟩), .agg #[.bool n, .slice a l c, .int .i64 e], .agg #[.bool m, .slice b k d, .int .i64 f]] w fun r w' => (∃ v, r = .returned (.agg #[.bool dn, v, .int .i64 de]) ∧ Nt w.heap.size w' v V) ∧ But gF w w' ∧ Fk w' gF true := by
  obtain ⟨W1, hW1⟩ : ∃ W, W = ((w.alloc (.cells #[.bool n, .slice a l c, .int .i64 e] 38)).alloc (.cells #[.bool m, .slice b k d, .int .i64 f] 38)).alloc (.cells #[.bool false, .slice none 0 0, .int .i64 0] 38) := ⟨_, rfl⟩
  obtain ⟨hB, hz1, DA, DB, DR⟩ := add_begin w n m (.slice a l c) (.slice b k d) e f W1 hW1
  have H1 := hid (HA.out W1 hB)
  have hgl := HFk.lt
  have SB := (Aside.intro (And.intro hB (And.intro hz1 (And.intro DA (And.intro DB (And.intro DR (HFk.below hB)))))))
  obtain ⟨x0, x1, x2, xf0, xf1, xf2⟩ := DA.facts
  obtain ⟨y0, y1, y2, yf0, yf1, yf2⟩ := DB.facts
  clear hB hz1 DA DB DR HFk HA
  go_enter Tryd.func41, Tryd.ntmps41
  go_upto_region 1 with fail
  rw [← hW1]
  clear hW1
  go_wp2_with fail
  clear x0 x1 x2 xf0 xf1 xf2 y0 y1 y2 yf0 yf1 yf2
  refine (Calls.mono H1.out) ?_
  rintro r u1 ⟨⟨v, rfl, hN⟩, hb⟩
  obtain ⟨a1, c1, rfl, _⟩ := hN.arg (by omega)
  obtain ⟨hB, hz1, DA, DB, DR, FF⟩ := SB.out
  obtain ⟨U1, hU1⟩ : ∃ U, U = u1.alloc (.cells #[.bool dn, .slice a1 (ws V).length c1, .int .i64 de] 38) := ⟨_, rfl⟩
  have hA : Below u1.heap.size u1 U1 := by rw [hU1]; exact below_alloc _ _
  have hs1 : w.heap.size + 3 ≤ u1.heap.size := by have := hb.size; omega
  have hs2 : u1.heap.size < U1.heap.size := by rw [hU1]; simp
  have FR := (DR.below hb).below hA
  have DX : Dk U1 u1.heap.size dn (.slice a1 (ws V).length c1) de := by rw [hU1]; exact Dk.new _ _ _ _
  have NX : Nt (w.heap.size + 3) U1 (.slice a1 (ws V).length c1) V := (hN.mono (by omega)).below hA
  have BU : Below w.heap.size w U1 := (hB.trans (hb.mono (by omega))).trans (hA.mono (by omega))
  have F1 := (FF.below hb).below hA
  have S1 := (Aside.intro (And.intro BU (And.intro FR (And.intro DX (And.intro NX F1)))))
  obtain ⟨f0, ff0⟩ := F1.facts
  clear hN hb H1 hB hz1 hA DA DB DR FF FR DX NX BU F1 SB
  go_upto_region 2 with fail
  rw [← hU1]
  clear hU1
  obtain ⟨U2, hU2⟩ : ∃ U, U = U1.setCell ⟨gF, 0, none⟩ (.bool true) := ⟨_, rfl⟩
  obtain ⟨BU, FR, DX, NX, F1⟩ := S1.out
  have hbf : But gF U1 U2 := by rw [hU2]; exact But.setC U1 0 _
  have hsz : U2.heap.size = U1.heap.size := by rw [hU2]; simp [World.setCell]
  have BB := ((But.refl gF w).of_below BU).trans hbf
  have FQ : Fk U2 gF true := by rw [hU2]; exact F1.set _
  have S2 := (Aside.intro (And.intro BB (And.intro (FR.but hbf (by omega)) (And.intro (DX.but hbf (by omega)) (And.intro (NX.but hbf (by omega)) FQ)))))
  clear BU FR DX NX F1 hbf hsz S1 BB FQ
  go_upto_region 3 with fail
  rw [← hU2]
  clear hU2 f0 ff0
  obtain ⟨r0, r1, r2, rf0, rf1, rf2⟩ := S2.out.2.1.facts
  obtain ⟨d0, d1, d2, df0, df1, df2⟩ := S2.out.2.2.1.facts
  go_wp2
  refine bodyPost_ret (fadd_res _ (w.heap.size + 1 + 1) dn (.slice a1 (ws V).length c1) de _ rfl (S2.out.2.1.set _ _ _)) rfl ⟨⟨_, rfl, ?_⟩, ?_, ?_⟩
  · exact (((S2.out.2.2.2.1.setC _ 0 _ (by omega)).setC _ 1 _ (by omega)).setC _ 2 _ (by omega)).mono (by omega)
  · exact S2.out.1.farst3 _ _ _ _ (by omega)
  · exact S2.out.2.2.2.2.st3 _ (by omega) _ _ _

set_option maxHeartbeats 4000000 in
theorem fadd_z {w : World} {a b : Option Addr} {l c k d : Nat} (n m : Bool) (e f : Int) (gF : Nat) (HFk : Fk w gF false) (dn : Bool) (V : Nat) (de er : Int) (lV : (ws V).length ≤ 8192) 
    (HA : Hid (∀ u, Below w.heap.size w u → Calls Tryd.prog 21 #[.agg #[.bool n, .slice a l c, .int .i64 e], .agg #[.bool m, .slice b k d, .int .i64 f]] u fun r w' => (∃ v, r = .returned (.tuple #[.agg #[.bool dn, v, .int .i64 de], .int .i64 er]) ∧ Nt u.heap.size w' v V) ∧ Below u.heap.size u w')) :
    Calls Tryd.prog 41 #[.pointer (some ⟨gF, 0, none⟩), .agg #[.bool n, .slice a l c, .int .i64 e], .agg #[.bool m, .slice b k d, .int .i64 f]] w fun r w' => (∃ v, r = .returned (.agg #[.bool dn, v, .int .i64 de]) ∧ Nt w.heap.size w' v V) ∧ But gF w w' ∧ Fk w' gF (er != 0) := by
  obtain ⟨W1, hW1⟩ : ∃ W, W = ((w.alloc (.cells #[.bool n, .slice a l c, .int .i64 e] 38)).alloc (.cells #[.bool m, .slice b k d, .int .i64 f] 38)).alloc (.cells #[.bool false, .slice none 0 0, .int .i64 0] 38) := ⟨_, rfl⟩
  obtain ⟨hB, hz1, DA, DB, DR⟩ := add_begin w n m (.slice a l c) (.slice b k d) e f W1 hW1
  have H1 := hid (HA.out W1 hB)
  have hgl := HFk.lt
  have SB := (Aside.intro (And.intro hB (And.intro hz1 (And.intro DA (And.intro DB (And.intro DR (HFk.below hB)))))))
  obtain ⟨x0, x1, x2, xf0, xf1, xf2⟩ := DA.facts
  obtain ⟨y0, y1, y2, yf0, yf1, yf2⟩ := DB.facts
  clear hB hz1 DA DB DR HFk HA
  go_enter Tryd.func41, Tryd.ntmps41
  go_upto_region 1 with fail
  rw [← hW1]
  clear hW1
  go_wp2_with fail
  clear x0 x1 x2 xf0 xf1 xf2 y0 y1 y2 yf0 yf1 yf2
  refine (Calls.mono H1.out) ?_
  rintro r u1 ⟨⟨v, rfl, hN⟩, hb⟩
  obtain ⟨a1, c1, rfl, _⟩ := hN.arg (by omega)
  obtain ⟨hB, hz1, DA, DB, DR, FF⟩ := SB.out
  obtain ⟨U1, hU1⟩ : ∃ U, U = u1.alloc (.cells #[.bool dn, .slice a1 (ws V).length c1, .int .i64 de] 38) := ⟨_, rfl⟩
  have hA : Below u1.heap.size u1 U1 := by rw [hU1]; exact below_alloc _ _
  have hs1 : w.heap.size + 3 ≤ u1.heap.size := by have := hb.size; omega
  have hs2 : u1.heap.size < U1.heap.size := by rw [hU1]; simp
  have FR := (DR.below hb).below hA
  have DX : Dk U1 u1.heap.size dn (.slice a1 (ws V).length c1) de := by rw [hU1]; exact Dk.new _ _ _ _
  have NX : Nt (w.heap.size + 3) U1 (.slice a1 (ws V).length c1) V := (hN.mono (by omega)).below hA
  have BU : Below w.heap.size w U1 := (hB.trans (hb.mono (by omega))).trans (hA.mono (by omega))
  have F1 := (FF.below hb).below hA
  have S1 := (Aside.intro (And.intro BU (And.intro FR (And.intro DX (And.intro NX F1)))))
  obtain ⟨f0, ff0⟩ := F1.facts
  clear hN hb H1 hB hz1 hA DA DB DR FF FR DX NX BU F1 SB
  go_upto_region 2 with fail
  rw [← hU1]
  clear hU1
  obtain ⟨U2, hU2⟩ : ∃ U, U = U1.setCell ⟨gF, 0, none⟩ (.bool (er != 0)) := ⟨_, rfl⟩
  obtain ⟨BU, FR, DX, NX, F1⟩ := S1.out
  have hbf : But gF U1 U2 := by rw [hU2]; exact But.setC U1 0 _
  have hsz : U2.heap.size = U1.heap.size := by rw [hU2]; simp [World.setCell]
  have BB := ((But.refl gF w).of_below BU).trans hbf
  have FQ : Fk U2 gF (er != 0) := by rw [hU2]; exact F1.set _
  have S2 := (Aside.intro (And.intro BB (And.intro (FR.but hbf (by omega)) (And.intro (DX.but hbf (by omega)) (And.intro (NX.but hbf (by omega)) FQ)))))
  clear BU FR DX NX F1 hbf hsz S1 BB FQ
  go_upto_region 3 with fail
  rw [← hU2]
  clear hU2 f0 ff0
  obtain ⟨r0, r1, r2, rf0, rf1, rf2⟩ := S2.out.2.1.facts
  obtain ⟨d0, d1, d2, df0, df1, df2⟩ := S2.out.2.2.1.facts
  go_wp2
  refine bodyPost_ret (fadd_res _ (w.heap.size + 1 + 1) dn (.slice a1 (ws V).length c1) de _ rfl (S2.out.2.1.set _ _ _)) rfl ⟨⟨_, rfl, ?_⟩, ?_, ?_⟩
  · exact (((S2.out.2.2.2.1.setC _ 0 _ (by omega)).setC _ 1 _ (by omega)).setC _ 2 _ (by omega)).mono (by omega)
  · exact S2.out.1.farst3 _ _ _ _ (by omega)
  · exact S2.out.2.2.2.2.st3 _ (by omega) _ _ _

theorem fadd_all {w : World} {a b : Option Addr} {l c k d : Nat} (n m : Bool) (e f : Int) (gF : Nat) (bv : Bool) (HFk : Fk w gF bv) (dn : Bool) (V : Nat) (de er : Int) (lV : (ws V).length ≤ 8192)
    (HA : Hid (∀ u, Below w.heap.size w u → Calls Tryd.prog 21 #[.agg #[.bool n, .slice a l c, .int .i64 e], .agg #[.bool m, .slice b k d, .int .i64 f]] u fun r w' => (∃ v, r = .returned (.tuple #[.agg #[.bool dn, v, .int .i64 de], .int .i64 er]) ∧ Nt u.heap.size w' v V) ∧ Below u.heap.size u w')) :
    Calls Tryd.prog 41 #[.pointer (some ⟨gF, 0, none⟩), .agg #[.bool n, .slice a l c, .int .i64 e], .agg #[.bool m, .slice b k d, .int .i64 f]] w fun r w' => (∃ v, r = .returned (.agg #[.bool dn, v, .int .i64 de]) ∧ Nt w.heap.size w' v V) ∧ But gF w w' ∧ Fk w' gF (bv || (er != 0)) := by
  cases bv
  · exact fadd_z n m e f gF HFk dn V de er lV HA
  · exact fadd_t n m e f gF HFk dn V de er lV HA

theorem fmul_res (W : World) (g : Nat) (n : Bool) (v : Value) (e : Int) (tmps : Array Value) (ht : tmps[6]?.getD undef = .pointer (some ⟨g, 0, none⟩)) (D : Dk W g n v e) :
    (results Tryd.f42 tmps).run Tryd.prog W = .ok (.agg #[.bool n, v, .int .i64 e]) W := by
  obtain ⟨x0, x1, x2, xf0, xf1, xf2⟩ := D.facts
  simp [results, Tryd.results42, ht, go_sem, x0, x1, x2]

set_option maxHeartbeats 4000000 in
theorem fmul_t {w : World} {a b : Option Addr} {l c k d : Nat} (n m : Bool) (e f : Int) (gF : Nat) (HFk : Fk w gF true) (dn : Bool) (V : Nat) (de er : Int) (lV : (ws V).length ≤ 8192) 
    (HA : Hid (∀ u, Below w.heap.size w u → Calls Tryd.prog 27 #[.agg #[.bool n, .slice a l c, .int .i64 e], .agg #[.bool m, .slice b k d, .int .i64 f]] u fun r w' => (∃ v, r = .returned (.tuple #[.agg #[.bool dn, v, .int .i64 de], .int .i64 er]) ∧ Nt u.heap.size w' v V) ∧ Below u.heap.size u w')) :
    Calls Tryd.prog 42 #[.pointer (some ⟨gF, 0, none⟩), .agg #[.bool n, .slice a l c, .int .i64 e], .agg #[.bool m, .slice b k d, .int .i64 f]] w fun r w' => (∃ v, r = .returned (.agg #[.bool dn, v, .int .i64 de]) ∧ Nt w.heap.size w' v V) ∧ But gF w w' ∧ Fk w' gF true := by
  obtain ⟨W1, hW1⟩ : ∃ W, W = ((w.alloc (.cells #[.bool n, .slice a l c, .int .i64 e] 38)).alloc (.cells #[.bool m, .slice b k d, .int .i64 f] 38)).alloc (.cells #[.bool false, .slice none 0 0, .int .i64 0] 38) := ⟨_, rfl⟩
  obtain ⟨hB, hz1, DA, DB, DR⟩ := add_begin w n m (.slice a l c) (.slice b k d) e f W1 hW1
  have H1 := hid (HA.out W1 hB)
  have hgl := HFk.lt
  have SB := (Aside.intro (And.intro hB (And.intro hz1 (And.intro DA (And.intro DB (And.intro DR (HFk.below hB)))))))
  obtain ⟨x0, x1, x2, xf0, xf1, xf2⟩ := DA.facts
  obtain ⟨y0, y1, y2, yf0, yf1, yf2⟩ := DB.facts
  clear hB hz1 DA DB DR HFk HA
  go_enter Tryd.func42, Tryd.ntmps42
  go_upto_region 1 with fail
  rw [← hW1]
  clear hW1
  go_wp2_with fail
  clear x0 x1 x2 xf0 xf1 xf2 y0 y1 y2 yf0 yf1 yf2
  refine (Calls.mono H1.out) ?_
  rintro r u1 ⟨⟨v, rfl, hN⟩, hb⟩
  obtain ⟨a1, c1, rfl, _⟩ := hN.arg (by omega)
  obtain ⟨hB, hz1, DA, DB, DR, FF⟩ := SB.out
  obtain ⟨U1, hU1⟩ : ∃ U, U = u1.alloc (.cells #[.bool dn, .slice a1 (ws V).length c1, .int .i64 de] 38) := ⟨_, rfl⟩
  have hA : Below u1.heap.size u1 U1 := by rw [hU1]; exact below_alloc _ _
  have hs1 : w.heap.size + 3 ≤ u1.heap.size := by have := hb.size; omega
  have hs2 : u1.heap.size < U1.heap.size := by rw [hU1]; simp
  have FR := (DR.below hb).below hA
  have DX : Dk U1 u1.heap.size dn (.slice a1 (ws V).length c1) de := by rw [hU1]; exact Dk.new _ _ _ _
  have NX : Nt (w.heap.size + 3) U1 (.slice a1 (ws V).length c1) V := (hN.mono (by omega)).below hA
  have BU : Below w.heap.size w U1 := (hB.trans (hb.mono (by omega))).trans (hA.mono (by omega))
  have F1 := (FF.below hb).below hA
  have S1 := (Aside.intro (And.intro BU (And.intro FR (And.intro DX (And.intro NX F1)))))
  obtain ⟨f0, ff0⟩ := F1.facts
  clear hN hb H1 hB hz1 hA DA DB DR FF FR DX NX BU F1 SB
  go_upto_region 2 with fail
  rw [← hU1]
  clear hU1
  obtain ⟨U2, hU2⟩ : ∃ U, U = U1.setCell ⟨gF, 0, none⟩ (.bool true) := ⟨_, rfl⟩
  obtain ⟨BU, FR, DX, NX, F1⟩ := S1.out
  have hbf : But gF U1 U2 := by rw [hU2]; exact But.setC U1 0 _
  have hsz : U2.heap.size = U1.heap.size := by rw [hU2]; simp [World.setCell]
  have BB := ((But.refl gF w).of_below BU).trans hbf
  have FQ : Fk U2 gF true := by rw [hU2]; exact F1.set _
  have S2 := (Aside.intro (And.intro BB (And.intro (FR.but hbf (by omega)) (And.intro (DX.but hbf (by omega)) (And.intro (NX.but hbf (by omega)) FQ)))))
  clear BU FR DX NX F1 hbf hsz S1 BB FQ
  go_upto_region 3 with fail
  rw [← hU2]
  clear hU2 f0 ff0
  obtain ⟨r0, r1, r2, rf0, rf1, rf2⟩ := S2.out.2.1.facts
  obtain ⟨d0, d1, d2, df0, df1, df2⟩ := S2.out.2.2.1.facts
  go_wp2
  refine bodyPost_ret (fmul_res _ (w.heap.size + 1 + 1) dn (.slice a1 (ws V).length c1) de _ rfl (S2.out.2.1.set _ _ _)) rfl ⟨⟨_, rfl, ?_⟩, ?_, ?_⟩
  · exact (((S2.out.2.2.2.1.setC _ 0 _ (by omega)).setC _ 1 _ (by omega)).setC _ 2 _ (by omega)).mono (by omega)
  · exact S2.out.1.farst3 _ _ _ _ (by omega)
  · exact S2.out.2.2.2.2.st3 _ (by omega) _ _ _

set_option maxHeartbeats 4000000 in
theorem fmul_z {w : World} {a b : Option Addr} {l c k d : Nat} (n m : Bool) (e f : Int) (gF : Nat) (HFk : Fk w gF false) (dn : Bool) (V : Nat) (de er : Int) (lV : (ws V).length ≤ 8192) 
    (HA : Hid (∀ u, Below w.heap.size w u → Calls Tryd.prog 27 #[.agg #[.bool n, .slice a l c, .int .i64 e], .agg #[.bool m, .slice b k d, .int .i64 f]] u fun r w' => (∃ v, r = .returned (.tuple #[.agg #[.bool dn, v, .int .i64 de], .int .i64 er]) ∧ Nt u.heap.size w' v V) ∧ Below u.heap.size u w')) :
    Calls Tryd.prog 42 #[.pointer (some ⟨gF, 0, none⟩), .agg #[.bool n, .slice a l c, .int .i64 e], .agg #[.bool m, .slice b k d, .int .i64 f]] w fun r w' => (∃ v, r = .returned (.agg #[.bool dn, v, .int .i64 de]) ∧ Nt w.heap.size w' v V) ∧ But gF w w' ∧ Fk w' gF (er != 0) := by
  obtain ⟨W1, hW1⟩ : ∃ W, W = ((w.alloc (.cells #[.bool n, .slice a l c, .int .i64 e] 38)).alloc (.cells #[.bool m, .slice b k d, .int .i64 f] 38)).alloc (.cells #[.bool false, .slice none 0 0, .int .i64 0] 38) := ⟨_, rfl⟩
  obtain ⟨hB, hz1, DA, DB, DR⟩ := add_begin w n m (.slice a l c) (.slice b k d) e f W1 hW1
  have H1 := hid (HA.out W1 hB)
  have hgl := HFk.lt
  have SB := (Aside.intro (And.intro hB (And.intro hz1 (And.intro DA (And.intro DB (And.intro DR (HFk.below hB)))))))
  obtain ⟨x0, x1, x2, xf0, xf1, xf2⟩ := DA.facts
  obtain ⟨y0, y1, y2, yf0, yf1, yf2⟩ := DB.facts
  clear hB hz1 DA DB DR HFk HA
  go_enter Tryd.func42, Tryd.ntmps42
  go_upto_region 1 with fail
  rw [← hW1]
  clear hW1
  go_wp2_with fail
  clear x0 x1 x2 xf0 xf1 xf2 y0 y1 y2 yf0 yf1 yf2
  refine (Calls.mono H1.out) ?_
  rintro r u1 ⟨⟨v, rfl, hN⟩, hb⟩
  obtain ⟨a1, c1, rfl, _⟩ := hN.arg (by omega)
  obtain ⟨hB, hz1, DA, DB, DR, FF⟩ := SB.out
  obtain ⟨U1, hU1⟩ : ∃ U, U = u1.alloc (.cells #[.bool dn, .slice a1 (ws V).length c1, .int .i64 de] 38) := ⟨_, rfl⟩
  have hA : Below u1.heap.size u1 U1 := by rw [hU1]; exact below_alloc _ _
  have hs1 : w.heap.size + 3 ≤ u1.heap.size := by have := hb.size; omega
  have hs2 : u1.heap.size < U1.heap.size := by rw [hU1]; simp
  have FR := (DR.below hb).below hA
  have DX : Dk U1 u1.heap.size dn (.slice a1 (ws V).length c1) de := by rw [hU1]; exact Dk.new _ _ _ _
  have NX : Nt (w.heap.size + 3) U1 (.slice a1 (ws V).length c1) V := (hN.mono (by omega)).below hA
  have BU : Below w.heap.size w U1 := (hB.trans (hb.mono (by omega))).trans (hA.mono (by omega))
  have F1 := (FF.below hb).below hA
  have S1 := (Aside.intro (And.intro BU (And.intro FR (And.intro DX (And.intro NX F1)))))
  obtain ⟨f0, ff0⟩ := F1.facts
  clear hN hb H1 hB hz1 hA DA DB DR FF FR DX NX BU F1 SB
  go_upto_region 2 with fail
  rw [← hU1]
  clear hU1
  obtain ⟨U2, hU2⟩ : ∃ U, U = U1.setCell ⟨gF, 0, none⟩ (.bool (er != 0)) := ⟨_, rfl⟩
  obtain ⟨BU, FR, DX, NX, F1⟩ := S1.out
  have hbf : But gF U1 U2 := by rw [hU2]; exact But.setC U1 0 _
  have hsz : U2.heap.size = U1.heap.size := by rw [hU2]; simp [World.setCell]
  have BB := ((But.refl gF w).of_below BU).trans hbf
  have FQ : Fk U2 gF (er != 0) := by rw [hU2]; exact F1.set _
  have S2 := (Aside.intro (And.intro BB (And.intro (FR.but hbf (by omega)) (And.intro (DX.but hbf (by omega)) (And.intro (NX.but hbf (by omega)) FQ)))))
  clear BU FR DX NX F1 hbf hsz S1 BB FQ
  go_upto_region 3 with fail
  rw [← hU2]
  clear hU2 f0 ff0
  obtain ⟨r0, r1, r2, rf0, rf1, rf2⟩ := S2.out.2.1.facts
  obtain ⟨d0, d1, d2, df0, df1, df2⟩ := S2.out.2.2.1.facts
  go_wp2
  refine bodyPost_ret (fmul_res _ (w.heap.size + 1 + 1) dn (.slice a1 (ws V).length c1) de _ rfl (S2.out.2.1.set _ _ _)) rfl ⟨⟨_, rfl, ?_⟩, ?_, ?_⟩
  · exact (((S2.out.2.2.2.1.setC _ 0 _ (by omega)).setC _ 1 _ (by omega)).setC _ 2 _ (by omega)).mono (by omega)
  · exact S2.out.1.farst3 _ _ _ _ (by omega)
  · exact S2.out.2.2.2.2.st3 _ (by omega) _ _ _

theorem fmul_all {w : World} {a b : Option Addr} {l c k d : Nat} (n m : Bool) (e f : Int) (gF : Nat) (bv : Bool) (HFk : Fk w gF bv) (dn : Bool) (V : Nat) (de er : Int) (lV : (ws V).length ≤ 8192)
    (HA : Hid (∀ u, Below w.heap.size w u → Calls Tryd.prog 27 #[.agg #[.bool n, .slice a l c, .int .i64 e], .agg #[.bool m, .slice b k d, .int .i64 f]] u fun r w' => (∃ v, r = .returned (.tuple #[.agg #[.bool dn, v, .int .i64 de], .int .i64 er]) ∧ Nt u.heap.size w' v V) ∧ Below u.heap.size u w')) :
    Calls Tryd.prog 42 #[.pointer (some ⟨gF, 0, none⟩), .agg #[.bool n, .slice a l c, .int .i64 e], .agg #[.bool m, .slice b k d, .int .i64 f]] w fun r w' => (∃ v, r = .returned (.agg #[.bool dn, v, .int .i64 de]) ∧ Nt w.heap.size w' v V) ∧ But gF w w' ∧ Fk w' gF (bv || (er != 0)) := by
  cases bv
  · exact fmul_z n m e f gF HFk dn V de er lV HA
  · exact fmul_t n m e f gF HFk dn V de er lV HA


/-- What DyadRing keeps: Dyads in blocks, their words. -/
structure Stt (w : World) (gF : Nat) (ds : List (Nat × Bool × Value × Int)) (ns : List (Value × Nat)) (U : World) : Prop where
  bel : Below w.heap.size w U
  lo : w.heap.size ≤ gF
  hi : gF < U.heap.size
  dk : ∀ d ∈ ds, Dk U d.1 d.2.1 d.2.2.1 d.2.2.2 ∧ d.1 ≠ gF
  nt : ∀ x ∈ ns, Nt (gF + 1) U x.1 x.2
theorem Stt.but {w U V : World} {gF : Nat} {ds : List (Nat × Bool × Value × Int)} {ns : List (Value × Nat)} (h : Stt w gF ds ns U) (hb : But gF U V) : Stt w gF ds ns V :=
  ⟨But.below h.bel hb h.bel.size h.lo, h.lo, Nat.lt_of_lt_of_le h.hi hb.size, fun d hd => ⟨(h.dk d hd).1.but hb (h.dk d hd).2, (h.dk d hd).2⟩, fun x hx => (h.nt x hx).but hb (by omega)⟩
theorem Stt.below {w U V : World} {gF : Nat} {ds : List (Nat × Bool × Value × Int)} {ns : List (Value × Nat)} (h : Stt w gF ds ns U) (hb : Below U.heap.size U V) : Stt w gF ds ns V := h.but ((But.refl gF U).of_below hb)
theorem Stt.addD {w U : World} {gF : Nat} {ds : List (Nat × Bool × Value × Int)} {ns : List (Value × Nat)} (h : Stt w gF ds ns U) {g : Nat} {n : Bool} {v : Value} {e : Int} (hd : Dk U g n v e) (hg : g ≠ gF) : Stt w gF ((g, n, v, e) :: ds) ns U :=
  ⟨h.bel, h.lo, h.hi, fun d hm => by rcases List.mem_cons.1 hm with rfl | hm; exact ⟨hd, hg⟩; exact h.dk d hm, h.nt⟩
theorem Stt.addN {w U : World} {gF : Nat} {ds : List (Nat × Bool × Value × Int)} {ns : List (Value × Nat)} (h : Stt w gF ds ns U) {v : Value} {X : Nat} (hn : Nt (gF + 1) U v X) : Stt w gF ds ((v, X) :: ns) U :=
  ⟨h.bel, h.lo, h.hi, h.dk, fun x hm => by rcases List.mem_cons.1 hm with rfl | hm; exact hn; exact h.nt x hm⟩
theorem Nt.apart {lo : Nat} {w : World} {v : Value} {X g : Nat} {n : Bool} {u : Value} {e : Int} (h : Nt lo w v X) (d : Dk w g n u e) : v.ownBlock ≠ Option.some g := by
  intro he
  rcases h.2 with ⟨_, h0⟩ | ⟨k, cap, cur, rfl, _, hk, _⟩
  · rcases h.shape with ⟨ao, c2, rfl, _⟩
    simp_all [Value.ownBlock]
  · have : k = g := by simpa [Value.ownBlock] using he
    subst this
    unfold Dk at d
    rw [hk] at d
    injection d with d
    injection d with _ d2
    exact absurd d2 (by decide)
/-- A Dyad is stored into a block that was made for it. -/
theorem Stt.set {w U : World} {gF : Nat} {ds : List (Nat × Bool × Value × Int)} {ns : List (Value × Nat)} (h : Stt w gF ds ns U) {g : Nat} {n : Bool} {v : Value} {e : Int} (hd : Dk U g n v e) (hg : g ≠ gF) (hlo : w.heap.size ≤ g) (hds : ∀ d ∈ ds, d.1 ≠ g) (n' : Bool) (v' : Value) (e' : Int) :
    Stt w gF ((g, n', v', e') :: ds) ns (st3 U g (.bool n') v' (.int .i64 e')) :=
  ⟨But.below h.bel (set3_but g U _ _ _) h.bel.size hlo, h.lo, by rw [st3_size]; exact h.hi, fun d hm => by
    rcases List.mem_cons.1 hm with rfl | hm
    · exact ⟨hd.set _ _ _, hg⟩
    · exact ⟨(h.dk d hm).1.other g (hds d hm) _ _ _, (h.dk d hm).2⟩, fun x hx => (h.nt x hx).butne (set3_but g U _ _ _) ((h.nt x hx).apart hd)⟩
end Go.Proofs.YtonhahbmdekkdaaDoor
