/- DyadProducts: the walk. -/
import Derived.Test.YtonhahbmdekkdaaDoorD34
import Derived.Test.YtonhahbmdekkdaaDoorD35
import Derived.Deep.Cut
namespace Go.Proofs.YtonhahbmdekkdaaDoor
open Go.RowKit
set_option linter.unusedVariables false
set_option maxRecDepth 20000
set_option linter.unusedSimpArgs false

set_option maxHeartbeats 16000000 in
set_option maxRecDepth 100000 in
theorem products_core (nA nB : Bool) (aA aB : Option Addr) (lA cA lB cB : Nat) (xs ys : List Nat) (eA eB : Int) (w : World) (bA : lA ≤ 1048576) (bB : lB ≤ 1048576) (w0 : Arg w aA lA cA xs) (w1 : Arg w aB lB cB ys) (hT : Tab w)
    (n1 n2 : Bool) (X1 X2 : Nat) (e1 e2 er1 er2 : Int) (l1 : (ws X1).length ≤ 8192) (l2 : (ws X2).length ≤ 8192)
    (HXY : Hid (∀ (u : World) (p q : Option Addr) (s t : Nat), Below w.heap.size w u → Arg u p lA s xs → Arg u q lB t ys → Calls Tryd.prog 27 #[.agg #[.bool nA, .slice p lA s, .int .i64 eA], .agg #[.bool nB, .slice q lB t, .int .i64 eB]] u fun r w' => (∃ v, r = .returned (.tuple #[.agg #[.bool n1, v, .int .i64 e1], .int .i64 er1]) ∧ Nt u.heap.size w' v X1) ∧ Below u.heap.size u w'))
    (HYX : Hid (∀ (u : World) (p q : Option Addr) (s t : Nat), Below w.heap.size w u → Arg u p lB s ys → Arg u q lA t xs → Calls Tryd.prog 27 #[.agg #[.bool nB, .slice p lB s, .int .i64 eB], .agg #[.bool nA, .slice q lA t, .int .i64 eA]] u fun r w' => (∃ v, r = .returned (.tuple #[.agg #[.bool n1, v, .int .i64 e1], .int .i64 er1]) ∧ Nt u.heap.size w' v X1) ∧ Below u.heap.size u w'))
    (HXX : Hid (∀ (u : World) (p : Option Addr) (s : Nat), Below w.heap.size w u → Arg u p lA s xs → Calls Tryd.prog 27 #[.agg #[.bool nA, .slice p lA s, .int .i64 eA], .agg #[.bool nA, .slice p lA s, .int .i64 eA]] u fun r w' => (∃ v, r = .returned (.tuple #[.agg #[.bool n2, v, .int .i64 e2], .int .i64 er2]) ∧ Nt u.heap.size w' v X2) ∧ Below u.heap.size u w'))
    (R1 : Hid (∀ u, Below w.heap.size w u → Calls Tryd.prog 28 #[.agg #[.bool nA, .slice aA lA cA, .int .i64 eA], .agg #[.bool nB, .slice aB lB cB, .int .i64 eB]] u fun r w' => (∃ v, r = .returned (.tuple #[.agg #[.bool n1, v, .int .i64 e1], .int .i64 er1]) ∧ Nt u.heap.size w' v X1) ∧ Below u.heap.size u w'))
    (R2 : Hid (∀ u, Below w.heap.size w u → Calls Tryd.prog 28 #[.agg #[.bool nA, .slice aA lA cA, .int .i64 eA], .agg #[.bool nA, .slice aA lA cA, .int .i64 eA]] u fun r w' => (∃ v, r = .returned (.tuple #[.agg #[.bool n2, v, .int .i64 e2], .int .i64 er2]) ∧ Nt u.heap.size w' v X2) ∧ Below u.heap.size u w')) :
    Calls Tryd.prog 5 #[.agg #[.bool nA, .slice aA lA cA, .int .i64 eA], .agg #[.bool nB, .slice aB lB cB, .int .i64 eB]] w fun r w' => r = .returned (.bool true) ∧ Below w.heap.size w w' := by
  obtain ⟨W1, hW1⟩ : ∃ W, W = (w.alloc (.cells #[.bool nA, .slice aA lA cA, .int .i64 eA] 38)).alloc (.cells #[.bool nB, .slice aB lB cB, .int .i64 eB] 38) := ⟨_, rfl⟩
  have hB : Below w.heap.size w W1 := by rw [hW1]; exact (below_alloc w _).alloc (by simp) _
  have hz : W1.heap.size = w.heap.size + 2 := by rw [hW1]; simp
  have DA : Dk W1 w.heap.size nA (.slice aA lA cA) eA := by rw [hW1]; exact (Dk.new w nA (.slice aA lA cA) eA).alloc _
  have DB : Dk W1 (w.heap.size + 1) nB (.slice aB lB cB) eB := by rw [hW1]; have := Dk.new (w.alloc (.cells #[.bool nA, .slice aA lA cA, .int .i64 eA] 38)) nB (.slice aB lB cB) eB; simpa using this
  have AW := hid (awake3_any W1 (hT.belows hB))
  have hq : w.heap.size + 1 < W1.heap.size := by omega
  have SB := (Aside.intro (And.intro hB (And.intro DA DB)))
  have HX := (Aside.intro (And.intro w0 w1))
  clear w0 w1 hT hB hz DA DB
  go_enter Tryd.func5, Tryd.ntmps5
  go_wp2_with fail
  rw [← hW1]
  clear hW1
  refine (Calls.mono AW.out) ?_
  rintro r U0 ⟨rfl, hb⟩
  have hs0 := hb.size
  have L0 : Led w.heap.size w U0 [] := ⟨SB.out.1.trans (hb.mono (by omega)), by omega, Nice.nil _ _⟩
  have S0 := (Aside.intro (And.intro L0 (And.intro (SB.out.2.1.below hb) (SB.out.2.2.below hb))))
  clear hb AW L0 SB
  go_upto_region 4 with fail
  obtain ⟨L, DA, DB⟩ := S0.out
  obtain ⟨kA0, kA1, kA2, kfA0, kfA1, kfA2⟩ := DA.facts
  have H := hid (rLent3_any (HX.out.1.below L.bel) (by omega) nA eA)
  clear L DA DB
  go_wp2_with fail
  clear kA0 kA1 kA2 kfA0 kfA1 kfA2
  refine (Calls.mono H.out) ?_
  rintro r u1 ⟨gX, rfl, hgX, hO, hb⟩
  obtain ⟨L, DA, DB⟩ := S0.out
  have hs1 := hb.size
  have hGX : gX < u1.heap.size := hO.lt
  obtain ⟨U1, hU1⟩ : ∃ U, U = u1.alloc (.cells #[.bool nA, .slice (some ⟨gX, 0, none⟩) lA (lA + 2), .int .i64 eA] 38) := ⟨_, rfl⟩
  have hA : Below u1.heap.size u1 U1 := by rw [hU1]; exact below_alloc _ _
  have hz1 : u1.heap.size < U1.heap.size := by rw [hU1]; simp
  have DN : Dk U1 u1.heap.size nA (.slice (some ⟨gX, 0, none⟩) lA (lA + 2)) eA := by rw [hU1]; exact Dk.new _ _ _ _
  have LN := (L.below hb).below hA
  have EA := (DA.below hb).below hA
  have EB := (DB.below hb).below hA
  have ON := hO.below hA hO.lt
  have S1 := (Aside.intro (And.intro LN (And.intro EA (And.intro EB (And.intro DN ON)))))
  clear hO hb H hA S0 L DA DB LN EA EB DN ON
  go_upto_region 5 with fail
  rw [← hU1]
  clear hU1
  obtain ⟨L, DA, DB, DX, OX⟩ := S1.out
  obtain ⟨kB0, kB1, kB2, kfB0, kfB1, kfB2⟩ := DB.facts
  have H := hid (rLent3_any (HX.out.2.below L.bel) (by omega) nB eB)
  clear L DA DB DX OX
  go_wp2_with fail
  clear kB0 kB1 kB2 kfB0 kfB1 kfB2
  refine (Calls.mono H.out) ?_
  rintro r u2 ⟨gY, rfl, hgY, hO, hb⟩
  obtain ⟨L, DA, DB, DX, OX⟩ := S1.out
  have hs2 := hb.size
  have hGY : gY < u2.heap.size := hO.lt
  obtain ⟨U2, hU2⟩ : ∃ U, U = u2.alloc (.cells #[.bool nB, .slice (some ⟨gY, 0, none⟩) lB (lB + 2), .int .i64 eB] 38) := ⟨_, rfl⟩
  have hA : Below u2.heap.size u2 U2 := by rw [hU2]; exact below_alloc _ _
  have hz2 : u2.heap.size < U2.heap.size := by rw [hU2]; simp
  have DN : Dk U2 u2.heap.size nB (.slice (some ⟨gY, 0, none⟩) lB (lB + 2)) eB := by rw [hU2]; exact Dk.new _ _ _ _
  have LN := (L.below hb).below hA
  have EA := (DA.below hb).below hA
  have EB := (DB.below hb).below hA
  have EX := (DX.below hb).below hA
  have QX := (OX.below hb OX.lt).below hA (OX.below hb OX.lt).lt
  have ON := hO.below hA hO.lt
  have S2 := (Aside.intro (And.intro LN (And.intro EA (And.intro EB (And.intro EX (And.intro DN (And.intro QX ON)))))))
  clear hO hb H hA S1 L DA DB DX OX LN EA EB EX DN QX ON
  go_upto_region 6 with fail
  rw [← hU2]
  clear hU2
  obtain ⟨L, DA, DB, DX, DY, OX, OY⟩ := S2.out
  obtain ⟨kX0, kX1, kX2, kfX0, kfX1, kfX2⟩ := DX.facts
  obtain ⟨kY0, kY1, kY2, kfY0, kfY1, kfY2⟩ := DY.facts
  have H := hid (HXY.out U2 (some ⟨gX, 0, none⟩) (some ⟨gY, 0, none⟩) (lA + 2) (lB + 2) L.bel (lent_arg HX.out.1.len (by omega) HX.out.1.wf OX) (lent_arg HX.out.2.len (by omega) HX.out.2.wf OY))
  clear L DA DB DX DY OX OY
  go_wp2_with fail
  clear kX0 kX1 kX2 kfX0 kfX1 kfX2 kY0 kY1 kY2 kfY0 kfY1 kfY2
  refine (Calls.mono H.out) ?_
  rintro r u3 ⟨⟨v, rfl, hN⟩, hb⟩
  obtain ⟨a3, c3, rfl, _⟩ := hN.arg (by omega)
  obtain ⟨L, DA, DB, DX, DY, OX, OY⟩ := S2.out
  have hs3 := hb.size
  obtain ⟨U3, hU3⟩ : ∃ U, U = u3.alloc (.cells #[.bool n1, .slice a3 (ws X1).length c3, .int .i64 e1] 38) := ⟨_, rfl⟩
  have hA : Below u3.heap.size u3 U3 := by rw [hU3]; exact below_alloc _ _
  have hz3 : u3.heap.size < U3.heap.size := by rw [hU3]; simp
  have DN : Dk U3 u3.heap.size n1 (.slice a3 (ws X1).length c3) e1 := by rw [hU3]; exact Dk.new _ _ _ _
  have B3 := Aside.intro hN.lt
  have NN := (hN.mono (lo' := w.heap.size) L.size).below hA
  have LN := (L.add hb hN l1).below hA
  have EA := (DA.below hb).below hA
  have EB := (DB.below hb).below hA
  have EX := (DX.below hb).below hA
  have EY := (DY.below hb).below hA
  have QX := (OX.below hb OX.lt).below hA (OX.below hb OX.lt).lt
  have QY := (OY.below hb OY.lt).below hA (OY.below hb OY.lt).lt
  have S3 := (Aside.intro (And.intro LN (And.intro EA (And.intro EB (And.intro EX (And.intro EY (And.intro DN (And.intro NN (And.intro QX QY)))))))))
  clear hN hb H hA S2 L DA DB DX DY OX OY LN EA EB EX EY DN NN QX QY
  go_upto_region 7 with fail
  rw [← hU3]
  clear hU3
  obtain ⟨L, DA, DB, DX, DY, D3, N3, OX, OY⟩ := S3.out
  obtain ⟨kY0, kY1, kY2, kfY0, kfY1, kfY2⟩ := DY.facts
  obtain ⟨kX0, kX1, kX2, kfX0, kfX1, kfX2⟩ := DX.facts
  have H := hid (HYX.out U3 (some ⟨gY, 0, none⟩) (some ⟨gX, 0, none⟩) (lB + 2) (lA + 2) L.bel (lent_arg HX.out.2.len (by omega) HX.out.2.wf OY) (lent_arg HX.out.1.len (by omega) HX.out.1.wf OX))
  clear L DA DB DX DY D3 N3 OX OY
  go_wp2_with fail
  clear kY0 kY1 kY2 kfY0 kfY1 kfY2 kX0 kX1 kX2 kfX0 kfX1 kfX2
  refine (Calls.mono H.out) ?_
  rintro r u4 ⟨⟨v, rfl, hN⟩, hb⟩
  obtain ⟨a4, c4, rfl, _⟩ := hN.arg (by omega)
  obtain ⟨L, DA, DB, DX, DY, D3, N3, OX, OY⟩ := S3.out
  have hs4 := hb.size
  obtain ⟨U4, hU4⟩ : ∃ U, U = u4.alloc (.cells #[.bool n1, .slice a4 (ws X1).length c4, .int .i64 e1] 38) := ⟨_, rfl⟩
  have hA : Below u4.heap.size u4 U4 := by rw [hU4]; exact below_alloc _ _
  have hz4 : u4.heap.size < U4.heap.size := by rw [hU4]; simp
  have DN : Dk U4 u4.heap.size n1 (.slice a4 (ws X1).length c4) e1 := by rw [hU4]; exact Dk.new _ _ _ _
  have B4 := Aside.intro hN.lt
  have NN := (hN.mono (lo' := w.heap.size) L.size).below hA
  have LN := (L.add hb hN l1).below hA
  have EA := (DA.below hb).below hA
  have EB := (DB.below hb).below hA
  have EX := (DX.below hb).below hA
  have EY := (DY.below hb).below hA
  have E3 := (D3.below hb).below hA
  have M3 := (N3.below hb).below hA
  have QX := (OX.below hb OX.lt).below hA (OX.below hb OX.lt).lt
  have QY := (OY.below hb OY.lt).below hA (OY.below hb OY.lt).lt
  have S4 := (Aside.intro (And.intro LN (And.intro EA (And.intro EB (And.intro EX (And.intro EY (And.intro E3 (And.intro DN (And.intro M3 (And.intro NN (And.intro QX QY)))))))))))
  clear hN hb H hA S3 L DA DB DX DY D3 N3 OX OY LN EA EB EX EY E3 DN M3 NN QX QY
  go_upto_region 8 with fail
  rw [← hU4]
  clear hU4
  obtain ⟨L, DA, DB, DX, DY, D3, D4, N3, N4, OX, OY⟩ := S4.out
  obtain ⟨kX0, kX1, kX2, kfX0, kfX1, kfX2⟩ := DX.facts
  have H := hid (HXX.out U4 (some ⟨gX, 0, none⟩) (lA + 2) L.bel (lent_arg HX.out.1.len (by omega) HX.out.1.wf OX))
  clear L DA DB DX DY D3 D4 N3 N4 OX OY
  go_wp2_with fail
  clear kX0 kX1 kX2 kfX0 kfX1 kfX2
  refine (Calls.mono H.out) ?_
  rintro r u5 ⟨⟨v, rfl, hN⟩, hb⟩
  obtain ⟨a5, c5, rfl, _⟩ := hN.arg (by omega)
  obtain ⟨L, DA, DB, DX, DY, D3, D4, N3, N4, OX, OY⟩ := S4.out
  have hs5 := hb.size
  obtain ⟨U5, hU5⟩ : ∃ U, U = u5.alloc (.cells #[.bool n2, .slice a5 (ws X2).length c5, .int .i64 e2] 38) := ⟨_, rfl⟩
  have hA : Below u5.heap.size u5 U5 := by rw [hU5]; exact below_alloc _ _
  have hz5 : u5.heap.size < U5.heap.size := by rw [hU5]; simp
  have DN : Dk U5 u5.heap.size n2 (.slice a5 (ws X2).length c5) e2 := by rw [hU5]; exact Dk.new _ _ _ _
  have B5 := Aside.intro hN.lt
  have NN := (hN.mono (lo' := w.heap.size) L.size).below hA
  have LN := (L.add hb hN l2).below hA
  have EA := (DA.below hb).below hA
  have EB := (DB.below hb).below hA
  have EX := (DX.below hb).below hA
  have EY := (DY.below hb).below hA
  have E3 := (D3.below hb).below hA
  have E4 := (D4.below hb).below hA
  have M3 := (N3.below hb).below hA
  have M4 := (N4.below hb).below hA
  have QX := (OX.below hb OX.lt).below hA (OX.below hb OX.lt).lt
  have QY := (OY.below hb OY.lt).below hA (OY.below hb OY.lt).lt
  have S5 := (Aside.intro (And.intro LN (And.intro EA (And.intro EB (And.intro EX (And.intro EY (And.intro E3 (And.intro E4 (And.intro DN (And.intro M3 (And.intro M4 (And.intro NN (And.intro QX QY)))))))))))))
  clear hN hb H hA S4 L DA DB DX DY D3 D4 N3 N4 OX OY LN EA EB EX EY E3 E4 DN M3 M4 NN QX QY
  go_upto_region 9 with fail
  rw [← hU5]
  clear hU5
  obtain ⟨L, DA, DB, DX, DY, D3, D4, D5, N3, N4, N5, OX, OY⟩ := S5.out
  obtain ⟨kX0, kX1, kX2, kfX0, kfX1, kfX2⟩ := DX.facts
  obtain ⟨kA0, kA1, kA2, kfA0, kfA1, kfA2⟩ := DA.facts
  have H := hid (rAsLent3_any (HX.out.1.below L.bel) (by omega) nA eA w.heap.size gX (HX.out.1.rd.below L.bel) L.size (by omega) OX)
  clear L DA DB DX DY D3 D4 D5 N3 N4 N5 OX OY
  go_wp2_with fail
  clear kX0 kX1 kX2 kfX0 kfX1 kfX2 kA0 kA1 kA2 kfA0 kfA1 kfA2
  refine (Calls.mono H.out) ?_
  rintro r U6 ⟨rfl, hb⟩
  obtain ⟨L, DA, DB, DX, DY, D3, D4, D5, N3, N4, N5, OX, OY⟩ := S5.out
  have hs6 := hb.size
  have ne3 : (Value.slice a3 (ws X1).length c3).ownBlock ≠ some gX := fun e => by have := B3.out _ e; omega
  have ne4 : (Value.slice a4 (ws X1).length c4).ownBlock ≠ some gX := fun e => by have := B4.out _ e; omega
  have ne5 : (Value.slice a5 (ws X2).length c5).ownBlock ≠ some gX := fun e => by have := B5.out _ e; omega
  have LN := L.but hb (by omega) (by intro v hv; simp at hv; rcases hv with rfl | rfl | rfl; all_goals assumption)
  have EA := DA.but hb (by omega)
  have EB := DB.but hb (by omega)
  have EX := DX.but hb (by omega)
  have EY := DY.but hb (by omega)
  have E3 := D3.but hb (by omega)
  have E4 := D4.but hb (by omega)
  have E5 := D5.but hb (by omega)
  have M3 := N3.butne hb ne3
  have M4 := N4.butne hb ne4
  have M5 := N5.butne hb ne5
  have QY := OY.but hb (by omega)
  have S6 := (Aside.intro (And.intro LN (And.intro EA (And.intro EB (And.intro EX (And.intro EY (And.intro E3 (And.intro E4 (And.intro E5 (And.intro M3 (And.intro M4 (And.intro M5 QY))))))))))))
  clear hb H S5 L DA DB DX DY D3 D4 D5 N3 N4 N5 OX OY LN EA EB EX EY E3 E4 E5 M3 M4 M5 QY ne3 ne4 ne5
  go_upto_region 10 with fail
  obtain ⟨L, DA, DB, DX, DY, D3, D4, D5, N3, N4, N5, OY⟩ := S6.out
  obtain ⟨kY0, kY1, kY2, kfY0, kfY1, kfY2⟩ := DY.facts
  obtain ⟨kB0, kB1, kB2, kfB0, kfB1, kfB2⟩ := DB.facts
  have H := hid (rAsLent3_any (HX.out.2.below L.bel) (by omega) nB eB w.heap.size gY (HX.out.2.rd.below L.bel) L.size (by omega) OY)
  clear L DA DB DX DY D3 D4 D5 N3 N4 N5 OY
  go_wp2_with fail
  clear kY0 kY1 kY2 kfY0 kfY1 kfY2 kB0 kB1 kB2 kfB0 kfB1 kfB2
  refine (Calls.mono H.out) ?_
  rintro r U7 ⟨rfl, hb⟩
  obtain ⟨L, DA, DB, DX, DY, D3, D4, D5, N3, N4, N5, OY⟩ := S6.out
  have hs7 := hb.size
  have ne3 : (Value.slice a3 (ws X1).length c3).ownBlock ≠ some gY := fun e => by have := B3.out _ e; omega
  have ne4 : (Value.slice a4 (ws X1).length c4).ownBlock ≠ some gY := fun e => by have := B4.out _ e; omega
  have ne5 : (Value.slice a5 (ws X2).length c5).ownBlock ≠ some gY := fun e => by have := B5.out _ e; omega
  have LN := L.but hb (by omega) (by intro v hv; simp at hv; rcases hv with rfl | rfl | rfl; all_goals assumption)
  have EA := DA.but hb (by omega)
  have EB := DB.but hb (by omega)
  have EX := DX.but hb (by omega)
  have EY := DY.but hb (by omega)
  have E3 := D3.but hb (by omega)
  have E4 := D4.but hb (by omega)
  have E5 := D5.but hb (by omega)
  have M3 := N3.butne hb ne3
  have M4 := N4.butne hb ne4
  have M5 := N5.butne hb ne5
  have S7 := (Aside.intro (And.intro LN (And.intro EA (And.intro EB (And.intro EX (And.intro EY (And.intro E3 (And.intro E4 (And.intro E5 (And.intro M3 (And.intro M4 M5)))))))))))
  clear hb H S6 L DA DB DX DY D3 D4 D5 N3 N4 N5 OY LN EA EB EX EY E3 E4 E5 M3 M4 M5 ne3 ne4 ne5
  go_upto_region 11 with fail
  obtain ⟨L, DA, DB, DX, DY, D3, D4, D5, N3, N4, N5⟩ := S7.out
  obtain ⟨kA0, kA1, kA2, kfA0, kfA1, kfA2⟩ := DA.facts
  obtain ⟨kB0, kB1, kB2, kfB0, kfB1, kfB2⟩ := DB.facts
  have H := hid (R1.out U7 L.bel)
  clear L DA DB DX DY D3 D4 D5 N3 N4 N5
  go_wp2_with fail
  clear kA0 kA1 kA2 kfA0 kfA1 kfA2 kB0 kB1 kB2 kfB0 kfB1 kfB2
  refine (Calls.mono H.out) ?_
  rintro r u8 ⟨⟨v, rfl, hN⟩, hb⟩
  obtain ⟨a8, c8, rfl, _⟩ := hN.arg (by omega)
  obtain ⟨L, DA, DB, DX, DY, D3, D4, D5, N3, N4, N5⟩ := S7.out
  have hs8 := hb.size
  obtain ⟨U8, hU8⟩ : ∃ U, U = u8.alloc (.cells #[.bool n1, .slice a8 (ws X1).length c8, .int .i64 e1] 38) := ⟨_, rfl⟩
  have hA : Below u8.heap.size u8 U8 := by rw [hU8]; exact below_alloc _ _
  have hz8 : u8.heap.size < U8.heap.size := by rw [hU8]; simp
  have DN : Dk U8 u8.heap.size n1 (.slice a8 (ws X1).length c8) e1 := by rw [hU8]; exact Dk.new _ _ _ _
  have B8 := Aside.intro hN.lt
  have NN := (hN.mono (lo' := w.heap.size) L.size).below hA
  have LN := (L.below hb).below hA
  have EA := (DA.below hb).below hA
  have EB := (DB.below hb).below hA
  have EX := (DX.below hb).below hA
  have EY := (DY.below hb).below hA
  have E3 := (D3.below hb).below hA
  have E4 := (D4.below hb).below hA
  have E5 := (D5.below hb).below hA
  have M3 := (N3.below hb).below hA
  have M4 := (N4.below hb).below hA
  have M5 := (N5.below hb).below hA
  have S8 := (Aside.intro (And.intro LN (And.intro EA (And.intro EB (And.intro EX (And.intro EY (And.intro E3 (And.intro E4 (And.intro E5 (And.intro DN (And.intro M3 (And.intro M4 (And.intro M5 NN)))))))))))))
  clear hN hb H hA S7 L DA DB DX DY D3 D4 D5 N3 N4 N5 LN EA EB EX EY E3 E4 E5 DN M3 M4 M5 NN
  go_upto_region 12 with fail
  rw [← hU8]
  clear hU8
  obtain ⟨L, DA, DB, DX, DY, D3, D4, D5, D8, N3, N4, N5, N8⟩ := S8.out
  obtain ⟨kA0, kA1, kA2, kfA0, kfA1, kfA2⟩ := DA.facts
  have H := hid (R2.out U8 L.bel)
  clear L DA DB DX DY D3 D4 D5 D8 N3 N4 N5 N8
  go_wp2_with fail
  clear kA0 kA1 kA2 kfA0 kfA1 kfA2
  refine (Calls.mono H.out) ?_
  rintro r u9 ⟨⟨v, rfl, hN⟩, hb⟩
  obtain ⟨a9, c9, rfl, _⟩ := hN.arg (by omega)
  obtain ⟨L, DA, DB, DX, DY, D3, D4, D5, D8, N3, N4, N5, N8⟩ := S8.out
  have hs9 := hb.size
  obtain ⟨U9, hU9⟩ : ∃ U, U = u9.alloc (.cells #[.bool n2, .slice a9 (ws X2).length c9, .int .i64 e2] 38) := ⟨_, rfl⟩
  have hA : Below u9.heap.size u9 U9 := by rw [hU9]; exact below_alloc _ _
  have hz9 : u9.heap.size < U9.heap.size := by rw [hU9]; simp
  have DN : Dk U9 u9.heap.size n2 (.slice a9 (ws X2).length c9) e2 := by rw [hU9]; exact Dk.new _ _ _ _
  have B9 := Aside.intro hN.lt
  have NN := (hN.mono (lo' := w.heap.size) L.size).below hA
  have LN := (L.below hb).below hA
  have EA := (DA.below hb).below hA
  have EB := (DB.below hb).below hA
  have EX := (DX.below hb).below hA
  have EY := (DY.below hb).below hA
  have E3 := (D3.below hb).below hA
  have E4 := (D4.below hb).below hA
  have E5 := (D5.below hb).below hA
  have E8 := (D8.below hb).below hA
  have M3 := (N3.below hb).below hA
  have M4 := (N4.below hb).below hA
  have M5 := (N5.below hb).below hA
  have M8 := (N8.below hb).below hA
  have S9 := (Aside.intro (And.intro LN (And.intro EA (And.intro EB (And.intro EX (And.intro EY (And.intro E3 (And.intro E4 (And.intro E5 (And.intro E8 (And.intro DN (And.intro M3 (And.intro M4 (And.intro M5 (And.intro M8 NN)))))))))))))))
  clear hN hb H hA S8 L DA DB DX DY D3 D4 D5 D8 N3 N4 N5 N8 LN EA EB EX EY E3 E4 E5 E8 DN M3 M4 M5 M8 NN
  go_upto_region 13 with fail
  rw [← hU9]
  clear hU9
  go_upto_region 15 with fail
  obtain ⟨L, DA, DB, DX, DY, D3, D4, D5, D8, D9, N3, N4, N5, N8, N9⟩ := S9.out
  obtain ⟨k30, k31, k32, kf30, kf31, kf32⟩ := D3.facts
  obtain ⟨k40, k41, k42, kf40, kf41, kf42⟩ := D4.facts
  obtain ⟨k50, k51, k52, kf50, kf51, kf52⟩ := D5.facts
  obtain ⟨k80, k81, k82, kf80, kf81, kf82⟩ := D8.facts
  obtain ⟨k90, k91, k92, kf90, kf91, kf92⟩ := D9.facts
  have hlt3 : u3.heap.size < U9.heap.size := by omega
  have hlt4 : u4.heap.size < U9.heap.size := by omega
  have hlt5 : u5.heap.size < U9.heap.size := by omega
  have hlt8 : u8.heap.size < U9.heap.size := by omega
  have hlt9 : u9.heap.size < U9.heap.size := by omega
  have hw : Below U9.heap.size U9 ((U9.alloc (.cells #[.bool n1, .slice a3 (ws X1).length c3, .int .i64 e1, .bool n1, .slice a4 (ws X1).length c4, .int .i64 e1, .bool n2, .slice a5 (ws X2).length c5, .int .i64 e2] 38)).alloc (.cells #[.bool n1, .slice a8 (ws X1).length c8, .int .i64 e1, .bool n1, .slice a8 (ws X1).length c8, .int .i64 e1, .bool n2, .slice a9 (ws X2).length c9, .int .i64 e2] 38)) := (below_alloc U9 _).alloc (by simp) _
  have hC : ((U9.alloc (.cells #[.bool n1, .slice a3 (ws X1).length c3, .int .i64 e1, .bool n1, .slice a4 (ws X1).length c4, .int .i64 e1, .bool n2, .slice a5 (ws X2).length c5, .int .i64 e2] 38)).alloc (.cells #[.bool n1, .slice a8 (ws X1).length c8, .int .i64 e1, .bool n1, .slice a8 (ws X1).length c8, .int .i64 e1, .bool n2, .slice a9 (ws X2).length c9, .int .i64 e2] 38)).heap[U9.heap.size]? = some (.cells (flat3 It.v ⟨n1, .slice a3 (ws X1).length c3, e1, .slice a8 (ws X1).length c8, X1⟩ ⟨n1, .slice a4 (ws X1).length c4, e1, .slice a8 (ws X1).length c8, X1⟩ ⟨n2, .slice a5 (ws X2).length c5, e2, .slice a9 (ws X2).length c9, X2⟩) 38 (0, 0)) := by rw [Below.heap_alloc _ _ _ (by simp)]; exact heap_alloc_new _ _
  have hW : ((U9.alloc (.cells #[.bool n1, .slice a3 (ws X1).length c3, .int .i64 e1, .bool n1, .slice a4 (ws X1).length c4, .int .i64 e1, .bool n2, .slice a5 (ws X2).length c5, .int .i64 e2] 38)).alloc (.cells #[.bool n1, .slice a8 (ws X1).length c8, .int .i64 e1, .bool n1, .slice a8 (ws X1).length c8, .int .i64 e1, .bool n2, .slice a9 (ws X2).length c9, .int .i64 e2] 38)).heap[U9.heap.size + 1]? = some (.cells (flat3 It.u ⟨n1, .slice a3 (ws X1).length c3, e1, .slice a8 (ws X1).length c8, X1⟩ ⟨n1, .slice a4 (ws X1).length c4, e1, .slice a8 (ws X1).length c8, X1⟩ ⟨n2, .slice a5 (ws X2).length c5, e2, .slice a9 (ws X2).length c9, X2⟩) 38 (0, 0)) := by have h := heap_alloc_new (U9.alloc (.cells #[.bool n1, .slice a3 (ws X1).length c3, .int .i64 e1, .bool n1, .slice a4 (ws X1).length c4, .int .i64 e1, .bool n2, .slice a5 (ws X2).length c5, .int .i64 e2] 38)) (.cells #[.bool n1, .slice a8 (ws X1).length c8, .int .i64 e1, .bool n1, .slice a8 (ws X1).length c8, .int .i64 e1, .bool n2, .slice a9 (ws X2).length c9, .int .i64 e2] 38); rw [show (U9.alloc (.cells #[.bool n1, .slice a3 (ws X1).length c3, .int .i64 e1, .bool n1, .slice a4 (ws X1).length c4, .int .i64 e1, .bool n2, .slice a5 (ws X2).length c5, .int .i64 e2] 38)).heap.size = U9.heap.size + 1 by simp] at h; exact h
  have hI : ∀ it ∈ it3 ⟨n1, .slice a3 (ws X1).length c3, e1, .slice a8 (ws X1).length c8, X1⟩ ⟨n1, .slice a4 (ws X1).length c4, e1, .slice a8 (ws X1).length c8, X1⟩ ⟨n2, .slice a5 (ws X2).length c5, e2, .slice a9 (ws X2).length c9, X2⟩, Nt w.heap.size ((U9.alloc (.cells #[.bool n1, .slice a3 (ws X1).length c3, .int .i64 e1, .bool n1, .slice a4 (ws X1).length c4, .int .i64 e1, .bool n2, .slice a5 (ws X2).length c5, .int .i64 e2] 38)).alloc (.cells #[.bool n1, .slice a8 (ws X1).length c8, .int .i64 e1, .bool n1, .slice a8 (ws X1).length c8, .int .i64 e1, .bool n2, .slice a9 (ws X2).length c9, .int .i64 e2] 38)) it.v it.X ∧ Nt w.heap.size ((U9.alloc (.cells #[.bool n1, .slice a3 (ws X1).length c3, .int .i64 e1, .bool n1, .slice a4 (ws X1).length c4, .int .i64 e1, .bool n2, .slice a5 (ws X2).length c5, .int .i64 e2] 38)).alloc (.cells #[.bool n1, .slice a8 (ws X1).length c8, .int .i64 e1, .bool n1, .slice a8 (ws X1).length c8, .int .i64 e1, .bool n2, .slice a9 (ws X2).length c9, .int .i64 e2] 38)) it.u it.X ∧ (ws it.X).length ≤ 8192 := by
    intro it h
    simp only [it3, List.mem_cons, List.not_mem_nil, or_false] at h
    rcases h with rfl | rfl | rfl
    · exact ⟨N3.below hw, N8.below hw, l1⟩
    · exact ⟨N4.below hw, N8.below hw, l1⟩
    · exact ⟨N5.below hw, N9.below hw, l2⟩
  have TK := hid (took3 ⟨n1, .slice a3 (ws X1).length c3, e1, .slice a8 (ws X1).length c8, X1⟩ ⟨n1, .slice a4 (ws X1).length c4, e1, .slice a8 (ws X1).length c8, X1⟩ ⟨n2, .slice a5 (ws X2).length c5, e2, .slice a9 (ws X2).length c9, X2⟩ U9.heap.size (U9.heap.size + 1) w ((U9.alloc (.cells #[.bool n1, .slice a3 (ws X1).length c3, .int .i64 e1, .bool n1, .slice a4 (ws X1).length c4, .int .i64 e1, .bool n2, .slice a5 (ws X2).length c5, .int .i64 e2] 38)).alloc (.cells #[.bool n1, .slice a8 (ws X1).length c8, .int .i64 e1, .bool n1, .slice a8 (ws X1).length c8, .int .i64 e1, .bool n2, .slice a9 (ws X2).length c9, .int .i64 e2] 38)) (L.below hw) hC hW hI)
  clear hw hC hW hI L DA DB DX DY D3 D4 D5 D8 D9 N3 N4 N5 N8 N9
  go_wp2_with fail
  with_reducible refine (Calls.mono TK.out) ?_
  rintro r uE ⟨rfl, hb, hk⟩
  have SE := Aside.intro hb
  clear hb hk TK
  go_wp2
  go_ret
  exact ⟨rfl, SE.out⟩
end Go.Proofs.YtonhahbmdekkdaaDoor
