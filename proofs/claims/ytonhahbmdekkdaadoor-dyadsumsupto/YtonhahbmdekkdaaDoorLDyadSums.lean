/- DyadSums: the walk. -/
import Derived.Test.YtonhahbmdekkdaaDoorD34
import Derived.Test.YtonhahbmdekkdaaDoorD35
import Derived.Deep.Cut
namespace Go.Proofs.YtonhahbmdekkdaaDoor
open Go.RowKit
set_option linter.unusedVariables false
set_option maxRecDepth 20000
set_option linter.unusedSimpArgs false

set_option maxHeartbeats 16000000 in
set_option maxRecDepth 100000 in
theorem sums_core (nA nB : Bool) (aA aB : Option Addr) (lA cA lB cB : Nat) (xs ys : List Nat) (eA eB : Int) (w : World) (bA : lA ≤ 1048576) (bB : lB ≤ 1048576) (w0 : Arg w aA lA cA xs) (w1 : Arg w aB lB cB ys) (hT : Tab w)
    (n1 n2 n3 n4 n5 : Bool) (X1 X2 X3 X4 X5 : Nat) (e1 e2 e3 e4 e5 er1 er2 er3 er4 er5 : Int) (l1 : (ws X1).length ≤ 8192) (l2 : (ws X2).length ≤ 8192) (l3 : (ws X3).length ≤ 8192) (l4 : (ws X4).length ≤ 8192) (l5 : (ws X5).length ≤ 8192)
    (H1 : Hid (∀ (u : World) (p q : Option Addr) (s t : Nat), Below w.heap.size w u → Arg u p lA s xs → Arg u q lB t ys → Calls Tryd.prog 21 #[.agg #[.bool nA, .slice p lA s, .int .i64 eA], .agg #[.bool nB, .slice q lB t, .int .i64 eB]] u fun r w' => (∃ v, r = .returned (.tuple #[.agg #[.bool n1, v, .int .i64 e1], .int .i64 er1]) ∧ Nt u.heap.size w' v X1) ∧ Below u.heap.size u w'))
    (H2 : Hid (∀ (u : World) (p q : Option Addr) (s t : Nat), Below w.heap.size w u → Arg u p lB s ys → Arg u q lA t xs → Calls Tryd.prog 21 #[.agg #[.bool nB, .slice p lB s, .int .i64 eB], .agg #[.bool nA, .slice q lA t, .int .i64 eA]] u fun r w' => (∃ v, r = .returned (.tuple #[.agg #[.bool n1, v, .int .i64 e1], .int .i64 er1]) ∧ Nt u.heap.size w' v X1) ∧ Below u.heap.size u w'))
    (H3 : Hid (∀ (u : World) (p q : Option Addr) (s t : Nat), Below w.heap.size w u → Arg u p lA s xs → Arg u q lB t ys → Calls Tryd.prog 22 #[.agg #[.bool nA, .slice p lA s, .int .i64 eA], .agg #[.bool nB, .slice q lB t, .int .i64 eB]] u fun r w' => (∃ v, r = .returned (.tuple #[.agg #[.bool n2, v, .int .i64 e2], .int .i64 er2]) ∧ Nt u.heap.size w' v X2) ∧ Below u.heap.size u w'))
    (H4 : Hid (∀ (u : World) (p q : Option Addr) (s t : Nat), Below w.heap.size w u → Arg u p lB s ys → Arg u q lA t xs → Calls Tryd.prog 22 #[.agg #[.bool nB, .slice p lB s, .int .i64 eB], .agg #[.bool nA, .slice q lA t, .int .i64 eA]] u fun r w' => (∃ v, r = .returned (.tuple #[.agg #[.bool n3, v, .int .i64 e3], .int .i64 er3]) ∧ Nt u.heap.size w' v X3) ∧ Below u.heap.size u w'))
    (H5 : Hid (∀ (u : World) (p : Option Addr) (s : Nat), Below w.heap.size w u → Arg u p lA s xs → Calls Tryd.prog 21 #[.agg #[.bool nA, .slice p lA s, .int .i64 eA], .agg #[.bool nA, .slice p lA s, .int .i64 eA]] u fun r w' => (∃ v, r = .returned (.tuple #[.agg #[.bool n4, v, .int .i64 e4], .int .i64 er4]) ∧ Nt u.heap.size w' v X4) ∧ Below u.heap.size u w'))
    (H6 : Hid (∀ (u : World) (p : Option Addr) (s : Nat), Below w.heap.size w u → Arg u p lA s xs → Calls Tryd.prog 22 #[.agg #[.bool nA, .slice p lA s, .int .i64 eA], .agg #[.bool nA, .slice p lA s, .int .i64 eA]] u fun r w' => (∃ v, r = .returned (.tuple #[.agg #[.bool n5, v, .int .i64 e5], .int .i64 er5]) ∧ Nt u.heap.size w' v X5) ∧ Below u.heap.size u w'))
    (R1 : Hid (∀ u, Below w.heap.size w u → Calls Tryd.prog 24 #[.agg #[.bool nA, .slice aA lA cA, .int .i64 eA], .agg #[.bool nB, .slice aB lB cB, .int .i64 eB]] u fun r w' => (∃ v, r = .returned (.tuple #[.agg #[.bool n1, v, .int .i64 e1], .int .i64 er1]) ∧ Nt u.heap.size w' v X1) ∧ Below u.heap.size u w'))
    (R2 : Hid (∀ u, Below w.heap.size w u → Calls Tryd.prog 25 #[.agg #[.bool nA, .slice aA lA cA, .int .i64 eA], .agg #[.bool nB, .slice aB lB cB, .int .i64 eB]] u fun r w' => (∃ v, r = .returned (.tuple #[.agg #[.bool n2, v, .int .i64 e2], .int .i64 er2]) ∧ Nt u.heap.size w' v X2) ∧ Below u.heap.size u w'))
    (R3 : Hid (∀ u, Below w.heap.size w u → Calls Tryd.prog 25 #[.agg #[.bool nB, .slice aB lB cB, .int .i64 eB], .agg #[.bool nA, .slice aA lA cA, .int .i64 eA]] u fun r w' => (∃ v, r = .returned (.tuple #[.agg #[.bool n3, v, .int .i64 e3], .int .i64 er3]) ∧ Nt u.heap.size w' v X3) ∧ Below u.heap.size u w'))
    (R4 : Hid (∀ u, Below w.heap.size w u → Calls Tryd.prog 24 #[.agg #[.bool nA, .slice aA lA cA, .int .i64 eA], .agg #[.bool nA, .slice aA lA cA, .int .i64 eA]] u fun r w' => (∃ v, r = .returned (.tuple #[.agg #[.bool n4, v, .int .i64 e4], .int .i64 er4]) ∧ Nt u.heap.size w' v X4) ∧ Below u.heap.size u w'))
    (R5 : Hid (∀ u, Below w.heap.size w u → Calls Tryd.prog 25 #[.agg #[.bool nA, .slice aA lA cA, .int .i64 eA], .agg #[.bool nA, .slice aA lA cA, .int .i64 eA]] u fun r w' => (∃ v, r = .returned (.tuple #[.agg #[.bool n5, v, .int .i64 e5], .int .i64 er5]) ∧ Nt u.heap.size w' v X5) ∧ Below u.heap.size u w')) :
    Calls Tryd.prog 4 #[.agg #[.bool nA, .slice aA lA cA, .int .i64 eA], .agg #[.bool nB, .slice aB lB cB, .int .i64 eB]] w fun r w' => r = .returned (.bool true) ∧ Below w.heap.size w w' := by
  obtain ⟨W1, hW1⟩ : ∃ W, W = (w.alloc (.cells #[.bool nA, .slice aA lA cA, .int .i64 eA] 38)).alloc (.cells #[.bool nB, .slice aB lB cB, .int .i64 eB] 38) := ⟨_, rfl⟩
  have hB : Below w.heap.size w W1 := by rw [hW1]; exact (below_alloc w _).alloc (by simp) _
  have hz : W1.heap.size = w.heap.size + 2 := by rw [hW1]; simp
  have DA : Dk W1 w.heap.size nA (.slice aA lA cA) eA := by rw [hW1]; exact (Dk.new w nA (.slice aA lA cA) eA).alloc _
  have DB : Dk W1 (w.heap.size + 1) nB (.slice aB lB cB) eB := by rw [hW1]; have := Dk.new (w.alloc (.cells #[.bool nA, .slice aA lA cA, .int .i64 eA] 38)) nB (.slice aB lB cB) eB; simpa using this
  have AW := hid (awake3_any W1 (hT.belows hB))
  have hq : w.heap.size + 1 < W1.heap.size := by omega
  have SB := (Aside.intro (And.intro hB (And.intro DA DB)))
  have HX := (Aside.intro (And.intro w0 w1))
  clear w0 w1 hT hB hz DA DB
  go_enter Tryd.func4, Tryd.ntmps4
  go_wp2_with fail
  rw [← hW1]
  clear hW1
  refine (Calls.mono AW.out) ?_
  rintro r U0 ⟨rfl, hb⟩
  have hs0 := hb.size
  have L0 : Led w.heap.size w U0 [] := ⟨SB.out.1.trans (hb.mono (by omega)), by omega, Nice.nil _ _⟩
  have S0 := (Aside.intro (And.intro L0 (And.intro (SB.out.2.1.below hb) (SB.out.2.2.below hb))))
  clear hb AW L0 SB
  go_upto_region 4 with fail
  obtain ⟨L, DA, DB⟩ := S0.out
  obtain ⟨kA0, kA1, kA2, kfA0, kfA1, kfA2⟩ := DA.facts
  have H := hid (rLent3_any (HX.out.1.below L.bel) (by omega) nA eA)
  clear L DA DB
  go_wp2_with fail
  clear kA0 kA1 kA2 kfA0 kfA1 kfA2
  refine (Calls.mono H.out) ?_
  rintro r u1 ⟨gX, rfl, hgX, hO, hb⟩
  obtain ⟨L, DA, DB⟩ := S0.out
  have hs1 := hb.size
  have hGX : gX < u1.heap.size := hO.lt
  obtain ⟨U1, hU1⟩ : ∃ U, U = u1.alloc (.cells #[.bool nA, .slice (some ⟨gX, 0, none⟩) lA (lA + 2), .int .i64 eA] 38) := ⟨_, rfl⟩
  have hA : Below u1.heap.size u1 U1 := by rw [hU1]; exact below_alloc _ _
  have hz1 : u1.heap.size < U1.heap.size := by rw [hU1]; simp
  have DN : Dk U1 u1.heap.size nA (.slice (some ⟨gX, 0, none⟩) lA (lA + 2)) eA := by rw [hU1]; exact Dk.new _ _ _ _
  have LN := (L.below hb).below hA
  have EA := (DA.below hb).below hA
  have EB := (DB.below hb).below hA
  have ON := hO.below hA hO.lt
  have S1 := (Aside.intro (And.intro LN (And.intro EA (And.intro EB (And.intro DN ON)))))
  clear hO hb H hA S0 L DA DB LN EA EB DN ON
  go_upto_region 5 with fail
  rw [← hU1]
  clear hU1
  obtain ⟨L, DA, DB, DX, OX⟩ := S1.out
  obtain ⟨kB0, kB1, kB2, kfB0, kfB1, kfB2⟩ := DB.facts
  have H := hid (rLent3_any (HX.out.2.below L.bel) (by omega) nB eB)
  clear L DA DB DX OX
  go_wp2_with fail
  clear kB0 kB1 kB2 kfB0 kfB1 kfB2
  refine (Calls.mono H.out) ?_
  rintro r u2 ⟨gY, rfl, hgY, hO, hb⟩
  obtain ⟨L, DA, DB, DX, OX⟩ := S1.out
  have hs2 := hb.size
  have hGY : gY < u2.heap.size := hO.lt
  obtain ⟨U2, hU2⟩ : ∃ U, U = u2.alloc (.cells #[.bool nB, .slice (some ⟨gY, 0, none⟩) lB (lB + 2), .int .i64 eB] 38) := ⟨_, rfl⟩
  have hA : Below u2.heap.size u2 U2 := by rw [hU2]; exact below_alloc _ _
  have hz2 : u2.heap.size < U2.heap.size := by rw [hU2]; simp
  have DN : Dk U2 u2.heap.size nB (.slice (some ⟨gY, 0, none⟩) lB (lB + 2)) eB := by rw [hU2]; exact Dk.new _ _ _ _
  have LN := (L.below hb).below hA
  have EA := (DA.below hb).below hA
  have EB := (DB.below hb).below hA
  have EX := (DX.below hb).below hA
  have QX := (OX.below hb OX.lt).below hA (OX.below hb OX.lt).lt
  have ON := hO.below hA hO.lt
  have S2 := (Aside.intro (And.intro LN (And.intro EA (And.intro EB (And.intro EX (And.intro DN (And.intro QX ON)))))))
  clear hO hb H hA S1 L DA DB DX OX LN EA EB EX DN QX ON
  go_upto_region 6 with fail
  rw [← hU2]
  clear hU2
  obtain ⟨L, DA, DB, DX, DY, OX, OY⟩ := S2.out
  obtain ⟨kX0, kX1, kX2, kfX0, kfX1, kfX2⟩ := DX.facts
  obtain ⟨kY0, kY1, kY2, kfY0, kfY1, kfY2⟩ := DY.facts
  have H := hid (H1.out U2 (some ⟨gX, 0, none⟩) (some ⟨gY, 0, none⟩) (lA + 2) (lB + 2) L.bel (lent_arg HX.out.1.len (by omega) HX.out.1.wf OX) (lent_arg HX.out.2.len (by omega) HX.out.2.wf OY))
  clear L DA DB DX DY OX OY
  go_wp2_with fail
  clear kX0 kX1 kX2 kfX0 kfX1 kfX2 kY0 kY1 kY2 kfY0 kfY1 kfY2
  refine (Calls.mono H.out) ?_
  rintro r u3 ⟨⟨v, rfl, hN⟩, hb⟩
  obtain ⟨a3, c3, rfl, _⟩ := hN.arg (by omega)
  obtain ⟨L, DA, DB, DX, DY, OX, OY⟩ := S2.out
  have hs3 := hb.size
  obtain ⟨U3, hU3⟩ : ∃ U, U = u3.alloc (.cells #[.bool n1, .slice a3 (ws X1).length c3, .int .i64 e1] 38) := ⟨_, rfl⟩
  have hA : Below u3.heap.size u3 U3 := by rw [hU3]; exact below_alloc _ _
  have hz3 : u3.heap.size < U3.heap.size := by rw [hU3]; simp
  have DN : Dk U3 u3.heap.size n1 (.slice a3 (ws X1).length c3) e1 := by rw [hU3]; exact Dk.new _ _ _ _
  have B3 := Aside.intro hN.lt
  have NN := (hN.mono (lo' := w.heap.size) L.size).below hA
  have LN := (L.add hb hN l1).below hA
  have EA := (DA.below hb).below hA
  have EB := (DB.below hb).below hA
  have EX := (DX.below hb).below hA
  have EY := (DY.below hb).below hA
  have QX := (OX.below hb OX.lt).below hA (OX.below hb OX.lt).lt
  have QY := (OY.below hb OY.lt).below hA (OY.below hb OY.lt).lt
  have S3 := (Aside.intro (And.intro LN (And.intro EA (And.intro EB (And.intro EX (And.intro EY (And.intro DN (And.intro NN (And.intro QX QY)))))))))
  clear hN hb H hA S2 L DA DB DX DY OX OY LN EA EB EX EY DN NN QX QY
  go_upto_region 7 with fail
  rw [← hU3]
  clear hU3
  obtain ⟨L, DA, DB, DX, DY, D3, N3, OX, OY⟩ := S3.out
  obtain ⟨kY0, kY1, kY2, kfY0, kfY1, kfY2⟩ := DY.facts
  obtain ⟨kX0, kX1, kX2, kfX0, kfX1, kfX2⟩ := DX.facts
  have H := hid (H2.out U3 (some ⟨gY, 0, none⟩) (some ⟨gX, 0, none⟩) (lB + 2) (lA + 2) L.bel (lent_arg HX.out.2.len (by omega) HX.out.2.wf OY) (lent_arg HX.out.1.len (by omega) HX.out.1.wf OX))
  clear L DA DB DX DY D3 N3 OX OY
  go_wp2_with fail
  clear kY0 kY1 kY2 kfY0 kfY1 kfY2 kX0 kX1 kX2 kfX0 kfX1 kfX2
  refine (Calls.mono H.out) ?_
  rintro r u4 ⟨⟨v, rfl, hN⟩, hb⟩
  obtain ⟨a4, c4, rfl, _⟩ := hN.arg (by omega)
  obtain ⟨L, DA, DB, DX, DY, D3, N3, OX, OY⟩ := S3.out
  have hs4 := hb.size
  obtain ⟨U4, hU4⟩ : ∃ U, U = u4.alloc (.cells #[.bool n1, .slice a4 (ws X1).length c4, .int .i64 e1] 38) := ⟨_, rfl⟩
  have hA : Below u4.heap.size u4 U4 := by rw [hU4]; exact below_alloc _ _
  have hz4 : u4.heap.size < U4.heap.size := by rw [hU4]; simp
  have DN : Dk U4 u4.heap.size n1 (.slice a4 (ws X1).length c4) e1 := by rw [hU4]; exact Dk.new _ _ _ _
  have B4 := Aside.intro hN.lt
  have NN := (hN.mono (lo' := w.heap.size) L.size).below hA
  have LN := (L.add hb hN l1).below hA
  have EA := (DA.below hb).below hA
  have EB := (DB.below hb).below hA
  have EX := (DX.below hb).below hA
  have EY := (DY.below hb).below hA
  have E3 := (D3.below hb).below hA
  have M3 := (N3.below hb).below hA
  have QX := (OX.below hb OX.lt).below hA (OX.below hb OX.lt).lt
  have QY := (OY.below hb OY.lt).below hA (OY.below hb OY.lt).lt
  have S4 := (Aside.intro (And.intro LN (And.intro EA (And.intro EB (And.intro EX (And.intro EY (And.intro E3 (And.intro DN (And.intro M3 (And.intro NN (And.intro QX QY)))))))))))
  clear hN hb H hA S3 L DA DB DX DY D3 N3 OX OY LN EA EB EX EY E3 DN M3 NN QX QY
  go_upto_region 8 with fail
  rw [← hU4]
  clear hU4
  obtain ⟨L, DA, DB, DX, DY, D3, D4, N3, N4, OX, OY⟩ := S4.out
  obtain ⟨kX0, kX1, kX2, kfX0, kfX1, kfX2⟩ := DX.facts
  obtain ⟨kY0, kY1, kY2, kfY0, kfY1, kfY2⟩ := DY.facts
  have H := hid (H3.out U4 (some ⟨gX, 0, none⟩) (some ⟨gY, 0, none⟩) (lA + 2) (lB + 2) L.bel (lent_arg HX.out.1.len (by omega) HX.out.1.wf OX) (lent_arg HX.out.2.len (by omega) HX.out.2.wf OY))
  clear L DA DB DX DY D3 D4 N3 N4 OX OY
  go_wp2_with fail
  clear kX0 kX1 kX2 kfX0 kfX1 kfX2 kY0 kY1 kY2 kfY0 kfY1 kfY2
  refine (Calls.mono H.out) ?_
  rintro r u5 ⟨⟨v, rfl, hN⟩, hb⟩
  obtain ⟨a5, c5, rfl, _⟩ := hN.arg (by omega)
  obtain ⟨L, DA, DB, DX, DY, D3, D4, N3, N4, OX, OY⟩ := S4.out
  have hs5 := hb.size
  obtain ⟨U5, hU5⟩ : ∃ U, U = u5.alloc (.cells #[.bool n2, .slice a5 (ws X2).length c5, .int .i64 e2] 38) := ⟨_, rfl⟩
  have hA : Below u5.heap.size u5 U5 := by rw [hU5]; exact below_alloc _ _
  have hz5 : u5.heap.size < U5.heap.size := by rw [hU5]; simp
  have DN : Dk U5 u5.heap.size n2 (.slice a5 (ws X2).length c5) e2 := by rw [hU5]; exact Dk.new _ _ _ _
  have B5 := Aside.intro hN.lt
  have NN := (hN.mono (lo' := w.heap.size) L.size).below hA
  have LN := (L.add hb hN l2).below hA
  have EA := (DA.below hb).below hA
  have EB := (DB.below hb).below hA
  have EX := (DX.below hb).below hA
  have EY := (DY.below hb).below hA
  have E3 := (D3.below hb).below hA
  have E4 := (D4.below hb).below hA
  have M3 := (N3.below hb).below hA
  have M4 := (N4.below hb).below hA
  have QX := (OX.below hb OX.lt).below hA (OX.below hb OX.lt).lt
  have QY := (OY.below hb OY.lt).below hA (OY.below hb OY.lt).lt
  have S5 := (Aside.intro (And.intro LN (And.intro EA (And.intro EB (And.intro EX (And.intro EY (And.intro E3 (And.intro E4 (And.intro DN (And.intro M3 (And.intro M4 (And.intro NN (And.intro QX QY)))))))))))))
  clear hN hb H hA S4 L DA DB DX DY D3 D4 N3 N4 OX OY LN EA EB EX EY E3 E4 DN M3 M4 NN QX QY
  go_upto_region 9 with fail
  rw [← hU5]
  clear hU5
  obtain ⟨L, DA, DB, DX, DY, D3, D4, D5, N3, N4, N5, OX, OY⟩ := S5.out
  obtain ⟨kY0, kY1, kY2, kfY0, kfY1, kfY2⟩ := DY.facts
  obtain ⟨kX0, kX1, kX2, kfX0, kfX1, kfX2⟩ := DX.facts
  have H := hid (H4.out U5 (some ⟨gY, 0, none⟩) (some ⟨gX, 0, none⟩) (lB + 2) (lA + 2) L.bel (lent_arg HX.out.2.len (by omega) HX.out.2.wf OY) (lent_arg HX.out.1.len (by omega) HX.out.1.wf OX))
  clear L DA DB DX DY D3 D4 D5 N3 N4 N5 OX OY
  go_wp2_with fail
  clear kY0 kY1 kY2 kfY0 kfY1 kfY2 kX0 kX1 kX2 kfX0 kfX1 kfX2
  refine (Calls.mono H.out) ?_
  rintro r u6 ⟨⟨v, rfl, hN⟩, hb⟩
  obtain ⟨a6, c6, rfl, _⟩ := hN.arg (by omega)
  obtain ⟨L, DA, DB, DX, DY, D3, D4, D5, N3, N4, N5, OX, OY⟩ := S5.out
  have hs6 := hb.size
  obtain ⟨U6, hU6⟩ : ∃ U, U = u6.alloc (.cells #[.bool n3, .slice a6 (ws X3).length c6, .int .i64 e3] 38) := ⟨_, rfl⟩
  have hA : Below u6.heap.size u6 U6 := by rw [hU6]; exact below_alloc _ _
  have hz6 : u6.heap.size < U6.heap.size := by rw [hU6]; simp
  have DN : Dk U6 u6.heap.size n3 (.slice a6 (ws X3).length c6) e3 := by rw [hU6]; exact Dk.new _ _ _ _
  have B6 := Aside.intro hN.lt
  have NN := (hN.mono (lo' := w.heap.size) L.size).below hA
  have LN := (L.add hb hN l3).below hA
  have EA := (DA.below hb).below hA
  have EB := (DB.below hb).below hA
  have EX := (DX.below hb).below hA
  have EY := (DY.below hb).below hA
  have E3 := (D3.below hb).below hA
  have E4 := (D4.below hb).below hA
  have E5 := (D5.below hb).below hA
  have M3 := (N3.below hb).below hA
  have M4 := (N4.below hb).below hA
  have M5 := (N5.below hb).below hA
  have QX := (OX.below hb OX.lt).below hA (OX.below hb OX.lt).lt
  have QY := (OY.below hb OY.lt).below hA (OY.below hb OY.lt).lt
  have S6 := (Aside.intro (And.intro LN (And.intro EA (And.intro EB (And.intro EX (And.intro EY (And.intro E3 (And.intro E4 (And.intro E5 (And.intro DN (And.intro M3 (And.intro M4 (And.intro M5 (And.intro NN (And.intro QX QY)))))))))))))))
  clear hN hb H hA S5 L DA DB DX DY D3 D4 D5 N3 N4 N5 OX OY LN EA EB EX EY E3 E4 E5 DN M3 M4 M5 NN QX QY
  go_upto_region 10 with fail
  rw [← hU6]
  clear hU6
  obtain ⟨L, DA, DB, DX, DY, D3, D4, D5, D6, N3, N4, N5, N6, OX, OY⟩ := S6.out
  obtain ⟨kX0, kX1, kX2, kfX0, kfX1, kfX2⟩ := DX.facts
  have H := hid (H5.out U6 (some ⟨gX, 0, none⟩) (lA + 2) L.bel (lent_arg HX.out.1.len (by omega) HX.out.1.wf OX))
  clear L DA DB DX DY D3 D4 D5 D6 N3 N4 N5 N6 OX OY
  go_wp2_with fail
  clear kX0 kX1 kX2 kfX0 kfX1 kfX2
  refine (Calls.mono H.out) ?_
  rintro r u7 ⟨⟨v, rfl, hN⟩, hb⟩
  obtain ⟨a7, c7, rfl, _⟩ := hN.arg (by omega)
  obtain ⟨L, DA, DB, DX, DY, D3, D4, D5, D6, N3, N4, N5, N6, OX, OY⟩ := S6.out
  have hs7 := hb.size
  obtain ⟨U7, hU7⟩ : ∃ U, U = u7.alloc (.cells #[.bool n4, .slice a7 (ws X4).length c7, .int .i64 e4] 38) := ⟨_, rfl⟩
  have hA : Below u7.heap.size u7 U7 := by rw [hU7]; exact below_alloc _ _
  have hz7 : u7.heap.size < U7.heap.size := by rw [hU7]; simp
  have DN : Dk U7 u7.heap.size n4 (.slice a7 (ws X4).length c7) e4 := by rw [hU7]; exact Dk.new _ _ _ _
  have B7 := Aside.intro hN.lt
  have NN := (hN.mono (lo' := w.heap.size) L.size).below hA
  have LN := (L.add hb hN l4).below hA
  have EA := (DA.below hb).below hA
  have EB := (DB.below hb).below hA
  have EX := (DX.below hb).below hA
  have EY := (DY.below hb).below hA
  have E3 := (D3.below hb).below hA
  have E4 := (D4.below hb).below hA
  have E5 := (D5.below hb).below hA
  have E6 := (D6.below hb).below hA
  have M3 := (N3.below hb).below hA
  have M4 := (N4.below hb).below hA
  have M5 := (N5.below hb).below hA
  have M6 := (N6.below hb).below hA
  have QX := (OX.below hb OX.lt).below hA (OX.below hb OX.lt).lt
  have QY := (OY.below hb OY.lt).below hA (OY.below hb OY.lt).lt
  have S7 := (Aside.intro (And.intro LN (And.intro EA (And.intro EB (And.intro EX (And.intro EY (And.intro E3 (And.intro E4 (And.intro E5 (And.intro E6 (And.intro DN (And.intro M3 (And.intro M4 (And.intro M5 (And.intro M6 (And.intro NN (And.intro QX QY)))))))))))))))))
  clear hN hb H hA S6 L DA DB DX DY D3 D4 D5 D6 N3 N4 N5 N6 OX OY LN EA EB EX EY E3 E4 E5 E6 DN M3 M4 M5 M6 NN QX QY
  go_upto_region 11 with fail
  rw [← hU7]
  clear hU7
  obtain ⟨L, DA, DB, DX, DY, D3, D4, D5, D6, D7, N3, N4, N5, N6, N7, OX, OY⟩ := S7.out
  obtain ⟨kX0, kX1, kX2, kfX0, kfX1, kfX2⟩ := DX.facts
  have H := hid (H6.out U7 (some ⟨gX, 0, none⟩) (lA + 2) L.bel (lent_arg HX.out.1.len (by omega) HX.out.1.wf OX))
  clear L DA DB DX DY D3 D4 D5 D6 D7 N3 N4 N5 N6 N7 OX OY
  go_wp2_with fail
  clear kX0 kX1 kX2 kfX0 kfX1 kfX2
  refine (Calls.mono H.out) ?_
  rintro r u8 ⟨⟨v, rfl, hN⟩, hb⟩
  obtain ⟨a8, c8, rfl, _⟩ := hN.arg (by omega)
  obtain ⟨L, DA, DB, DX, DY, D3, D4, D5, D6, D7, N3, N4, N5, N6, N7, OX, OY⟩ := S7.out
  have hs8 := hb.size
  obtain ⟨U8, hU8⟩ : ∃ U, U = u8.alloc (.cells #[.bool n5, .slice a8 (ws X5).length c8, .int .i64 e5] 38) := ⟨_, rfl⟩
  have hA : Below u8.heap.size u8 U8 := by rw [hU8]; exact below_alloc _ _
  have hz8 : u8.heap.size < U8.heap.size := by rw [hU8]; simp
  have DN : Dk U8 u8.heap.size n5 (.slice a8 (ws X5).length c8) e5 := by rw [hU8]; exact Dk.new _ _ _ _
  have B8 := Aside.intro hN.lt
  have NN := (hN.mono (lo' := w.heap.size) L.size).below hA
  have LN := (L.add hb hN l5).below hA
  have EA := (DA.below hb).below hA
  have EB := (DB.below hb).below hA
  have EX := (DX.below hb).below hA
  have EY := (DY.below hb).below hA
  have E3 := (D3.below hb).below hA
  have E4 := (D4.below hb).below hA
  have E5 := (D5.below hb).below hA
  have E6 := (D6.below hb).below hA
  have E7 := (D7.below hb).below hA
  have M3 := (N3.below hb).below hA
  have M4 := (N4.below hb).below hA
  have M5 := (N5.below hb).below hA
  have M6 := (N6.below hb).below hA
  have M7 := (N7.below hb).below hA
  have QX := (OX.below hb OX.lt).below hA (OX.below hb OX.lt).lt
  have QY := (OY.below hb OY.lt).below hA (OY.below hb OY.lt).lt
  have S8 := (Aside.intro (And.intro LN (And.intro EA (And.intro EB (And.intro EX (And.intro EY (And.intro E3 (And.intro E4 (And.intro E5 (And.intro E6 (And.intro E7 (And.intro DN (And.intro M3 (And.intro M4 (And.intro M5 (And.intro M6 (And.intro M7 (And.intro NN (And.intro QX QY)))))))))))))))))))
  clear hN hb H hA S7 L DA DB DX DY D3 D4 D5 D6 D7 N3 N4 N5 N6 N7 OX OY LN EA EB EX EY E3 E4 E5 E6 E7 DN M3 M4 M5 M6 M7 NN QX QY
  go_upto_region 12 with fail
  rw [← hU8]
  clear hU8
  obtain ⟨L, DA, DB, DX, DY, D3, D4, D5, D6, D7, D8, N3, N4, N5, N6, N7, N8, OX, OY⟩ := S8.out
  obtain ⟨kX0, kX1, kX2, kfX0, kfX1, kfX2⟩ := DX.facts
  obtain ⟨kA0, kA1, kA2, kfA0, kfA1, kfA2⟩ := DA.facts
  have H := hid (rAsLent3_any (HX.out.1.below L.bel) (by omega) nA eA w.heap.size gX (HX.out.1.rd.below L.bel) L.size (by omega) OX)
  clear L DA DB DX DY D3 D4 D5 D6 D7 D8 N3 N4 N5 N6 N7 N8 OX OY
  go_wp2_with fail
  clear kX0 kX1 kX2 kfX0 kfX1 kfX2 kA0 kA1 kA2 kfA0 kfA1 kfA2
  refine (Calls.mono H.out) ?_
  rintro r U9 ⟨rfl, hb⟩
  obtain ⟨L, DA, DB, DX, DY, D3, D4, D5, D6, D7, D8, N3, N4, N5, N6, N7, N8, OX, OY⟩ := S8.out
  have hs9 := hb.size
  have ne3 : (Value.slice a3 (ws X1).length c3).ownBlock ≠ some gX := fun e => by have := B3.out _ e; omega
  have ne4 : (Value.slice a4 (ws X1).length c4).ownBlock ≠ some gX := fun e => by have := B4.out _ e; omega
  have ne5 : (Value.slice a5 (ws X2).length c5).ownBlock ≠ some gX := fun e => by have := B5.out _ e; omega
  have ne6 : (Value.slice a6 (ws X3).length c6).ownBlock ≠ some gX := fun e => by have := B6.out _ e; omega
  have ne7 : (Value.slice a7 (ws X4).length c7).ownBlock ≠ some gX := fun e => by have := B7.out _ e; omega
  have ne8 : (Value.slice a8 (ws X5).length c8).ownBlock ≠ some gX := fun e => by have := B8.out _ e; omega
  have LN := L.but hb (by omega) (by intro v hv; simp at hv; rcases hv with rfl | rfl | rfl | rfl | rfl | rfl; all_goals assumption)
  have EA := DA.but hb (by omega)
  have EB := DB.but hb (by omega)
  have EX := DX.but hb (by omega)
  have EY := DY.but hb (by omega)
  have E3 := D3.but hb (by omega)
  have E4 := D4.but hb (by omega)
  have E5 := D5.but hb (by omega)
  have E6 := D6.but hb (by omega)
  have E7 := D7.but hb (by omega)
  have E8 := D8.but hb (by omega)
  have M3 := N3.butne hb ne3
  have M4 := N4.butne hb ne4
  have M5 := N5.butne hb ne5
  have M6 := N6.butne hb ne6
  have M7 := N7.butne hb ne7
  have M8 := N8.butne hb ne8
  have QY := OY.but hb (by omega)
  have S9 := (Aside.intro (And.intro LN (And.intro EA (And.intro EB (And.intro EX (And.intro EY (And.intro E3 (And.intro E4 (And.intro E5 (And.intro E6 (And.intro E7 (And.intro E8 (And.intro M3 (And.intro M4 (And.intro M5 (And.intro M6 (And.intro M7 (And.intro M8 QY))))))))))))))))))
  clear hb H S8 L DA DB DX DY D3 D4 D5 D6 D7 D8 N3 N4 N5 N6 N7 N8 OX OY LN EA EB EX EY E3 E4 E5 E6 E7 E8 M3 M4 M5 M6 M7 M8 QY ne3 ne4 ne5 ne6 ne7 ne8
  go_upto_region 13 with fail
  obtain ⟨L, DA, DB, DX, DY, D3, D4, D5, D6, D7, D8, N3, N4, N5, N6, N7, N8, OY⟩ := S9.out
  obtain ⟨kY0, kY1, kY2, kfY0, kfY1, kfY2⟩ := DY.facts
  obtain ⟨kB0, kB1, kB2, kfB0, kfB1, kfB2⟩ := DB.facts
  have H := hid (rAsLent3_any (HX.out.2.below L.bel) (by omega) nB eB w.heap.size gY (HX.out.2.rd.below L.bel) L.size (by omega) OY)
  clear L DA DB DX DY D3 D4 D5 D6 D7 D8 N3 N4 N5 N6 N7 N8 OY
  go_wp2_with fail
  clear kY0 kY1 kY2 kfY0 kfY1 kfY2 kB0 kB1 kB2 kfB0 kfB1 kfB2
  refine (Calls.mono H.out) ?_
  rintro r U10 ⟨rfl, hb⟩
  obtain ⟨L, DA, DB, DX, DY, D3, D4, D5, D6, D7, D8, N3, N4, N5, N6, N7, N8, OY⟩ := S9.out
  have hs10 := hb.size
  have ne3 : (Value.slice a3 (ws X1).length c3).ownBlock ≠ some gY := fun e => by have := B3.out _ e; omega
  have ne4 : (Value.slice a4 (ws X1).length c4).ownBlock ≠ some gY := fun e => by have := B4.out _ e; omega
  have ne5 : (Value.slice a5 (ws X2).length c5).ownBlock ≠ some gY := fun e => by have := B5.out _ e; omega
  have ne6 : (Value.slice a6 (ws X3).length c6).ownBlock ≠ some gY := fun e => by have := B6.out _ e; omega
  have ne7 : (Value.slice a7 (ws X4).length c7).ownBlock ≠ some gY := fun e => by have := B7.out _ e; omega
  have ne8 : (Value.slice a8 (ws X5).length c8).ownBlock ≠ some gY := fun e => by have := B8.out _ e; omega
  have LN := L.but hb (by omega) (by intro v hv; simp at hv; rcases hv with rfl | rfl | rfl | rfl | rfl | rfl; all_goals assumption)
  have EA := DA.but hb (by omega)
  have EB := DB.but hb (by omega)
  have EX := DX.but hb (by omega)
  have EY := DY.but hb (by omega)
  have E3 := D3.but hb (by omega)
  have E4 := D4.but hb (by omega)
  have E5 := D5.but hb (by omega)
  have E6 := D6.but hb (by omega)
  have E7 := D7.but hb (by omega)
  have E8 := D8.but hb (by omega)
  have M3 := N3.butne hb ne3
  have M4 := N4.butne hb ne4
  have M5 := N5.butne hb ne5
  have M6 := N6.butne hb ne6
  have M7 := N7.butne hb ne7
  have M8 := N8.butne hb ne8
  have S10 := (Aside.intro (And.intro LN (And.intro EA (And.intro EB (And.intro EX (And.intro EY (And.intro E3 (And.intro E4 (And.intro E5 (And.intro E6 (And.intro E7 (And.intro E8 (And.intro M3 (And.intro M4 (And.intro M5 (And.intro M6 (And.intro M7 M8)))))))))))))))))
  clear hb H S9 L DA DB DX DY D3 D4 D5 D6 D7 D8 N3 N4 N5 N6 N7 N8 OY LN EA EB EX EY E3 E4 E5 E6 E7 E8 M3 M4 M5 M6 M7 M8 ne3 ne4 ne5 ne6 ne7 ne8
  go_upto_region 14 with fail
  obtain ⟨L, DA, DB, DX, DY, D3, D4, D5, D6, D7, D8, N3, N4, N5, N6, N7, N8⟩ := S10.out
  obtain ⟨kA0, kA1, kA2, kfA0, kfA1, kfA2⟩ := DA.facts
  obtain ⟨kB0, kB1, kB2, kfB0, kfB1, kfB2⟩ := DB.facts
  have H := hid (R1.out U10 L.bel)
  clear L DA DB DX DY D3 D4 D5 D6 D7 D8 N3 N4 N5 N6 N7 N8
  go_wp2_with fail
  clear kA0 kA1 kA2 kfA0 kfA1 kfA2 kB0 kB1 kB2 kfB0 kfB1 kfB2
  refine (Calls.mono H.out) ?_
  rintro r u11 ⟨⟨v, rfl, hN⟩, hb⟩
  obtain ⟨a11, c11, rfl, _⟩ := hN.arg (by omega)
  obtain ⟨L, DA, DB, DX, DY, D3, D4, D5, D6, D7, D8, N3, N4, N5, N6, N7, N8⟩ := S10.out
  have hs11 := hb.size
  obtain ⟨U11, hU11⟩ : ∃ U, U = u11.alloc (.cells #[.bool n1, .slice a11 (ws X1).length c11, .int .i64 e1] 38) := ⟨_, rfl⟩
  have hA : Below u11.heap.size u11 U11 := by rw [hU11]; exact below_alloc _ _
  have hz11 : u11.heap.size < U11.heap.size := by rw [hU11]; simp
  have DN : Dk U11 u11.heap.size n1 (.slice a11 (ws X1).length c11) e1 := by rw [hU11]; exact Dk.new _ _ _ _
  have B11 := Aside.intro hN.lt
  have NN := (hN.mono (lo' := w.heap.size) L.size).below hA
  have LN := (L.below hb).below hA
  have EA := (DA.below hb).below hA
  have EB := (DB.below hb).below hA
  have EX := (DX.below hb).below hA
  have EY := (DY.below hb).below hA
  have E3 := (D3.below hb).below hA
  have E4 := (D4.below hb).below hA
  have E5 := (D5.below hb).below hA
  have E6 := (D6.below hb).below hA
  have E7 := (D7.below hb).below hA
  have E8 := (D8.below hb).below hA
  have M3 := (N3.below hb).below hA
  have M4 := (N4.below hb).below hA
  have M5 := (N5.below hb).below hA
  have M6 := (N6.below hb).below hA
  have M7 := (N7.below hb).below hA
  have M8 := (N8.below hb).below hA
  have S11 := (Aside.intro (And.intro LN (And.intro EA (And.intro EB (And.intro EX (And.intro EY (And.intro E3 (And.intro E4 (And.intro E5 (And.intro E6 (And.intro E7 (And.intro E8 (And.intro DN (And.intro M3 (And.intro M4 (And.intro M5 (And.intro M6 (And.intro M7 (And.intro M8 NN)))))))))))))))))))
  clear hN hb H hA S10 L DA DB DX DY D3 D4 D5 D6 D7 D8 N3 N4 N5 N6 N7 N8 LN EA EB EX EY E3 E4 E5 E6 E7 E8 DN M3 M4 M5 M6 M7 M8 NN
  go_upto_region 15 with fail
  rw [← hU11]
  clear hU11
  obtain ⟨L, DA, DB, DX, DY, D3, D4, D5, D6, D7, D8, D11, N3, N4, N5, N6, N7, N8, N11⟩ := S11.out
  obtain ⟨kA0, kA1, kA2, kfA0, kfA1, kfA2⟩ := DA.facts
  obtain ⟨kB0, kB1, kB2, kfB0, kfB1, kfB2⟩ := DB.facts
  have H := hid (R2.out U11 L.bel)
  clear L DA DB DX DY D3 D4 D5 D6 D7 D8 D11 N3 N4 N5 N6 N7 N8 N11
  go_wp2_with fail
  clear kA0 kA1 kA2 kfA0 kfA1 kfA2 kB0 kB1 kB2 kfB0 kfB1 kfB2
  refine (Calls.mono H.out) ?_
  rintro r u12 ⟨⟨v, rfl, hN⟩, hb⟩
  obtain ⟨a12, c12, rfl, _⟩ := hN.arg (by omega)
  obtain ⟨L, DA, DB, DX, DY, D3, D4, D5, D6, D7, D8, D11, N3, N4, N5, N6, N7, N8, N11⟩ := S11.out
  have hs12 := hb.size
  obtain ⟨U12, hU12⟩ : ∃ U, U = u12.alloc (.cells #[.bool n2, .slice a12 (ws X2).length c12, .int .i64 e2] 38) := ⟨_, rfl⟩
  have hA : Below u12.heap.size u12 U12 := by rw [hU12]; exact below_alloc _ _
  have hz12 : u12.heap.size < U12.heap.size := by rw [hU12]; simp
  have DN : Dk U12 u12.heap.size n2 (.slice a12 (ws X2).length c12) e2 := by rw [hU12]; exact Dk.new _ _ _ _
  have B12 := Aside.intro hN.lt
  have NN := (hN.mono (lo' := w.heap.size) L.size).below hA
  have LN := (L.below hb).below hA
  have EA := (DA.below hb).below hA
  have EB := (DB.below hb).below hA
  have EX := (DX.below hb).below hA
  have EY := (DY.below hb).below hA
  have E3 := (D3.below hb).below hA
  have E4 := (D4.below hb).below hA
  have E5 := (D5.below hb).below hA
  have E6 := (D6.below hb).below hA
  have E7 := (D7.below hb).below hA
  have E8 := (D8.below hb).below hA
  have E11 := (D11.below hb).below hA
  have M3 := (N3.below hb).below hA
  have M4 := (N4.below hb).below hA
  have M5 := (N5.below hb).below hA
  have M6 := (N6.below hb).below hA
  have M7 := (N7.below hb).below hA
  have M8 := (N8.below hb).below hA
  have M11 := (N11.below hb).below hA
  have S12 := (Aside.intro (And.intro LN (And.intro EA (And.intro EB (And.intro EX (And.intro EY (And.intro E3 (And.intro E4 (And.intro E5 (And.intro E6 (And.intro E7 (And.intro E8 (And.intro E11 (And.intro DN (And.intro M3 (And.intro M4 (And.intro M5 (And.intro M6 (And.intro M7 (And.intro M8 (And.intro M11 NN)))))))))))))))))))))
  clear hN hb H hA S11 L DA DB DX DY D3 D4 D5 D6 D7 D8 D11 N3 N4 N5 N6 N7 N8 N11 LN EA EB EX EY E3 E4 E5 E6 E7 E8 E11 DN M3 M4 M5 M6 M7 M8 M11 NN
  go_upto_region 16 with fail
  rw [← hU12]
  clear hU12
  obtain ⟨L, DA, DB, DX, DY, D3, D4, D5, D6, D7, D8, D11, D12, N3, N4, N5, N6, N7, N8, N11, N12⟩ := S12.out
  obtain ⟨kA0, kA1, kA2, kfA0, kfA1, kfA2⟩ := DA.facts
  obtain ⟨kB0, kB1, kB2, kfB0, kfB1, kfB2⟩ := DB.facts
  have H := hid (R3.out U12 L.bel)
  clear L DA DB DX DY D3 D4 D5 D6 D7 D8 D11 D12 N3 N4 N5 N6 N7 N8 N11 N12
  go_wp2_with fail
  clear kA0 kA1 kA2 kfA0 kfA1 kfA2 kB0 kB1 kB2 kfB0 kfB1 kfB2
  refine (Calls.mono H.out) ?_
  rintro r u13 ⟨⟨v, rfl, hN⟩, hb⟩
  obtain ⟨a13, c13, rfl, _⟩ := hN.arg (by omega)
  obtain ⟨L, DA, DB, DX, DY, D3, D4, D5, D6, D7, D8, D11, D12, N3, N4, N5, N6, N7, N8, N11, N12⟩ := S12.out
  have hs13 := hb.size
  obtain ⟨U13, hU13⟩ : ∃ U, U = u13.alloc (.cells #[.bool n3, .slice a13 (ws X3).length c13, .int .i64 e3] 38) := ⟨_, rfl⟩
  have hA : Below u13.heap.size u13 U13 := by rw [hU13]; exact below_alloc _ _
  have hz13 : u13.heap.size < U13.heap.size := by rw [hU13]; simp
  have DN : Dk U13 u13.heap.size n3 (.slice a13 (ws X3).length c13) e3 := by rw [hU13]; exact Dk.new _ _ _ _
  have B13 := Aside.intro hN.lt
  have NN := (hN.mono (lo' := w.heap.size) L.size).below hA
  have LN := (L.below hb).below hA
  have EA := (DA.below hb).below hA
  have EB := (DB.below hb).below hA
  have EX := (DX.below hb).below hA
  have EY := (DY.below hb).below hA
  have E3 := (D3.below hb).below hA
  have E4 := (D4.below hb).below hA
  have E5 := (D5.below hb).below hA
  have E6 := (D6.below hb).below hA
  have E7 := (D7.below hb).below hA
  have E8 := (D8.below hb).below hA
  have E11 := (D11.below hb).below hA
  have E12 := (D12.below hb).below hA
  have M3 := (N3.below hb).below hA
  have M4 := (N4.below hb).below hA
  have M5 := (N5.below hb).below hA
  have M6 := (N6.below hb).below hA
  have M7 := (N7.below hb).below hA
  have M8 := (N8.below hb).below hA
  have M11 := (N11.below hb).below hA
  have M12 := (N12.below hb).below hA
  have S13 := (Aside.intro (And.intro LN (And.intro EA (And.intro EB (And.intro EX (And.intro EY (And.intro E3 (And.intro E4 (And.intro E5 (And.intro E6 (And.intro E7 (And.intro E8 (And.intro E11 (And.intro E12 (And.intro DN (And.intro M3 (And.intro M4 (And.intro M5 (And.intro M6 (And.intro M7 (And.intro M8 (And.intro M11 (And.intro M12 NN)))))))))))))))))))))))
  clear hN hb H hA S12 L DA DB DX DY D3 D4 D5 D6 D7 D8 D11 D12 N3 N4 N5 N6 N7 N8 N11 N12 LN EA EB EX EY E3 E4 E5 E6 E7 E8 E11 E12 DN M3 M4 M5 M6 M7 M8 M11 M12 NN
  go_upto_region 17 with fail
  rw [← hU13]
  clear hU13
  obtain ⟨L, DA, DB, DX, DY, D3, D4, D5, D6, D7, D8, D11, D12, D13, N3, N4, N5, N6, N7, N8, N11, N12, N13⟩ := S13.out
  obtain ⟨kA0, kA1, kA2, kfA0, kfA1, kfA2⟩ := DA.facts
  have H := hid (R4.out U13 L.bel)
  clear L DA DB DX DY D3 D4 D5 D6 D7 D8 D11 D12 D13 N3 N4 N5 N6 N7 N8 N11 N12 N13
  go_wp2_with fail
  clear kA0 kA1 kA2 kfA0 kfA1 kfA2
  refine (Calls.mono H.out) ?_
  rintro r u14 ⟨⟨v, rfl, hN⟩, hb⟩
  obtain ⟨a14, c14, rfl, _⟩ := hN.arg (by omega)
  obtain ⟨L, DA, DB, DX, DY, D3, D4, D5, D6, D7, D8, D11, D12, D13, N3, N4, N5, N6, N7, N8, N11, N12, N13⟩ := S13.out
  have hs14 := hb.size
  obtain ⟨U14, hU14⟩ : ∃ U, U = u14.alloc (.cells #[.bool n4, .slice a14 (ws X4).length c14, .int .i64 e4] 38) := ⟨_, rfl⟩
  have hA : Below u14.heap.size u14 U14 := by rw [hU14]; exact below_alloc _ _
  have hz14 : u14.heap.size < U14.heap.size := by rw [hU14]; simp
  have DN : Dk U14 u14.heap.size n4 (.slice a14 (ws X4).length c14) e4 := by rw [hU14]; exact Dk.new _ _ _ _
  have B14 := Aside.intro hN.lt
  have NN := (hN.mono (lo' := w.heap.size) L.size).below hA
  have LN := (L.below hb).below hA
  have EA := (DA.below hb).below hA
  have EB := (DB.below hb).below hA
  have EX := (DX.below hb).below hA
  have EY := (DY.below hb).below hA
  have E3 := (D3.below hb).below hA
  have E4 := (D4.below hb).below hA
  have E5 := (D5.below hb).below hA
  have E6 := (D6.below hb).below hA
  have E7 := (D7.below hb).below hA
  have E8 := (D8.below hb).below hA
  have E11 := (D11.below hb).below hA
  have E12 := (D12.below hb).below hA
  have E13 := (D13.below hb).below hA
  have M3 := (N3.below hb).below hA
  have M4 := (N4.below hb).below hA
  have M5 := (N5.below hb).below hA
  have M6 := (N6.below hb).below hA
  have M7 := (N7.below hb).below hA
  have M8 := (N8.below hb).below hA
  have M11 := (N11.below hb).below hA
  have M12 := (N12.below hb).below hA
  have M13 := (N13.below hb).below hA
  have S14 := (Aside.intro (And.intro LN (And.intro EA (And.intro EB (And.intro EX (And.intro EY (And.intro E3 (And.intro E4 (And.intro E5 (And.intro E6 (And.intro E7 (And.intro E8 (And.intro E11 (And.intro E12 (And.intro E13 (And.intro DN (And.intro M3 (And.intro M4 (And.intro M5 (And.intro M6 (And.intro M7 (And.intro M8 (And.intro M11 (And.intro M12 (And.intro M13 NN)))))))))))))))))))))))))
  clear hN hb H hA S13 L DA DB DX DY D3 D4 D5 D6 D7 D8 D11 D12 D13 N3 N4 N5 N6 N7 N8 N11 N12 N13 LN EA EB EX EY E3 E4 E5 E6 E7 E8 E11 E12 E13 DN M3 M4 M5 M6 M7 M8 M11 M12 M13 NN
  go_upto_region 18 with fail
  rw [← hU14]
  clear hU14
  obtain ⟨L, DA, DB, DX, DY, D3, D4, D5, D6, D7, D8, D11, D12, D13, D14, N3, N4, N5, N6, N7, N8, N11, N12, N13, N14⟩ := S14.out
  obtain ⟨kA0, kA1, kA2, kfA0, kfA1, kfA2⟩ := DA.facts
  have H := hid (R5.out U14 L.bel)
  clear L DA DB DX DY D3 D4 D5 D6 D7 D8 D11 D12 D13 D14 N3 N4 N5 N6 N7 N8 N11 N12 N13 N14
  go_wp2_with fail
  clear kA0 kA1 kA2 kfA0 kfA1 kfA2
  refine (Calls.mono H.out) ?_
  rintro r u15 ⟨⟨v, rfl, hN⟩, hb⟩
  obtain ⟨a15, c15, rfl, _⟩ := hN.arg (by omega)
  obtain ⟨L, DA, DB, DX, DY, D3, D4, D5, D6, D7, D8, D11, D12, D13, D14, N3, N4, N5, N6, N7, N8, N11, N12, N13, N14⟩ := S14.out
  have hs15 := hb.size
  obtain ⟨U15, hU15⟩ : ∃ U, U = u15.alloc (.cells #[.bool n5, .slice a15 (ws X5).length c15, .int .i64 e5] 38) := ⟨_, rfl⟩
  have hA : Below u15.heap.size u15 U15 := by rw [hU15]; exact below_alloc _ _
  have hz15 : u15.heap.size < U15.heap.size := by rw [hU15]; simp
  have DN : Dk U15 u15.heap.size n5 (.slice a15 (ws X5).length c15) e5 := by rw [hU15]; exact Dk.new _ _ _ _
  have B15 := Aside.intro hN.lt
  have NN := (hN.mono (lo' := w.heap.size) L.size).below hA
  have LN := (L.below hb).below hA
  have EA := (DA.below hb).below hA
  have EB := (DB.below hb).below hA
  have EX := (DX.below hb).below hA
  have EY := (DY.below hb).below hA
  have E3 := (D3.below hb).below hA
  have E4 := (D4.below hb).below hA
  have E5 := (D5.below hb).below hA
  have E6 := (D6.below hb).below hA
  have E7 := (D7.below hb).below hA
  have E8 := (D8.below hb).below hA
  have E11 := (D11.below hb).below hA
  have E12 := (D12.below hb).below hA
  have E13 := (D13.below hb).below hA
  have E14 := (D14.below hb).below hA
  have M3 := (N3.below hb).below hA
  have M4 := (N4.below hb).below hA
  have M5 := (N5.below hb).below hA
  have M6 := (N6.below hb).below hA
  have M7 := (N7.below hb).below hA
  have M8 := (N8.below hb).below hA
  have M11 := (N11.below hb).below hA
  have M12 := (N12.below hb).below hA
  have M13 := (N13.below hb).below hA
  have M14 := (N14.below hb).below hA
  have S15 := (Aside.intro (And.intro LN (And.intro EA (And.intro EB (And.intro EX (And.intro EY (And.intro E3 (And.intro E4 (And.intro E5 (And.intro E6 (And.intro E7 (And.intro E8 (And.intro E11 (And.intro E12 (And.intro E13 (And.intro E14 (And.intro DN (And.intro M3 (And.intro M4 (And.intro M5 (And.intro M6 (And.intro M7 (And.intro M8 (And.intro M11 (And.intro M12 (And.intro M13 (And.intro M14 NN)))))))))))))))))))))))))))
  clear hN hb H hA S14 L DA DB DX DY D3 D4 D5 D6 D7 D8 D11 D12 D13 D14 N3 N4 N5 N6 N7 N8 N11 N12 N13 N14 LN EA EB EX EY E3 E4 E5 E6 E7 E8 E11 E12 E13 E14 DN M3 M4 M5 M6 M7 M8 M11 M12 M13 M14 NN
  go_upto_region 19 with fail
  rw [← hU15]
  clear hU15
  go_upto_region 21 with fail
  obtain ⟨L, DA, DB, DX, DY, D3, D4, D5, D6, D7, D8, D11, D12, D13, D14, D15, N3, N4, N5, N6, N7, N8, N11, N12, N13, N14, N15⟩ := S15.out
  obtain ⟨k30, k31, k32, kf30, kf31, kf32⟩ := D3.facts
  obtain ⟨k40, k41, k42, kf40, kf41, kf42⟩ := D4.facts
  obtain ⟨k50, k51, k52, kf50, kf51, kf52⟩ := D5.facts
  obtain ⟨k60, k61, k62, kf60, kf61, kf62⟩ := D6.facts
  obtain ⟨k70, k71, k72, kf70, kf71, kf72⟩ := D7.facts
  obtain ⟨k80, k81, k82, kf80, kf81, kf82⟩ := D8.facts
  obtain ⟨k110, k111, k112, kf110, kf111, kf112⟩ := D11.facts
  obtain ⟨k120, k121, k122, kf120, kf121, kf122⟩ := D12.facts
  obtain ⟨k130, k131, k132, kf130, kf131, kf132⟩ := D13.facts
  obtain ⟨k140, k141, k142, kf140, kf141, kf142⟩ := D14.facts
  obtain ⟨k150, k151, k152, kf150, kf151, kf152⟩ := D15.facts
  have hlt3 : u3.heap.size < U15.heap.size := by omega
  have hlt4 : u4.heap.size < U15.heap.size := by omega
  have hlt5 : u5.heap.size < U15.heap.size := by omega
  have hlt6 : u6.heap.size < U15.heap.size := by omega
  have hlt7 : u7.heap.size < U15.heap.size := by omega
  have hlt8 : u8.heap.size < U15.heap.size := by omega
  have hlt11 : u11.heap.size < U15.heap.size := by omega
  have hlt12 : u12.heap.size < U15.heap.size := by omega
  have hlt13 : u13.heap.size < U15.heap.size := by omega
  have hlt14 : u14.heap.size < U15.heap.size := by omega
  have hlt15 : u15.heap.size < U15.heap.size := by omega
  have hw : Below U15.heap.size U15 ((U15.alloc (.cells #[.bool n1, .slice a3 (ws X1).length c3, .int .i64 e1, .bool n1, .slice a4 (ws X1).length c4, .int .i64 e1, .bool n2, .slice a5 (ws X2).length c5, .int .i64 e2, .bool n3, .slice a6 (ws X3).length c6, .int .i64 e3, .bool n4, .slice a7 (ws X4).length c7, .int .i64 e4, .bool n5, .slice a8 (ws X5).length c8, .int .i64 e5] 38)).alloc (.cells #[.bool n1, .slice a11 (ws X1).length c11, .int .i64 e1, .bool n1, .slice a11 (ws X1).length c11, .int .i64 e1, .bool n2, .slice a12 (ws X2).length c12, .int .i64 e2, .bool n3, .slice a13 (ws X3).length c13, .int .i64 e3, .bool n4, .slice a14 (ws X4).length c14, .int .i64 e4, .bool n5, .slice a15 (ws X5).length c15, .int .i64 e5] 38)) := (below_alloc U15 _).alloc (by simp) _
  have hC : ((U15.alloc (.cells #[.bool n1, .slice a3 (ws X1).length c3, .int .i64 e1, .bool n1, .slice a4 (ws X1).length c4, .int .i64 e1, .bool n2, .slice a5 (ws X2).length c5, .int .i64 e2, .bool n3, .slice a6 (ws X3).length c6, .int .i64 e3, .bool n4, .slice a7 (ws X4).length c7, .int .i64 e4, .bool n5, .slice a8 (ws X5).length c8, .int .i64 e5] 38)).alloc (.cells #[.bool n1, .slice a11 (ws X1).length c11, .int .i64 e1, .bool n1, .slice a11 (ws X1).length c11, .int .i64 e1, .bool n2, .slice a12 (ws X2).length c12, .int .i64 e2, .bool n3, .slice a13 (ws X3).length c13, .int .i64 e3, .bool n4, .slice a14 (ws X4).length c14, .int .i64 e4, .bool n5, .slice a15 (ws X5).length c15, .int .i64 e5] 38)).heap[U15.heap.size]? = some (.cells (flat6 It.v ⟨n1, .slice a3 (ws X1).length c3, e1, .slice a11 (ws X1).length c11, X1⟩ ⟨n1, .slice a4 (ws X1).length c4, e1, .slice a11 (ws X1).length c11, X1⟩ ⟨n2, .slice a5 (ws X2).length c5, e2, .slice a12 (ws X2).length c12, X2⟩ ⟨n3, .slice a6 (ws X3).length c6, e3, .slice a13 (ws X3).length c13, X3⟩ ⟨n4, .slice a7 (ws X4).length c7, e4, .slice a14 (ws X4).length c14, X4⟩ ⟨n5, .slice a8 (ws X5).length c8, e5, .slice a15 (ws X5).length c15, X5⟩) 38 (0, 0)) := by rw [Below.heap_alloc _ _ _ (by simp)]; exact heap_alloc_new _ _
  have hW : ((U15.alloc (.cells #[.bool n1, .slice a3 (ws X1).length c3, .int .i64 e1, .bool n1, .slice a4 (ws X1).length c4, .int .i64 e1, .bool n2, .slice a5 (ws X2).length c5, .int .i64 e2, .bool n3, .slice a6 (ws X3).length c6, .int .i64 e3, .bool n4, .slice a7 (ws X4).length c7, .int .i64 e4, .bool n5, .slice a8 (ws X5).length c8, .int .i64 e5] 38)).alloc (.cells #[.bool n1, .slice a11 (ws X1).length c11, .int .i64 e1, .bool n1, .slice a11 (ws X1).length c11, .int .i64 e1, .bool n2, .slice a12 (ws X2).length c12, .int .i64 e2, .bool n3, .slice a13 (ws X3).length c13, .int .i64 e3, .bool n4, .slice a14 (ws X4).length c14, .int .i64 e4, .bool n5, .slice a15 (ws X5).length c15, .int .i64 e5] 38)).heap[U15.heap.size + 1]? = some (.cells (flat6 It.u ⟨n1, .slice a3 (ws X1).length c3, e1, .slice a11 (ws X1).length c11, X1⟩ ⟨n1, .slice a4 (ws X1).length c4, e1, .slice a11 (ws X1).length c11, X1⟩ ⟨n2, .slice a5 (ws X2).length c5, e2, .slice a12 (ws X2).length c12, X2⟩ ⟨n3, .slice a6 (ws X3).length c6, e3, .slice a13 (ws X3).length c13, X3⟩ ⟨n4, .slice a7 (ws X4).length c7, e4, .slice a14 (ws X4).length c14, X4⟩ ⟨n5, .slice a8 (ws X5).length c8, e5, .slice a15 (ws X5).length c15, X5⟩) 38 (0, 0)) := by have h := heap_alloc_new (U15.alloc (.cells #[.bool n1, .slice a3 (ws X1).length c3, .int .i64 e1, .bool n1, .slice a4 (ws X1).length c4, .int .i64 e1, .bool n2, .slice a5 (ws X2).length c5, .int .i64 e2, .bool n3, .slice a6 (ws X3).length c6, .int .i64 e3, .bool n4, .slice a7 (ws X4).length c7, .int .i64 e4, .bool n5, .slice a8 (ws X5).length c8, .int .i64 e5] 38)) (.cells #[.bool n1, .slice a11 (ws X1).length c11, .int .i64 e1, .bool n1, .slice a11 (ws X1).length c11, .int .i64 e1, .bool n2, .slice a12 (ws X2).length c12, .int .i64 e2, .bool n3, .slice a13 (ws X3).length c13, .int .i64 e3, .bool n4, .slice a14 (ws X4).length c14, .int .i64 e4, .bool n5, .slice a15 (ws X5).length c15, .int .i64 e5] 38); rw [show (U15.alloc (.cells #[.bool n1, .slice a3 (ws X1).length c3, .int .i64 e1, .bool n1, .slice a4 (ws X1).length c4, .int .i64 e1, .bool n2, .slice a5 (ws X2).length c5, .int .i64 e2, .bool n3, .slice a6 (ws X3).length c6, .int .i64 e3, .bool n4, .slice a7 (ws X4).length c7, .int .i64 e4, .bool n5, .slice a8 (ws X5).length c8, .int .i64 e5] 38)).heap.size = U15.heap.size + 1 by simp] at h; exact h
  have hI : ∀ it ∈ it6 ⟨n1, .slice a3 (ws X1).length c3, e1, .slice a11 (ws X1).length c11, X1⟩ ⟨n1, .slice a4 (ws X1).length c4, e1, .slice a11 (ws X1).length c11, X1⟩ ⟨n2, .slice a5 (ws X2).length c5, e2, .slice a12 (ws X2).length c12, X2⟩ ⟨n3, .slice a6 (ws X3).length c6, e3, .slice a13 (ws X3).length c13, X3⟩ ⟨n4, .slice a7 (ws X4).length c7, e4, .slice a14 (ws X4).length c14, X4⟩ ⟨n5, .slice a8 (ws X5).length c8, e5, .slice a15 (ws X5).length c15, X5⟩, Nt w.heap.size ((U15.alloc (.cells #[.bool n1, .slice a3 (ws X1).length c3, .int .i64 e1, .bool n1, .slice a4 (ws X1).length c4, .int .i64 e1, .bool n2, .slice a5 (ws X2).length c5, .int .i64 e2, .bool n3, .slice a6 (ws X3).length c6, .int .i64 e3, .bool n4, .slice a7 (ws X4).length c7, .int .i64 e4, .bool n5, .slice a8 (ws X5).length c8, .int .i64 e5] 38)).alloc (.cells #[.bool n1, .slice a11 (ws X1).length c11, .int .i64 e1, .bool n1, .slice a11 (ws X1).length c11, .int .i64 e1, .bool n2, .slice a12 (ws X2).length c12, .int .i64 e2, .bool n3, .slice a13 (ws X3).length c13, .int .i64 e3, .bool n4, .slice a14 (ws X4).length c14, .int .i64 e4, .bool n5, .slice a15 (ws X5).length c15, .int .i64 e5] 38)) it.v it.X ∧ Nt w.heap.size ((U15.alloc (.cells #[.bool n1, .slice a3 (ws X1).length c3, .int .i64 e1, .bool n1, .slice a4 (ws X1).length c4, .int .i64 e1, .bool n2, .slice a5 (ws X2).length c5, .int .i64 e2, .bool n3, .slice a6 (ws X3).length c6, .int .i64 e3, .bool n4, .slice a7 (ws X4).length c7, .int .i64 e4, .bool n5, .slice a8 (ws X5).length c8, .int .i64 e5] 38)).alloc (.cells #[.bool n1, .slice a11 (ws X1).length c11, .int .i64 e1, .bool n1, .slice a11 (ws X1).length c11, .int .i64 e1, .bool n2, .slice a12 (ws X2).length c12, .int .i64 e2, .bool n3, .slice a13 (ws X3).length c13, .int .i64 e3, .bool n4, .slice a14 (ws X4).length c14, .int .i64 e4, .bool n5, .slice a15 (ws X5).length c15, .int .i64 e5] 38)) it.u it.X ∧ (ws it.X).length ≤ 8192 := by
    intro it h
    simp only [it6, List.mem_cons, List.not_mem_nil, or_false] at h
    rcases h with rfl | rfl | rfl | rfl | rfl | rfl
    · exact ⟨N3.below hw, N11.below hw, l1⟩
    · exact ⟨N4.below hw, N11.below hw, l1⟩
    · exact ⟨N5.below hw, N12.below hw, l2⟩
    · exact ⟨N6.below hw, N13.below hw, l3⟩
    · exact ⟨N7.below hw, N14.below hw, l4⟩
    · exact ⟨N8.below hw, N15.below hw, l5⟩
  have TK := hid (took6 ⟨n1, .slice a3 (ws X1).length c3, e1, .slice a11 (ws X1).length c11, X1⟩ ⟨n1, .slice a4 (ws X1).length c4, e1, .slice a11 (ws X1).length c11, X1⟩ ⟨n2, .slice a5 (ws X2).length c5, e2, .slice a12 (ws X2).length c12, X2⟩ ⟨n3, .slice a6 (ws X3).length c6, e3, .slice a13 (ws X3).length c13, X3⟩ ⟨n4, .slice a7 (ws X4).length c7, e4, .slice a14 (ws X4).length c14, X4⟩ ⟨n5, .slice a8 (ws X5).length c8, e5, .slice a15 (ws X5).length c15, X5⟩ U15.heap.size (U15.heap.size + 1) w ((U15.alloc (.cells #[.bool n1, .slice a3 (ws X1).length c3, .int .i64 e1, .bool n1, .slice a4 (ws X1).length c4, .int .i64 e1, .bool n2, .slice a5 (ws X2).length c5, .int .i64 e2, .bool n3, .slice a6 (ws X3).length c6, .int .i64 e3, .bool n4, .slice a7 (ws X4).length c7, .int .i64 e4, .bool n5, .slice a8 (ws X5).length c8, .int .i64 e5] 38)).alloc (.cells #[.bool n1, .slice a11 (ws X1).length c11, .int .i64 e1, .bool n1, .slice a11 (ws X1).length c11, .int .i64 e1, .bool n2, .slice a12 (ws X2).length c12, .int .i64 e2, .bool n3, .slice a13 (ws X3).length c13, .int .i64 e3, .bool n4, .slice a14 (ws X4).length c14, .int .i64 e4, .bool n5, .slice a15 (ws X5).length c15, .int .i64 e5] 38)) (L.below hw) hC hW hI)
  clear hw hC hW hI L DA DB DX DY D3 D4 D5 D6 D7 D8 D11 D12 D13 D14 D15 N3 N4 N5 N6 N7 N8 N11 N12 N13 N14 N15
  go_wp2_with fail
  with_reducible refine (Calls.mono TK.out) ?_
  rintro r uE ⟨rfl, hb, hk⟩
  have SE := Aside.intro hb
  clear hb hk TK
  go_wp2
  go_ret
  exact ⟨rfl, SE.out⟩
end Go.Proofs.YtonhahbmdekkdaaDoor
