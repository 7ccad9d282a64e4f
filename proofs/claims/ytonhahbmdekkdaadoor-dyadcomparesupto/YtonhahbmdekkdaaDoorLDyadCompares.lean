/- DyadCompares: the walk. -/
import Derived.Test.YtonhahbmdekkdaaDoorD34
import Derived.Test.YtonhahbmdekkdaaDoorD35
import Derived.Deep.Cut
import Derived.Deep.RegionHeld3
namespace Go.Proofs.YtonhahbmdekkdaaDoor
open Go.RowKit
set_option linter.unusedVariables false
set_option maxRecDepth 20000
set_option linter.unusedSimpArgs false

theorem size_allocC (w : World) (o : Obj) : (w.alloc o).heap.size = w.heap.size + 1 := by simp

set_option maxHeartbeats 16000000 in
set_option maxRecDepth 100000 in
theorem compares_core (nA nB : Bool) (aA aB : Option Addr) (lA cA lB cB : Nat) (xs ys : List Nat) (eA eB : Int) (w : World) (bA : lA ≤ 1048576) (bB : lB ≤ 1048576) (w0 : Arg w aA lA cA xs) (w1 : Arg w aB lB cB ys) (hT : Tab w)
    (n1 n2 : Bool) (X1 X2 : Nat) (e1 e2 : Int) (l1 : (ws X1).length ≤ 8192) (l2 : (ws X2).length ≤ 8192) (cv sx sy : Int) (bc0 : -1 ≤ cv) (bc1 : cv ≤ 1)
    (HNX : Hid (∀ (u : World) (p : Option Addr) (s : Nat), Below w.heap.size w u → Arg u p lA s xs → Calls Tryd.prog 29 #[.agg #[.bool nA, .slice p lA s, .int .i64 eA]] u fun r w' => (∃ v, r = .returned (.agg #[.bool n1, v, .int .i64 e1]) ∧ Nt u.heap.size w' v X1) ∧ Below u.heap.size u w'))
    (HNY : Hid (∀ (u : World) (p : Option Addr) (s : Nat), Below w.heap.size w u → Arg u p lB s ys → Calls Tryd.prog 29 #[.agg #[.bool nB, .slice p lB s, .int .i64 eB]] u fun r w' => (∃ v, r = .returned (.agg #[.bool n2, v, .int .i64 e2]) ∧ Nt u.heap.size w' v X2) ∧ Below u.heap.size u w'))
    (HCXY : Hid (∀ (u : World) (p q : Option Addr) (s t : Nat), Below w.heap.size w u → Arg u p lA s xs → Arg u q lB t ys → Calls Tryd.prog 30 #[.agg #[.bool nA, .slice p lA s, .int .i64 eA], .agg #[.bool nB, .slice q lB t, .int .i64 eB]] u fun r w' => r = .returned (.int .i64 cv) ∧ Below u.heap.size u w'))
    (HCYX : Hid (∀ (u : World) (p q : Option Addr) (s t : Nat), Below w.heap.size w u → Arg u p lA s xs → Arg u q lB t ys → Calls Tryd.prog 30 #[.agg #[.bool nB, .slice q lB t, .int .i64 eB], .agg #[.bool nA, .slice p lA s, .int .i64 eA]] u fun r w' => r = .returned (.int .i64 (-cv)) ∧ Below u.heap.size u w'))
    (HCXX : Hid (∀ (u : World) (p : Option Addr) (s : Nat), Below w.heap.size w u → Arg u p lA s xs → Calls Tryd.prog 30 #[.agg #[.bool nA, .slice p lA s, .int .i64 eA], .agg #[.bool nA, .slice p lA s, .int .i64 eA]] u fun r w' => r = .returned (.int .i64 0) ∧ Below u.heap.size u w'))
    (HSX : Hid (∀ (u : World) (p : Option Addr) (s : Nat), Below w.heap.size w u → Arg u p lA s xs → Calls Tryd.prog 31 #[.agg #[.bool nA, .slice p lA s, .int .i64 eA]] u fun r w' => r = .returned (.int .i64 sx) ∧ Below u.heap.size u w'))
    (HSY : Hid (∀ (u : World) (p : Option Addr) (s : Nat), Below w.heap.size w u → Arg u p lB s ys → Calls Tryd.prog 31 #[.agg #[.bool nB, .slice p lB s, .int .i64 eB]] u fun r w' => r = .returned (.int .i64 sy) ∧ Below u.heap.size u w'))
    (RC : Hid (∀ u, Below w.heap.size w u → Calls Tryd.prog 32 #[.agg #[.bool nA, .slice aA lA cA, .int .i64 eA], .agg #[.bool nB, .slice aB lB cB, .int .i64 eB]] u fun r w' => r = .returned (.int .i64 cv) ∧ Below u.heap.size u w'))
    (RSA : Hid (∀ u, Below w.heap.size w u → Calls Tryd.prog 33 #[.agg #[.bool nA, .slice aA lA cA, .int .i64 eA]] u fun r w' => r = .returned (.int .i64 sx) ∧ Below u.heap.size u w'))
    (RSB : Hid (∀ u, Below w.heap.size w u → Calls Tryd.prog 33 #[.agg #[.bool nB, .slice aB lB cB, .int .i64 eB]] u fun r w' => r = .returned (.int .i64 sy) ∧ Below u.heap.size u w'))
    (RNA : Hid (∀ u, Below w.heap.size w u → Calls Tryd.prog 34 #[.agg #[.bool nA, .slice aA lA cA, .int .i64 eA]] u fun r w' => (∃ v, r = .returned (.agg #[.bool n1, v, .int .i64 e1]) ∧ Nt u.heap.size w' v X1) ∧ Below u.heap.size u w'))
    (RNB : Hid (∀ u, Below w.heap.size w u → Calls Tryd.prog 34 #[.agg #[.bool nB, .slice aB lB cB, .int .i64 eB]] u fun r w' => (∃ v, r = .returned (.agg #[.bool n2, v, .int .i64 e2]) ∧ Nt u.heap.size w' v X2) ∧ Below u.heap.size u w')) :
    Calls Tryd.prog 6 #[.agg #[.bool nA, .slice aA lA cA, .int .i64 eA], .agg #[.bool nB, .slice aB lB cB, .int .i64 eB]] w fun r w' => r = .returned (.bool true) ∧ Below w.heap.size w w' := by
  obtain ⟨W1, hW1⟩ : ∃ W, W = (w.alloc (.cells #[.bool nA, .slice aA lA cA, .int .i64 eA] 38)).alloc (.cells #[.bool nB, .slice aB lB cB, .int .i64 eB] 38) := ⟨_, rfl⟩
  have hB : Below w.heap.size w W1 := by rw [hW1]; exact (below_alloc w _).alloc (by simp) _
  have hz : W1.heap.size = w.heap.size + 2 := by rw [hW1]; simp
  have DA : Dk W1 w.heap.size nA (.slice aA lA cA) eA := by rw [hW1]; exact (Dk.new w nA (.slice aA lA cA) eA).alloc _
  have DB : Dk W1 (w.heap.size + 1) nB (.slice aB lB cB) eB := by rw [hW1]; have := Dk.new (w.alloc (.cells #[.bool nA, .slice aA lA cA, .int .i64 eA] 38)) nB (.slice aB lB cB) eB; simpa using this
  have AW := hid (awake3_any W1 (hT.belows hB))
  have hq : w.heap.size + 1 < W1.heap.size := by omega
  have en : IntKind.i64.wrap (-cv) = -cv := by rw [IntKind.wrap_i64]; omega
  have SB := (Aside.intro (And.intro hB (And.intro DA DB)))
  have HX := (Aside.intro (And.intro w0 w1))
  clear w0 w1 hT hB hz DA DB
  go_enter Tryd.func6, Tryd.ntmps6
  go_wp2_with fail
  rw [← hW1]
  clear hW1
  refine (Calls.mono AW.out) ?_
  rintro r U0 ⟨rfl, hb⟩
  have hs0 := hb.size
  have L0 : Led w.heap.size w U0 [] := ⟨SB.out.1.trans (hb.mono (by omega)), by omega, Nice.nil _ _⟩
  have S0 := (Aside.intro (And.intro L0 (And.intro (SB.out.2.1.below hb) (SB.out.2.2.below hb))))
  clear hb AW L0 SB
  go_upto_region 4 with fail
  obtain ⟨L, DA, DB⟩ := S0.out
  obtain ⟨kA0, kA1, kA2, kfA0, kfA1, kfA2⟩ := DA.facts
  have H := hid (rLent3_any (HX.out.1.below L.bel) (by omega) nA eA)
  clear L DA DB
  go_wp2_with fail
  clear kA0 kA1 kA2 kfA0 kfA1 kfA2
  refine (Calls.mono H.out) ?_
  rintro r u1 ⟨gX, rfl, hgX, hO, hb⟩
  obtain ⟨L, DA, DB⟩ := S0.out
  have hs1 := hb.size
  have hGX : gX < u1.heap.size := hO.lt
  obtain ⟨U1, hU1⟩ : ∃ U, U = u1.alloc (.cells #[.bool nA, .slice (some ⟨gX, 0, none⟩) lA (lA + 2), .int .i64 eA] 38) := ⟨_, rfl⟩
  have hA : Below u1.heap.size u1 U1 := by rw [hU1]; exact below_alloc _ _
  have hz1 : u1.heap.size < U1.heap.size := by rw [hU1]; simp
  have DN : Dk U1 u1.heap.size nA (.slice (some ⟨gX, 0, none⟩) lA (lA + 2)) eA := by rw [hU1]; exact Dk.new _ _ _ _
  have LN := (L.below hb).below hA
  have EA := (DA.below hb).below hA
  have EB := (DB.below hb).below hA
  have ON := hO.below hA hO.lt
  have S1 := (Aside.intro (And.intro LN (And.intro EA (And.intro EB (And.intro DN ON)))))
  clear hO hb H hA S0 L DA DB LN EA EB DN ON
  go_upto_region 5 with fail
  rw [← hU1]
  clear hU1
  obtain ⟨L, DA, DB, DX, OX⟩ := S1.out
  obtain ⟨kB0, kB1, kB2, kfB0, kfB1, kfB2⟩ := DB.facts
  have H := hid (rLent3_any (HX.out.2.below L.bel) (by omega) nB eB)
  clear L DA DB DX OX
  go_wp2_with fail
  clear kB0 kB1 kB2 kfB0 kfB1 kfB2
  refine (Calls.mono H.out) ?_
  rintro r u2 ⟨gY, rfl, hgY, hO, hb⟩
  obtain ⟨L, DA, DB, DX, OX⟩ := S1.out
  have hs2 := hb.size
  have hGY : gY < u2.heap.size := hO.lt
  obtain ⟨U2, hU2⟩ : ∃ U, U = u2.alloc (.cells #[.bool nB, .slice (some ⟨gY, 0, none⟩) lB (lB + 2), .int .i64 eB] 38) := ⟨_, rfl⟩
  have hA : Below u2.heap.size u2 U2 := by rw [hU2]; exact below_alloc _ _
  have hz2 : u2.heap.size < U2.heap.size := by rw [hU2]; simp
  have DN : Dk U2 u2.heap.size nB (.slice (some ⟨gY, 0, none⟩) lB (lB + 2)) eB := by rw [hU2]; exact Dk.new _ _ _ _
  have LN := (L.below hb).below hA
  have EA := (DA.below hb).below hA
  have EB := (DB.below hb).below hA
  have EX := (DX.below hb).below hA
  have QX := (OX.below hb OX.lt).below hA (OX.below hb OX.lt).lt
  have ON := hO.below hA hO.lt
  have S2 := (Aside.intro (And.intro LN (And.intro EA (And.intro EB (And.intro EX (And.intro DN (And.intro QX ON)))))))
  clear hO hb H hA S1 L DA DB DX OX LN EA EB EX DN QX ON
  go_upto_region 6 with fail
  rw [← hU2]
  clear hU2
  obtain ⟨L, DA, DB, DX, DY, OX, OY⟩ := S2.out
  obtain ⟨kX0, kX1, kX2, kfX0, kfX1, kfX2⟩ := DX.facts
  have H := hid (HNX.out U2 (some ⟨gX, 0, none⟩) (lA + 2) L.bel (lent_arg HX.out.1.len (by omega) HX.out.1.wf OX))
  clear L DA DB DX DY OX OY
  go_wp2_with fail
  clear kX0 kX1 kX2 kfX0 kfX1 kfX2
  refine (Calls.mono H.out) ?_
  rintro r u3 ⟨⟨v, rfl, hN⟩, hb⟩
  obtain ⟨a3, c3, rfl, _⟩ := hN.arg (by omega)
  obtain ⟨L, DA, DB, DX, DY, OX, OY⟩ := S2.out
  have hs3 := hb.size
  obtain ⟨U3, hU3⟩ : ∃ U, U = u3.alloc (.cells #[.bool n1, .slice a3 (ws X1).length c3, .int .i64 e1] 38) := ⟨_, rfl⟩
  have hA : Below u3.heap.size u3 U3 := by rw [hU3]; exact below_alloc _ _
  have hz3 : u3.heap.size < U3.heap.size := by rw [hU3]; simp
  have DN : Dk U3 u3.heap.size n1 (.slice a3 (ws X1).length c3) e1 := by rw [hU3]; exact Dk.new _ _ _ _
  have B3 := Aside.intro hN.lt
  have NN := (hN.mono (lo' := w.heap.size) L.size).below hA
  have LN := (L.add hb hN l1).below hA
  have EA := (DA.below hb).below hA
  have EB := (DB.below hb).below hA
  have EX := (DX.below hb).below hA
  have EY := (DY.below hb).below hA
  have QX := (OX.below hb OX.lt).below hA (OX.below hb OX.lt).lt
  have QY := (OY.below hb OY.lt).below hA (OY.below hb OY.lt).lt
  have S3 := (Aside.intro (And.intro LN (And.intro EA (And.intro EB (And.intro EX (And.intro EY (And.intro DN (And.intro NN (And.intro QX QY)))))))))
  clear hN hb H hA S2 L DA DB DX DY OX OY LN EA EB EX EY DN NN QX QY
  go_upto_region 7 with fail
  rw [← hU3]
  clear hU3
  obtain ⟨L, DA, DB, DX, DY, D3, N3, OX, OY⟩ := S3.out
  obtain ⟨kY0, kY1, kY2, kfY0, kfY1, kfY2⟩ := DY.facts
  have H := hid (HNY.out U3 (some ⟨gY, 0, none⟩) (lB + 2) L.bel (lent_arg HX.out.2.len (by omega) HX.out.2.wf OY))
  clear L DA DB DX DY D3 N3 OX OY
  go_wp2_with fail
  clear kY0 kY1 kY2 kfY0 kfY1 kfY2
  refine (Calls.mono H.out) ?_
  rintro r u4 ⟨⟨v, rfl, hN⟩, hb⟩
  obtain ⟨a4, c4, rfl, _⟩ := hN.arg (by omega)
  obtain ⟨L, DA, DB, DX, DY, D3, N3, OX, OY⟩ := S3.out
  have hs4 := hb.size
  obtain ⟨U4, hU4⟩ : ∃ U, U = u4.alloc (.cells #[.bool n2, .slice a4 (ws X2).length c4, .int .i64 e2] 38) := ⟨_, rfl⟩
  have hA : Below u4.heap.size u4 U4 := by rw [hU4]; exact below_alloc _ _
  have hz4 : u4.heap.size < U4.heap.size := by rw [hU4]; simp
  have DN : Dk U4 u4.heap.size n2 (.slice a4 (ws X2).length c4) e2 := by rw [hU4]; exact Dk.new _ _ _ _
  have B4 := Aside.intro hN.lt
  have NN := (hN.mono (lo' := w.heap.size) L.size).below hA
  have LN := (L.add hb hN l2).below hA
  have EA := (DA.below hb).below hA
  have EB := (DB.below hb).below hA
  have EX := (DX.below hb).below hA
  have EY := (DY.below hb).below hA
  have E3 := (D3.below hb).below hA
  have M3 := (N3.below hb).below hA
  have QX := (OX.below hb OX.lt).below hA (OX.below hb OX.lt).lt
  have QY := (OY.below hb OY.lt).below hA (OY.below hb OY.lt).lt
  have S4 := (Aside.intro (And.intro LN (And.intro EA (And.intro EB (And.intro EX (And.intro EY (And.intro E3 (And.intro DN (And.intro M3 (And.intro NN (And.intro QX QY)))))))))))
  clear hN hb H hA S3 L DA DB DX DY D3 N3 OX OY LN EA EB EX EY E3 DN M3 NN QX QY
  go_upto_region 8 with fail
  rw [← hU4]
  clear hU4
  obtain ⟨L, DA, DB, DX, DY, D3, D4, N3, N4, OX, OY⟩ := S4.out
  obtain ⟨kX0, kX1, kX2, kfX0, kfX1, kfX2⟩ := DX.facts
  obtain ⟨kY0, kY1, kY2, kfY0, kfY1, kfY2⟩ := DY.facts
  have H := hid (HCXY.out U4 (some ⟨gX, 0, none⟩) (some ⟨gY, 0, none⟩) (lA + 2) (lB + 2) L.bel (lent_arg HX.out.1.len (by omega) HX.out.1.wf OX) (lent_arg HX.out.2.len (by omega) HX.out.2.wf OY))
  clear L DA DB DX DY D3 D4 N3 N4 OX OY
  go_wp2_with fail
  clear kX0 kX1 kX2 kfX0 kfX1 kfX2 kY0 kY1 kY2 kfY0 kfY1 kfY2
  refine (Calls.mono H.out) ?_
  rintro r U5 ⟨rfl, hb⟩
  obtain ⟨L, DA, DB, DX, DY, D3, D4, N3, N4, OX, OY⟩ := S4.out
  have hs5 := hb.size
  have LN := L.below hb
  have EA := (DA.below hb)
  have EB := (DB.below hb)
  have EX := (DX.below hb)
  have EY := (DY.below hb)
  have E3 := (D3.below hb)
  have E4 := (D4.below hb)
  have M3 := N3.below hb
  have M4 := N4.below hb
  have QX := OX.below hb OX.lt
  have QY := OY.below hb OY.lt
  have S5 := (Aside.intro (And.intro LN (And.intro EA (And.intro EB (And.intro EX (And.intro EY (And.intro E3 (And.intro E4 (And.intro M3 (And.intro M4 (And.intro QX QY)))))))))))
  clear hb H S4 L DA DB DX DY D3 D4 N3 N4 OX OY LN EA EB EX EY E3 E4 M3 M4 QX QY
  go_upto_region 9 with fail
  obtain ⟨L, DA, DB, DX, DY, D3, D4, N3, N4, OX, OY⟩ := S5.out
  obtain ⟨kX0, kX1, kX2, kfX0, kfX1, kfX2⟩ := DX.facts
  obtain ⟨kY0, kY1, kY2, kfY0, kfY1, kfY2⟩ := DY.facts
  have H := hid (HCYX.out U5 (some ⟨gX, 0, none⟩) (some ⟨gY, 0, none⟩) (lA + 2) (lB + 2) L.bel (lent_arg HX.out.1.len (by omega) HX.out.1.wf OX) (lent_arg HX.out.2.len (by omega) HX.out.2.wf OY))
  clear L DA DB DX DY D3 D4 N3 N4 OX OY
  go_wp2_with fail
  clear kX0 kX1 kX2 kfX0 kfX1 kfX2 kY0 kY1 kY2 kfY0 kfY1 kfY2
  refine (Calls.mono H.out) ?_
  rintro r U6 ⟨rfl, hb⟩
  obtain ⟨L, DA, DB, DX, DY, D3, D4, N3, N4, OX, OY⟩ := S5.out
  have hs6 := hb.size
  have LN := L.below hb
  have EA := (DA.below hb)
  have EB := (DB.below hb)
  have EX := (DX.below hb)
  have EY := (DY.below hb)
  have E3 := (D3.below hb)
  have E4 := (D4.below hb)
  have M3 := N3.below hb
  have M4 := N4.below hb
  have QX := OX.below hb OX.lt
  have QY := OY.below hb OY.lt
  have S6 := (Aside.intro (And.intro LN (And.intro EA (And.intro EB (And.intro EX (And.intro EY (And.intro E3 (And.intro E4 (And.intro M3 (And.intro M4 (And.intro QX QY)))))))))))
  clear hb H S5 L DA DB DX DY D3 D4 N3 N4 OX OY LN EA EB EX EY E3 E4 M3 M4 QX QY
  go_upto_region 10 with fail
  obtain ⟨L, DA, DB, DX, DY, D3, D4, N3, N4, OX, OY⟩ := S6.out
  obtain ⟨kX0, kX1, kX2, kfX0, kfX1, kfX2⟩ := DX.facts
  have H := hid (HCXX.out U6 (some ⟨gX, 0, none⟩) (lA + 2) L.bel (lent_arg HX.out.1.len (by omega) HX.out.1.wf OX))
  clear L DA DB DX DY D3 D4 N3 N4 OX OY
  go_wp2_with fail
  clear kX0 kX1 kX2 kfX0 kfX1 kfX2
  refine (Calls.mono H.out) ?_
  rintro r U7 ⟨rfl, hb⟩
  obtain ⟨L, DA, DB, DX, DY, D3, D4, N3, N4, OX, OY⟩ := S6.out
  have hs7 := hb.size
  have LN := L.below hb
  have EA := (DA.below hb)
  have EB := (DB.below hb)
  have EX := (DX.below hb)
  have EY := (DY.below hb)
  have E3 := (D3.below hb)
  have E4 := (D4.below hb)
  have M3 := N3.below hb
  have M4 := N4.below hb
  have QX := OX.below hb OX.lt
  have QY := OY.below hb OY.lt
  have S7 := (Aside.intro (And.intro LN (And.intro EA (And.intro EB (And.intro EX (And.intro EY (And.intro E3 (And.intro E4 (And.intro M3 (And.intro M4 (And.intro QX QY)))))))))))
  clear hb H S6 L DA DB DX DY D3 D4 N3 N4 OX OY LN EA EB EX EY E3 E4 M3 M4 QX QY
  go_upto_region 11 with fail
  obtain ⟨L, DA, DB, DX, DY, D3, D4, N3, N4, OX, OY⟩ := S7.out
  obtain ⟨kX0, kX1, kX2, kfX0, kfX1, kfX2⟩ := DX.facts
  have H := hid (HSX.out U7 (some ⟨gX, 0, none⟩) (lA + 2) L.bel (lent_arg HX.out.1.len (by omega) HX.out.1.wf OX))
  clear L DA DB DX DY D3 D4 N3 N4 OX OY
  go_wp2_with fail
  clear kX0 kX1 kX2 kfX0 kfX1 kfX2
  refine (Calls.mono H.out) ?_
  rintro r U8 ⟨rfl, hb⟩
  obtain ⟨L, DA, DB, DX, DY, D3, D4, N3, N4, OX, OY⟩ := S7.out
  have hs8 := hb.size
  have LN := L.below hb
  have EA := (DA.below hb)
  have EB := (DB.below hb)
  have EX := (DX.below hb)
  have EY := (DY.below hb)
  have E3 := (D3.below hb)
  have E4 := (D4.below hb)
  have M3 := N3.below hb
  have M4 := N4.below hb
  have QX := OX.below hb OX.lt
  have QY := OY.below hb OY.lt
  have S8 := (Aside.intro (And.intro LN (And.intro EA (And.intro EB (And.intro EX (And.intro EY (And.intro E3 (And.intro E4 (And.intro M3 (And.intro M4 (And.intro QX QY)))))))))))
  clear hb H S7 L DA DB DX DY D3 D4 N3 N4 OX OY LN EA EB EX EY E3 E4 M3 M4 QX QY
  go_upto_region 12 with fail
  obtain ⟨L, DA, DB, DX, DY, D3, D4, N3, N4, OX, OY⟩ := S8.out
  obtain ⟨kY0, kY1, kY2, kfY0, kfY1, kfY2⟩ := DY.facts
  have H := hid (HSY.out U8 (some ⟨gY, 0, none⟩) (lB + 2) L.bel (lent_arg HX.out.2.len (by omega) HX.out.2.wf OY))
  clear L DA DB DX DY D3 D4 N3 N4 OX OY
  go_wp2_with fail
  clear kY0 kY1 kY2 kfY0 kfY1 kfY2
  refine (Calls.mono H.out) ?_
  rintro r U9 ⟨rfl, hb⟩
  obtain ⟨L, DA, DB, DX, DY, D3, D4, N3, N4, OX, OY⟩ := S8.out
  have hs9 := hb.size
  have LN := L.below hb
  have EA := (DA.below hb)
  have EB := (DB.below hb)
  have EX := (DX.below hb)
  have EY := (DY.below hb)
  have E3 := (D3.below hb)
  have E4 := (D4.below hb)
  have M3 := N3.below hb
  have M4 := N4.below hb
  have QX := OX.below hb OX.lt
  have QY := OY.below hb OY.lt
  have S9 := (Aside.intro (And.intro LN (And.intro EA (And.intro EB (And.intro EX (And.intro EY (And.intro E3 (And.intro E4 (And.intro M3 (And.intro M4 (And.intro QX QY)))))))))))
  clear hb H S8 L DA DB DX DY D3 D4 N3 N4 OX OY LN EA EB EX EY E3 E4 M3 M4 QX QY
  go_upto_region 13 with fail
  obtain ⟨L, DA, DB, DX, DY, D3, D4, N3, N4, OX, OY⟩ := S9.out
  obtain ⟨kX0, kX1, kX2, kfX0, kfX1, kfX2⟩ := DX.facts
  obtain ⟨kA0, kA1, kA2, kfA0, kfA1, kfA2⟩ := DA.facts
  have H := hid (rAsLent3_any (HX.out.1.below L.bel) (by omega) nA eA w.heap.size gX (HX.out.1.rd.below L.bel) L.size (by omega) OX)
  clear L DA DB DX DY D3 D4 N3 N4 OX OY
  go_wp2_with fail
  clear kX0 kX1 kX2 kfX0 kfX1 kfX2 kA0 kA1 kA2 kfA0 kfA1 kfA2
  refine (Calls.mono H.out) ?_
  rintro r U10 ⟨rfl, hb⟩
  obtain ⟨L, DA, DB, DX, DY, D3, D4, N3, N4, OX, OY⟩ := S9.out
  have hs10 := hb.size
  have ne3 : (Value.slice a3 (ws X1).length c3).ownBlock ≠ some gX := fun e => by have := B3.out _ e; omega
  have ne4 : (Value.slice a4 (ws X2).length c4).ownBlock ≠ some gX := fun e => by have := B4.out _ e; omega
  have LN := L.but hb (by omega) (by intro v hv; simp at hv; rcases hv with rfl | rfl; all_goals assumption)
  have EA := DA.but hb (by omega)
  have EB := DB.but hb (by omega)
  have EX := DX.but hb (by omega)
  have EY := DY.but hb (by omega)
  have E3 := D3.but hb (by omega)
  have E4 := D4.but hb (by omega)
  have M3 := N3.butne hb ne3
  have M4 := N4.butne hb ne4
  have QY := OY.but hb (by omega)
  have S10 := (Aside.intro (And.intro LN (And.intro EA (And.intro EB (And.intro EX (And.intro EY (And.intro E3 (And.intro E4 (And.intro M3 (And.intro M4 QY))))))))))
  clear hb H S9 L DA DB DX DY D3 D4 N3 N4 OX OY LN EA EB EX EY E3 E4 M3 M4 QY ne3 ne4
  go_upto_region 14 with fail
  obtain ⟨L, DA, DB, DX, DY, D3, D4, N3, N4, OY⟩ := S10.out
  obtain ⟨kY0, kY1, kY2, kfY0, kfY1, kfY2⟩ := DY.facts
  obtain ⟨kB0, kB1, kB2, kfB0, kfB1, kfB2⟩ := DB.facts
  have H := hid (rAsLent3_any (HX.out.2.below L.bel) (by omega) nB eB w.heap.size gY (HX.out.2.rd.below L.bel) L.size (by omega) OY)
  clear L DA DB DX DY D3 D4 N3 N4 OY
  go_wp2_with fail
  clear kY0 kY1 kY2 kfY0 kfY1 kfY2 kB0 kB1 kB2 kfB0 kfB1 kfB2
  refine (Calls.mono H.out) ?_
  rintro r U11 ⟨rfl, hb⟩
  obtain ⟨L, DA, DB, DX, DY, D3, D4, N3, N4, OY⟩ := S10.out
  have hs11 := hb.size
  have ne3 : (Value.slice a3 (ws X1).length c3).ownBlock ≠ some gY := fun e => by have := B3.out _ e; omega
  have ne4 : (Value.slice a4 (ws X2).length c4).ownBlock ≠ some gY := fun e => by have := B4.out _ e; omega
  have LN := L.but hb (by omega) (by intro v hv; simp at hv; rcases hv with rfl | rfl; all_goals assumption)
  have EA := DA.but hb (by omega)
  have EB := DB.but hb (by omega)
  have EX := DX.but hb (by omega)
  have EY := DY.but hb (by omega)
  have E3 := D3.but hb (by omega)
  have E4 := D4.but hb (by omega)
  have M3 := N3.butne hb ne3
  have M4 := N4.butne hb ne4
  have S11 := (Aside.intro (And.intro LN (And.intro EA (And.intro EB (And.intro EX (And.intro EY (And.intro E3 (And.intro E4 (And.intro M3 M4)))))))))
  clear hb H S10 L DA DB DX DY D3 D4 N3 N4 OY LN EA EB EX EY E3 E4 M3 M4 ne3 ne4
  go_upto_region 15 with fail
  obtain ⟨L, DA, DB, DX, DY, D3, D4, N3, N4⟩ := S11.out
  obtain ⟨kA0, kA1, kA2, kfA0, kfA1, kfA2⟩ := DA.facts
  obtain ⟨kB0, kB1, kB2, kfB0, kfB1, kfB2⟩ := DB.facts
  have H := hid (RC.out U11 L.bel)
  clear L DA DB DX DY D3 D4 N3 N4
  go_wp2_with fail
  clear kA0 kA1 kA2 kfA0 kfA1 kfA2 kB0 kB1 kB2 kfB0 kfB1 kfB2
  refine (Calls.mono H.out) ?_
  rintro r U12 ⟨rfl, hb⟩
  obtain ⟨L, DA, DB, DX, DY, D3, D4, N3, N4⟩ := S11.out
  have hs12 := hb.size
  have LN := L.below hb
  have EA := (DA.below hb)
  have EB := (DB.below hb)
  have EX := (DX.below hb)
  have EY := (DY.below hb)
  have E3 := (D3.below hb)
  have E4 := (D4.below hb)
  have M3 := N3.below hb
  have M4 := N4.below hb
  have S12 := (Aside.intro (And.intro LN (And.intro EA (And.intro EB (And.intro EX (And.intro EY (And.intro E3 (And.intro E4 (And.intro M3 M4)))))))))
  clear hb H S11 L DA DB DX DY D3 D4 N3 N4 LN EA EB EX EY E3 E4 M3 M4
  obtain ⟨L, DA, DB, DX, DY, D3, D4, N3, N4⟩ := S12.out
  obtain ⟨kA0, kA1, kA2, kfA0, kfA1, kfA2⟩ := DA.facts
  obtain ⟨kB0, kB1, kB2, kfB0, kfB1, kfB2⟩ := DB.facts
  have H := hid (RSA.out U12 L.bel)
  clear L DA DB DX DY D3 D4 N3 N4
  go_wp2_with fail
  clear kA0 kA1 kA2 kfA0 kfA1 kfA2 kB0 kB1 kB2 kfB0 kfB1 kfB2
  refine (Calls.mono H.out) ?_
  rintro r U13 ⟨rfl, hb⟩
  obtain ⟨L, DA, DB, DX, DY, D3, D4, N3, N4⟩ := S12.out
  have hs13 := hb.size
  have LN := L.below hb
  have EA := (DA.below hb)
  have EB := (DB.below hb)
  have EX := (DX.below hb)
  have EY := (DY.below hb)
  have E3 := (D3.below hb)
  have E4 := (D4.below hb)
  have M3 := N3.below hb
  have M4 := N4.below hb
  have S13 := (Aside.intro (And.intro LN (And.intro EA (And.intro EB (And.intro EX (And.intro EY (And.intro E3 (And.intro E4 (And.intro M3 M4)))))))))
  clear hb H S12 L DA DB DX DY D3 D4 N3 N4 LN EA EB EX EY E3 E4 M3 M4
  obtain ⟨L, DA, DB, DX, DY, D3, D4, N3, N4⟩ := S13.out
  obtain ⟨kA0, kA1, kA2, kfA0, kfA1, kfA2⟩ := DA.facts
  obtain ⟨kB0, kB1, kB2, kfB0, kfB1, kfB2⟩ := DB.facts
  have H := hid (RSB.out U13 L.bel)
  clear L DA DB DX DY D3 D4 N3 N4
  go_wp2_with fail
  clear kA0 kA1 kA2 kfA0 kfA1 kfA2 kB0 kB1 kB2 kfB0 kfB1 kfB2
  refine (Calls.mono H.out) ?_
  rintro r U14 ⟨rfl, hb⟩
  obtain ⟨L, DA, DB, DX, DY, D3, D4, N3, N4⟩ := S13.out
  have hs14 := hb.size
  have LN := L.below hb
  have EA := (DA.below hb)
  have EB := (DB.below hb)
  have EX := (DX.below hb)
  have EY := (DY.below hb)
  have E3 := (D3.below hb)
  have E4 := (D4.below hb)
  have M3 := N3.below hb
  have M4 := N4.below hb
  have S14 := (Aside.intro (And.intro LN (And.intro EA (And.intro EB (And.intro EX (And.intro EY (And.intro E3 (And.intro E4 (And.intro M3 M4)))))))))
  clear hb H S13 L DA DB DX DY D3 D4 N3 N4 LN EA EB EX EY E3 E4 M3 M4
  go_upto_region 17 with fail
  obtain ⟨L, DA, DB, DX, DY, D3, D4, N3, N4⟩ := S14.out
  obtain ⟨kA0, kA1, kA2, kfA0, kfA1, kfA2⟩ := DA.facts
  obtain ⟨kB0, kB1, kB2, kfB0, kfB1, kfB2⟩ := DB.facts
  obtain ⟨k30, k31, k32, kf30, kf31, kf32⟩ := D3.facts
  obtain ⟨k40, k41, k42, kf40, kf41, kf42⟩ := D4.facts
  clear L DA DB DX DY D3 D4 N3 N4
  have hltA : w.heap.size < U14.heap.size := by omega
  have hltB : w.heap.size + 1 < U14.heap.size := by omega
  have hlt3 : u3.heap.size < U14.heap.size := by omega
  have hlt4 : u4.heap.size < U14.heap.size := by omega
  go_region_held3 (fun w' => w'.cell? ⟨w.heap.size, 0, none⟩ = some (.bool nA) ∧ w'.cell? ⟨w.heap.size, 1, none⟩ = some (.slice aA lA cA) ∧ w'.cell? ⟨w.heap.size, 2, none⟩ = some (.int .i64 eA) ∧ w'.cell? ⟨w.heap.size + 1, 0, none⟩ = some (.bool nB) ∧ w'.cell? ⟨w.heap.size + 1, 1, none⟩ = some (.slice aB lB cB) ∧ w'.cell? ⟨w.heap.size + 1, 2, none⟩ = some (.int .i64 eB) ∧ w'.cell? ⟨u3.heap.size, 0, none⟩ = some (.bool n1) ∧ w'.cell? ⟨u3.heap.size, 1, none⟩ = some (.slice a3 (ws X1).length c3) ∧ w'.cell? ⟨u3.heap.size, 2, none⟩ = some (.int .i64 e1) ∧ w'.cell? ⟨u4.heap.size, 0, none⟩ = some (.bool n2) ∧ w'.cell? ⟨u4.heap.size, 1, none⟩ = some (.slice a4 (ws X2).length c4) ∧ w'.cell? ⟨u4.heap.size, 2, none⟩ = some (.int .i64 e2)) (go_keep) (first
    | (go_at_call 34
       have HQ := RNB.out u20 (by first | exact S20.out.1.bel | exact S20.out.1.bel.drew)
       have HQ2 := RNB.out u20.drew (by first | exact S20.out.1.bel.drew | exact S20.out.1.bel)
       first | with_reducible refine (Calls.mono HQ) ?_ | with_reducible refine (Calls.mono HQ2) ?_
       rintro r u21 ⟨⟨v, rfl, hN⟩, hb⟩
       obtain ⟨a9, c9, rfl, _⟩ := hN.arg (by omega)
       have hb9 : Below u20.heap.size u20 u21 := by first | exact hb | exact ((Below.refl _ _).drew).trans (hb.mono (Nat.le_refl _))
       have hbx : Below u20.heap.size u20 u21 := hb9
       have hNx : Nt u20.heap.size u21 (.slice a9 (ws X2).length c9) X2 := hN.mono (by first | exact Nat.le_refl _ | (simp [World.drew]; done) | (simp; done))
       obtain ⟨L, DA, DB, DX, DY, D3, D4, N3, N4, NA⟩ := S20.out
       have hs21 := hbx.size
       have S21 := (Aside.intro (And.intro (L.below hbx) (And.intro (DA.below hbx) (And.intro (DB.below hbx) (And.intro (DX.below hbx) (And.intro (DY.below hbx) (And.intro (D3.below hbx) (And.intro (D4.below hbx) (And.intro (N3.below hbx) (And.intro (N4.below hbx) (And.intro (NA.below hbx) (hNx.mono (lo' := w.heap.size) L.size))))))))))))
       try have TC2 := Aside.intro (show u21.heap[U14.heap.size]? = some (.cells #[.bool n1, .slice a3 (ws X1).length c3, .int .i64 e1, .bool n2, .slice a4 (ws X2).length c4, .int .i64 e2] 38 (0, 0)) by rw [hbx.block _ (Array.getElem?_eq_some_iff.1 TC1.out).1]; exact TC1.out)
       clear hN hb hb9 hbx hNx HQ HQ2 L DA DB DX DY D3 D4 N3 N4 NA
       obtain ⟨gA0, gA1, gA2, gfA0, gfA1, gfA2⟩ := (S21.out.2.1).facts
       obtain ⟨gB0, gB1, gB2, gfB0, gfB1, gfB2⟩ := (S21.out.2.2.1).facts
       obtain ⟨g30, g31, g32, gf30, gf31, gf32⟩ := (S21.out.2.2.2.2.2.1).facts
       obtain ⟨g40, g41, g42, gf40, gf41, gf42⟩ := (S21.out.2.2.2.2.2.2.1).facts)
    | (go_at_call 34
       have HQ := RNB.out (u20.alloc (.cells #[.bool n1, .slice a3 (ws X1).length c3, .int .i64 e1, .bool n2, .slice a4 (ws X2).length c4, .int .i64 e2] 38)) (by first | exact S20.out.1.bel.alloc S20.out.1.size _ | exact (S20.out.1.bel.alloc S20.out.1.size _).drew)
       have HQ2 := RNB.out (u20.alloc (.cells #[.bool n1, .slice a3 (ws X1).length c3, .int .i64 e1, .bool n2, .slice a4 (ws X2).length c4, .int .i64 e2] 38)).drew (by first | exact (S20.out.1.bel.alloc S20.out.1.size _).drew | exact S20.out.1.bel.alloc S20.out.1.size _)
       first | with_reducible refine (Calls.mono HQ) ?_ | with_reducible refine (Calls.mono HQ2) ?_
       rintro r u21 ⟨⟨v, rfl, hN⟩, hb⟩
       obtain ⟨a9, c9, rfl, _⟩ := hN.arg (by omega)
       have hb9 : Below (u20.alloc (.cells #[.bool n1, .slice a3 (ws X1).length c3, .int .i64 e1, .bool n2, .slice a4 (ws X2).length c4, .int .i64 e2] 38)).heap.size (u20.alloc (.cells #[.bool n1, .slice a3 (ws X1).length c3, .int .i64 e1, .bool n2, .slice a4 (ws X2).length c4, .int .i64 e2] 38)) u21 := by first | exact hb | exact ((Below.refl _ _).drew).trans (hb.mono (Nat.le_refl _))
       have hbx : Below u20.heap.size u20 u21 := (below_alloc u20 _).trans (hb9.mono (by simp))
       have TC3 := Aside.intro (show u21.heap[u20.heap.size]? = some (.cells #[.bool n1, .slice a3 (ws X1).length c3, .int .i64 e1, .bool n2, .slice a4 (ws X2).length c4, .int .i64 e2] 38 (0, 0)) by rw [hb9.block _ (by simp)]; exact heap_alloc_new _ _)
       have hNx : Nt u20.heap.size u21 (.slice a9 (ws X2).length c9) X2 := hN.mono (by first | exact Nat.le_refl _ | (simp [World.drew]; done) | (simp; done))
       obtain ⟨L, DA, DB, DX, DY, D3, D4, N3, N4, NA⟩ := S20.out
       have hs21 := hbx.size
       have S21 := (Aside.intro (And.intro (L.below hbx) (And.intro (DA.below hbx) (And.intro (DB.below hbx) (And.intro (DX.below hbx) (And.intro (DY.below hbx) (And.intro (D3.below hbx) (And.intro (D4.below hbx) (And.intro (N3.below hbx) (And.intro (N4.below hbx) (And.intro (NA.below hbx) (hNx.mono (lo' := w.heap.size) L.size))))))))))))
       clear hN hb hb9 hbx hNx HQ HQ2 L DA DB DX DY D3 D4 N3 N4 NA
       obtain ⟨gA0, gA1, gA2, gfA0, gfA1, gfA2⟩ := (S21.out.2.1).facts
       obtain ⟨gB0, gB1, gB2, gfB0, gfB1, gfB2⟩ := (S21.out.2.2.1).facts
       obtain ⟨g30, g31, g32, gf30, gf31, gf32⟩ := (S21.out.2.2.2.2.2.1).facts
       obtain ⟨g40, g41, g42, gf40, gf41, gf42⟩ := (S21.out.2.2.2.2.2.2.1).facts)
    | (go_at_call 34
       have HQ := RNA.out U14 (by first | exact S14.out.1.bel | exact S14.out.1.bel.drew)
       have HQ2 := RNA.out U14.drew (by first | exact S14.out.1.bel.drew | exact S14.out.1.bel)
       first | with_reducible refine (Calls.mono HQ) ?_ | with_reducible refine (Calls.mono HQ2) ?_
       rintro r u20 ⟨⟨v, rfl, hN⟩, hb⟩
       obtain ⟨a8, c8, rfl, _⟩ := hN.arg (by omega)
       have hb9 : Below U14.heap.size U14 u20 := by first | exact hb | exact ((Below.refl _ _).drew).trans (hb.mono (Nat.le_refl _))
       have hbx : Below U14.heap.size U14 u20 := hb9
       have hNx : Nt U14.heap.size u20 (.slice a8 (ws X1).length c8) X1 := hN.mono (by first | exact Nat.le_refl _ | (simp [World.drew]; done) | (simp; done))
       obtain ⟨L, DA, DB, DX, DY, D3, D4, N3, N4⟩ := S14.out
       have hs20 := hbx.size
       have S20 := (Aside.intro (And.intro (L.below hbx) (And.intro (DA.below hbx) (And.intro (DB.below hbx) (And.intro (DX.below hbx) (And.intro (DY.below hbx) (And.intro (D3.below hbx) (And.intro (D4.below hbx) (And.intro (N3.below hbx) (And.intro (N4.below hbx) (hNx.mono (lo' := w.heap.size) L.size)))))))))))
       clear hN hb hb9 hbx hNx HQ HQ2 L DA DB DX DY D3 D4 N3 N4
       obtain ⟨fA0, fA1, fA2, ffA0, ffA1, ffA2⟩ := (S20.out.2.1).facts
       obtain ⟨fB0, fB1, fB2, ffB0, ffB1, ffB2⟩ := (S20.out.2.2.1).facts
       obtain ⟨f30, f31, f32, ff30, ff31, ff32⟩ := (S20.out.2.2.2.2.2.1).facts
       obtain ⟨f40, f41, f42, ff40, ff41, ff42⟩ := (S20.out.2.2.2.2.2.2.1).facts)
    | (go_at_call 34
       have HQ := RNA.out (U14.alloc (.cells #[.bool n1, .slice a3 (ws X1).length c3, .int .i64 e1, .bool n2, .slice a4 (ws X2).length c4, .int .i64 e2] 38)) (by first | exact S14.out.1.bel.alloc S14.out.1.size _ | exact (S14.out.1.bel.alloc S14.out.1.size _).drew)
       have HQ2 := RNA.out (U14.alloc (.cells #[.bool n1, .slice a3 (ws X1).length c3, .int .i64 e1, .bool n2, .slice a4 (ws X2).length c4, .int .i64 e2] 38)).drew (by first | exact (S14.out.1.bel.alloc S14.out.1.size _).drew | exact S14.out.1.bel.alloc S14.out.1.size _)
       first | with_reducible refine (Calls.mono HQ) ?_ | with_reducible refine (Calls.mono HQ2) ?_
       rintro r u20 ⟨⟨v, rfl, hN⟩, hb⟩
       obtain ⟨a8, c8, rfl, _⟩ := hN.arg (by omega)
       have hb9 : Below (U14.alloc (.cells #[.bool n1, .slice a3 (ws X1).length c3, .int .i64 e1, .bool n2, .slice a4 (ws X2).length c4, .int .i64 e2] 38)).heap.size (U14.alloc (.cells #[.bool n1, .slice a3 (ws X1).length c3, .int .i64 e1, .bool n2, .slice a4 (ws X2).length c4, .int .i64 e2] 38)) u20 := by first | exact hb | exact ((Below.refl _ _).drew).trans (hb.mono (Nat.le_refl _))
       have hbx : Below U14.heap.size U14 u20 := (below_alloc U14 _).trans (hb9.mono (by simp))
       have TC1 := Aside.intro (show u20.heap[U14.heap.size]? = some (.cells #[.bool n1, .slice a3 (ws X1).length c3, .int .i64 e1, .bool n2, .slice a4 (ws X2).length c4, .int .i64 e2] 38 (0, 0)) by rw [hb9.block _ (by simp)]; exact heap_alloc_new _ _)
       have hNx : Nt U14.heap.size u20 (.slice a8 (ws X1).length c8) X1 := hN.mono (by first | exact Nat.le_refl _ | (simp [World.drew]; done) | (simp; done))
       obtain ⟨L, DA, DB, DX, DY, D3, D4, N3, N4⟩ := S14.out
       have hs20 := hbx.size
       have S20 := (Aside.intro (And.intro (L.below hbx) (And.intro (DA.below hbx) (And.intro (DB.below hbx) (And.intro (DX.below hbx) (And.intro (DY.below hbx) (And.intro (D3.below hbx) (And.intro (D4.below hbx) (And.intro (N3.below hbx) (And.intro (N4.below hbx) (hNx.mono (lo' := w.heap.size) L.size)))))))))))
       clear hN hb hb9 hbx hNx HQ HQ2 L DA DB DX DY D3 D4 N3 N4
       obtain ⟨fA0, fA1, fA2, ffA0, ffA1, ffA2⟩ := (S20.out.2.1).facts
       obtain ⟨fB0, fB1, fB2, ffB0, ffB1, ffB2⟩ := (S20.out.2.2.1).facts
       obtain ⟨f30, f31, f32, ff30, ff31, ff32⟩ := (S20.out.2.2.2.2.2.1).facts
       obtain ⟨f40, f41, f42, ff40, ff41, ff42⟩ := (S20.out.2.2.2.2.2.2.1).facts)
    | (go_at_call 26
       obtain ⟨L, DA, DB, DX, DY, D3, D4, N3, N4, NA, NB⟩ := S21.out
       have hw : Below u21.heap.size u21 (u21.alloc (.cells #[.bool n1, .slice a8 (ws X1).length c8, .int .i64 e1, .bool n2, .slice a9 (ws X2).length c9, .int .i64 e2] 38)) := below_alloc u21 _
       have hC : (u21.alloc (.cells #[.bool n1, .slice a8 (ws X1).length c8, .int .i64 e1, .bool n2, .slice a9 (ws X2).length c9, .int .i64 e2] 38)).heap[U14.heap.size]? = some (.cells (flat2 It.v ⟨n1, .slice a3 (ws X1).length c3, e1, .slice a8 (ws X1).length c8, X1⟩ ⟨n2, .slice a4 (ws X2).length c4, e2, .slice a9 (ws X2).length c9, X2⟩) 38 (0, 0)) := by rw [Below.heap_alloc _ _ _ (Array.getElem?_eq_some_iff.1 TC2.out).1]; exact TC2.out
       have hW : (u21.alloc (.cells #[.bool n1, .slice a8 (ws X1).length c8, .int .i64 e1, .bool n2, .slice a9 (ws X2).length c9, .int .i64 e2] 38)).heap[u21.heap.size]? = some (.cells (flat2 It.u ⟨n1, .slice a3 (ws X1).length c3, e1, .slice a8 (ws X1).length c8, X1⟩ ⟨n2, .slice a4 (ws X2).length c4, e2, .slice a9 (ws X2).length c9, X2⟩) 38 (0, 0)) := heap_alloc_new _ _
       have hI : ∀ it ∈ it2 ⟨n1, .slice a3 (ws X1).length c3, e1, .slice a8 (ws X1).length c8, X1⟩ ⟨n2, .slice a4 (ws X2).length c4, e2, .slice a9 (ws X2).length c9, X2⟩, Nt w.heap.size (u21.alloc (.cells #[.bool n1, .slice a8 (ws X1).length c8, .int .i64 e1, .bool n2, .slice a9 (ws X2).length c9, .int .i64 e2] 38)) it.v it.X ∧ Nt w.heap.size (u21.alloc (.cells #[.bool n1, .slice a8 (ws X1).length c8, .int .i64 e1, .bool n2, .slice a9 (ws X2).length c9, .int .i64 e2] 38)) it.u it.X ∧ (ws it.X).length ≤ 8192 := by
         intro it h
         simp only [it2, List.mem_cons, List.not_mem_nil, or_false] at h
         rcases h with rfl | rfl
         · exact ⟨N3.below hw, NA.below hw, l1⟩
         · exact ⟨N4.below hw, NB.below hw, l2⟩
       have TK := took2 ⟨n1, .slice a3 (ws X1).length c3, e1, .slice a8 (ws X1).length c8, X1⟩ ⟨n2, .slice a4 (ws X2).length c4, e2, .slice a9 (ws X2).length c9, X2⟩ (U14.heap.size) (u21.heap.size) w (u21.alloc (.cells #[.bool n1, .slice a8 (ws X1).length c8, .int .i64 e1, .bool n2, .slice a9 (ws X2).length c9, .int .i64 e2] 38)) (L.below hw) hC hW hI
       with_reducible refine (Calls.mono TK) ?_
       rintro r u22 ⟨rfl, hb, hk⟩
       obtain ⟨tA0, tA1, tA2, tfA0, tfA1, tfA2⟩ := ((DA.below hw).keep0 hk).facts
       obtain ⟨tB0, tB1, tB2, tfB0, tfB1, tfB2⟩ := ((DB.below hw).keep0 hk).facts
       obtain ⟨t30, t31, t32, tf30, tf31, tf32⟩ := ((D3.below hw).keep0 hk).facts
       obtain ⟨t40, t41, t42, tf40, tf41, tf42⟩ := ((D4.below hw).keep0 hk).facts
       have S22 := Aside.intro hb
       clear hb hk hw hC hW hI TK L DA DB DX DY D3 D4 N3 N4 NA NB)
    | (go_at_call 26
       obtain ⟨L, DA, DB, DX, DY, D3, D4, N3, N4, NA, NB⟩ := S21.out
       have hw : Below u21.heap.size u21 (u21.alloc (.cells #[.bool n1, .slice a8 (ws X1).length c8, .int .i64 e1, .bool n2, .slice a9 (ws X2).length c9, .int .i64 e2] 38)) := below_alloc u21 _
       have hC : (u21.alloc (.cells #[.bool n1, .slice a8 (ws X1).length c8, .int .i64 e1, .bool n2, .slice a9 (ws X2).length c9, .int .i64 e2] 38)).heap[u20.heap.size]? = some (.cells (flat2 It.v ⟨n1, .slice a3 (ws X1).length c3, e1, .slice a8 (ws X1).length c8, X1⟩ ⟨n2, .slice a4 (ws X2).length c4, e2, .slice a9 (ws X2).length c9, X2⟩) 38 (0, 0)) := by rw [Below.heap_alloc _ _ _ (Array.getElem?_eq_some_iff.1 TC3.out).1]; exact TC3.out
       have hW : (u21.alloc (.cells #[.bool n1, .slice a8 (ws X1).length c8, .int .i64 e1, .bool n2, .slice a9 (ws X2).length c9, .int .i64 e2] 38)).heap[u21.heap.size]? = some (.cells (flat2 It.u ⟨n1, .slice a3 (ws X1).length c3, e1, .slice a8 (ws X1).length c8, X1⟩ ⟨n2, .slice a4 (ws X2).length c4, e2, .slice a9 (ws X2).length c9, X2⟩) 38 (0, 0)) := heap_alloc_new _ _
       have hI : ∀ it ∈ it2 ⟨n1, .slice a3 (ws X1).length c3, e1, .slice a8 (ws X1).length c8, X1⟩ ⟨n2, .slice a4 (ws X2).length c4, e2, .slice a9 (ws X2).length c9, X2⟩, Nt w.heap.size (u21.alloc (.cells #[.bool n1, .slice a8 (ws X1).length c8, .int .i64 e1, .bool n2, .slice a9 (ws X2).length c9, .int .i64 e2] 38)) it.v it.X ∧ Nt w.heap.size (u21.alloc (.cells #[.bool n1, .slice a8 (ws X1).length c8, .int .i64 e1, .bool n2, .slice a9 (ws X2).length c9, .int .i64 e2] 38)) it.u it.X ∧ (ws it.X).length ≤ 8192 := by
         intro it h
         simp only [it2, List.mem_cons, List.not_mem_nil, or_false] at h
         rcases h with rfl | rfl
         · exact ⟨N3.below hw, NA.below hw, l1⟩
         · exact ⟨N4.below hw, NB.below hw, l2⟩
       have TK := took2 ⟨n1, .slice a3 (ws X1).length c3, e1, .slice a8 (ws X1).length c8, X1⟩ ⟨n2, .slice a4 (ws X2).length c4, e2, .slice a9 (ws X2).length c9, X2⟩ (u20.heap.size) (u21.heap.size) w (u21.alloc (.cells #[.bool n1, .slice a8 (ws X1).length c8, .int .i64 e1, .bool n2, .slice a9 (ws X2).length c9, .int .i64 e2] 38)) (L.below hw) hC hW hI
       with_reducible refine (Calls.mono TK) ?_
       rintro r u22 ⟨rfl, hb, hk⟩
       obtain ⟨tA0, tA1, tA2, tfA0, tfA1, tfA2⟩ := ((DA.below hw).keep0 hk).facts
       obtain ⟨tB0, tB1, tB2, tfB0, tfB1, tfB2⟩ := ((DB.below hw).keep0 hk).facts
       obtain ⟨t30, t31, t32, tf30, tf31, tf32⟩ := ((D3.below hw).keep0 hk).facts
       obtain ⟨t40, t41, t42, tf40, tf41, tf42⟩ := ((D4.below hw).keep0 hk).facts
       have S22 := Aside.intro hb
       clear hb hk hw hC hW hI TK L DA DB DX DY D3 D4 N3 N4 NA NB)
    | (go_at_call 26
       obtain ⟨L, DA, DB, DX, DY, D3, D4, N3, N4, NA, NB⟩ := S21.out
       have hw : Below u21.heap.size u21 ((u21.alloc (.cells #[.bool n1, .slice a3 (ws X1).length c3, .int .i64 e1, .bool n2, .slice a4 (ws X2).length c4, .int .i64 e2] 38)).alloc (.cells #[.bool n1, .slice a8 (ws X1).length c8, .int .i64 e1, .bool n2, .slice a9 (ws X2).length c9, .int .i64 e2] 38)) := (below_alloc u21 _).alloc (by simp) _
       have hC : ((u21.alloc (.cells #[.bool n1, .slice a3 (ws X1).length c3, .int .i64 e1, .bool n2, .slice a4 (ws X2).length c4, .int .i64 e2] 38)).alloc (.cells #[.bool n1, .slice a8 (ws X1).length c8, .int .i64 e1, .bool n2, .slice a9 (ws X2).length c9, .int .i64 e2] 38)).heap[u21.heap.size]? = some (.cells (flat2 It.v ⟨n1, .slice a3 (ws X1).length c3, e1, .slice a8 (ws X1).length c8, X1⟩ ⟨n2, .slice a4 (ws X2).length c4, e2, .slice a9 (ws X2).length c9, X2⟩) 38 (0, 0)) := by rw [Below.heap_alloc _ _ _ (by simp)]; exact heap_alloc_new _ _
       have hW : ((u21.alloc (.cells #[.bool n1, .slice a3 (ws X1).length c3, .int .i64 e1, .bool n2, .slice a4 (ws X2).length c4, .int .i64 e2] 38)).alloc (.cells #[.bool n1, .slice a8 (ws X1).length c8, .int .i64 e1, .bool n2, .slice a9 (ws X2).length c9, .int .i64 e2] 38)).heap[u21.heap.size + 1]? = some (.cells (flat2 It.u ⟨n1, .slice a3 (ws X1).length c3, e1, .slice a8 (ws X1).length c8, X1⟩ ⟨n2, .slice a4 (ws X2).length c4, e2, .slice a9 (ws X2).length c9, X2⟩) 38 (0, 0)) := by have h := heap_alloc_new (u21.alloc (.cells #[.bool n1, .slice a3 (ws X1).length c3, .int .i64 e1, .bool n2, .slice a4 (ws X2).length c4, .int .i64 e2] 38)) (.cells #[.bool n1, .slice a8 (ws X1).length c8, .int .i64 e1, .bool n2, .slice a9 (ws X2).length c9, .int .i64 e2] 38); rw [size_allocC] at h; exact h
       have hI : ∀ it ∈ it2 ⟨n1, .slice a3 (ws X1).length c3, e1, .slice a8 (ws X1).length c8, X1⟩ ⟨n2, .slice a4 (ws X2).length c4, e2, .slice a9 (ws X2).length c9, X2⟩, Nt w.heap.size ((u21.alloc (.cells #[.bool n1, .slice a3 (ws X1).length c3, .int .i64 e1, .bool n2, .slice a4 (ws X2).length c4, .int .i64 e2] 38)).alloc (.cells #[.bool n1, .slice a8 (ws X1).length c8, .int .i64 e1, .bool n2, .slice a9 (ws X2).length c9, .int .i64 e2] 38)) it.v it.X ∧ Nt w.heap.size ((u21.alloc (.cells #[.bool n1, .slice a3 (ws X1).length c3, .int .i64 e1, .bool n2, .slice a4 (ws X2).length c4, .int .i64 e2] 38)).alloc (.cells #[.bool n1, .slice a8 (ws X1).length c8, .int .i64 e1, .bool n2, .slice a9 (ws X2).length c9, .int .i64 e2] 38)) it.u it.X ∧ (ws it.X).length ≤ 8192 := by
         intro it h
         simp only [it2, List.mem_cons, List.not_mem_nil, or_false] at h
         rcases h with rfl | rfl
         · exact ⟨N3.below hw, NA.below hw, l1⟩
         · exact ⟨N4.below hw, NB.below hw, l2⟩
       have TK := took2 ⟨n1, .slice a3 (ws X1).length c3, e1, .slice a8 (ws X1).length c8, X1⟩ ⟨n2, .slice a4 (ws X2).length c4, e2, .slice a9 (ws X2).length c9, X2⟩ (u21.heap.size) (u21.heap.size + 1) w ((u21.alloc (.cells #[.bool n1, .slice a3 (ws X1).length c3, .int .i64 e1, .bool n2, .slice a4 (ws X2).length c4, .int .i64 e2] 38)).alloc (.cells #[.bool n1, .slice a8 (ws X1).length c8, .int .i64 e1, .bool n2, .slice a9 (ws X2).length c9, .int .i64 e2] 38)) (L.below hw) hC hW hI
       with_reducible refine (Calls.mono TK) ?_
       rintro r u22 ⟨rfl, hb, hk⟩
       obtain ⟨tA0, tA1, tA2, tfA0, tfA1, tfA2⟩ := ((DA.below hw).keep0 hk).facts
       obtain ⟨tB0, tB1, tB2, tfB0, tfB1, tfB2⟩ := ((DB.below hw).keep0 hk).facts
       obtain ⟨t30, t31, t32, tf30, tf31, tf32⟩ := ((D3.below hw).keep0 hk).facts
       obtain ⟨t40, t41, t42, tf40, tf41, tf42⟩ := ((D4.below hw).keep0 hk).facts
       have S22 := Aside.intro hb
       clear hb hk hw hC hW hI TK L DA DB DX DY D3 D4 N3 N4 NA NB)
    | (go_at_call 26
       obtain ⟨L, DA, DB, DX, DY, D3, D4, N3, N4, NA, NB⟩ := S21.out
       have hw : Below u21.heap.size u21 ((u21.alloc (.cells #[.bool n1, .slice a8 (ws X1).length c8, .int .i64 e1, .bool n2, .slice a9 (ws X2).length c9, .int .i64 e2] 38)).alloc (.cells #[.bool n1, .slice a3 (ws X1).length c3, .int .i64 e1, .bool n2, .slice a4 (ws X2).length c4, .int .i64 e2] 38)) := (below_alloc u21 _).alloc (by simp) _
       have hC : ((u21.alloc (.cells #[.bool n1, .slice a8 (ws X1).length c8, .int .i64 e1, .bool n2, .slice a9 (ws X2).length c9, .int .i64 e2] 38)).alloc (.cells #[.bool n1, .slice a3 (ws X1).length c3, .int .i64 e1, .bool n2, .slice a4 (ws X2).length c4, .int .i64 e2] 38)).heap[u21.heap.size + 1]? = some (.cells (flat2 It.v ⟨n1, .slice a3 (ws X1).length c3, e1, .slice a8 (ws X1).length c8, X1⟩ ⟨n2, .slice a4 (ws X2).length c4, e2, .slice a9 (ws X2).length c9, X2⟩) 38 (0, 0)) := by have h := heap_alloc_new (u21.alloc (.cells #[.bool n1, .slice a8 (ws X1).length c8, .int .i64 e1, .bool n2, .slice a9 (ws X2).length c9, .int .i64 e2] 38)) (.cells #[.bool n1, .slice a3 (ws X1).length c3, .int .i64 e1, .bool n2, .slice a4 (ws X2).length c4, .int .i64 e2] 38); rw [size_allocC] at h; exact h
       have hW : ((u21.alloc (.cells #[.bool n1, .slice a8 (ws X1).length c8, .int .i64 e1, .bool n2, .slice a9 (ws X2).length c9, .int .i64 e2] 38)).alloc (.cells #[.bool n1, .slice a3 (ws X1).length c3, .int .i64 e1, .bool n2, .slice a4 (ws X2).length c4, .int .i64 e2] 38)).heap[u21.heap.size]? = some (.cells (flat2 It.u ⟨n1, .slice a3 (ws X1).length c3, e1, .slice a8 (ws X1).length c8, X1⟩ ⟨n2, .slice a4 (ws X2).length c4, e2, .slice a9 (ws X2).length c9, X2⟩) 38 (0, 0)) := by rw [Below.heap_alloc _ _ _ (by simp)]; exact heap_alloc_new _ _
       have hI : ∀ it ∈ it2 ⟨n1, .slice a3 (ws X1).length c3, e1, .slice a8 (ws X1).length c8, X1⟩ ⟨n2, .slice a4 (ws X2).length c4, e2, .slice a9 (ws X2).length c9, X2⟩, Nt w.heap.size ((u21.alloc (.cells #[.bool n1, .slice a8 (ws X1).length c8, .int .i64 e1, .bool n2, .slice a9 (ws X2).length c9, .int .i64 e2] 38)).alloc (.cells #[.bool n1, .slice a3 (ws X1).length c3, .int .i64 e1, .bool n2, .slice a4 (ws X2).length c4, .int .i64 e2] 38)) it.v it.X ∧ Nt w.heap.size ((u21.alloc (.cells #[.bool n1, .slice a8 (ws X1).length c8, .int .i64 e1, .bool n2, .slice a9 (ws X2).length c9, .int .i64 e2] 38)).alloc (.cells #[.bool n1, .slice a3 (ws X1).length c3, .int .i64 e1, .bool n2, .slice a4 (ws X2).length c4, .int .i64 e2] 38)) it.u it.X ∧ (ws it.X).length ≤ 8192 := by
         intro it h
         simp only [it2, List.mem_cons, List.not_mem_nil, or_false] at h
         rcases h with rfl | rfl
         · exact ⟨N3.below hw, NA.below hw, l1⟩
         · exact ⟨N4.below hw, NB.below hw, l2⟩
       have TK := took2 ⟨n1, .slice a3 (ws X1).length c3, e1, .slice a8 (ws X1).length c8, X1⟩ ⟨n2, .slice a4 (ws X2).length c4, e2, .slice a9 (ws X2).length c9, X2⟩ (u21.heap.size + 1) (u21.heap.size) w ((u21.alloc (.cells #[.bool n1, .slice a8 (ws X1).length c8, .int .i64 e1, .bool n2, .slice a9 (ws X2).length c9, .int .i64 e2] 38)).alloc (.cells #[.bool n1, .slice a3 (ws X1).length c3, .int .i64 e1, .bool n2, .slice a4 (ws X2).length c4, .int .i64 e2] 38)) (L.below hw) hC hW hI
       with_reducible refine (Calls.mono TK) ?_
       rintro r u22 ⟨rfl, hb, hk⟩
       obtain ⟨tA0, tA1, tA2, tfA0, tfA1, tfA2⟩ := ((DA.below hw).keep0 hk).facts
       obtain ⟨tB0, tB1, tB2, tfB0, tfB1, tfB2⟩ := ((DB.below hw).keep0 hk).facts
       obtain ⟨t30, t31, t32, tf30, tf31, tf32⟩ := ((D3.below hw).keep0 hk).facts
       obtain ⟨t40, t41, t42, tf40, tf41, tf42⟩ := ((D4.below hw).keep0 hk).facts
       have S22 := Aside.intro hb
       clear hb hk hw hC hW hI TK L DA DB DX DY D3 D4 N3 N4 NA NB))
  all_goals (
    go_wp2
    go_ret
    exact ⟨rfl, S22.out⟩)
end Go.Proofs.YtonhahbmdekkdaaDoor
