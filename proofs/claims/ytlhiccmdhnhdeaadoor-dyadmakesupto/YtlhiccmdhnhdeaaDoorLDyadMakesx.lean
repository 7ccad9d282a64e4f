import Derived.Test.YtlhiccmdhnhdeaaDoorK43
import Derived.Deep.RegionHeld3
import Derived.Deep.CutRange
/- DyadMakes: the walk. -/
namespace Go.Proofs.YtlhiccmdhnhdeaaDoor
open Go.RowKit
set_option linter.unusedVariables false
set_option maxRecDepth 20000
set_option linter.unusedSimpArgs false

theorem size_alloc3 (w : World) (o : Obj) : (w.alloc o).heap.size = w.heap.size + 1 := by simp

set_option maxHeartbeats 16000000 in
set_option maxRecDepth 100000 in
theorem makes_core (b : Nat) (neg : Bool) (aM : Option Addr) (nM cM : Nat) (xs : List Nat) (exp n : Int) (w : World) (bM : nM ≤ 1048576) (w0 : Arg w aM nM cM xs) (hT : Tab w)
    (na nm ni : Bool) (Xa Xm Xi : Nat) (ea em ei era erm : Int) (la : (ws Xa).length ≤ 8192) (lm : (ws Xm).length ≤ 8192) (li : (ws Xi).length ≤ 8192)
    (HO : Hid (∀ u, Below w.heap.size w u → Calls Tryd.prog 23 #[.float .f64 b] u fun r w' => (∃ v, r = .returned (.tuple #[.agg #[.bool na, v, .int .i64 ea], .int .i64 era]) ∧ Nt u.heap.size w' v Xa) ∧ Below u.heap.size u w'))
    (HO2 : Hid (∀ u, Below w.heap.size w u → Calls Tryd.prog 24 #[.float .f64 b] u fun r w' => (∃ v, r = .returned (.tuple #[.agg #[.bool na, v, .int .i64 ea], .int .i64 era]) ∧ Nt u.heap.size w' v Xa) ∧ Below u.heap.size u w'))
    (HM : Hid (∀ (u : World) (p : Option Addr) (q : Nat), Below w.heap.size w u → Arg u p nM q xs → Calls Tryd.prog 25 #[.bool neg, .slice p nM q, .int .i64 exp] u fun r w' => (∃ v, r = .returned (.tuple #[.agg #[.bool nm, v, .int .i64 em], .int .i64 erm]) ∧ Nt u.heap.size w' v Xm) ∧ Below u.heap.size u w'))
    (HM2 : Hid (∀ u, Below w.heap.size w u → Calls Tryd.prog 26 #[.bool neg, .slice aM nM cM, .int .i64 exp] u fun r w' => (∃ v, r = .returned (.tuple #[.agg #[.bool nm, v, .int .i64 em], .int .i64 erm]) ∧ Nt u.heap.size w' v Xm) ∧ Below u.heap.size u w'))
    (HI : Hid (∀ u, Below w.heap.size w u → Calls Tryd.prog 27 #[.int .i64 n] u fun r w' => (∃ v, r = .returned (.agg #[.bool ni, v, .int .i64 ei]) ∧ Nt u.heap.size w' v Xi) ∧ Below u.heap.size u w'))
    (HI2 : Hid (∀ u, Below w.heap.size w u → Calls Tryd.prog 28 #[.int .i64 n] u fun r w' => (∃ v, r = .returned (.agg #[.bool ni, v, .int .i64 ei]) ∧ Nt u.heap.size w' v Xi) ∧ Below u.heap.size u w')) :
    Calls Tryd.prog 5 #[.float .f64 b, .bool neg, .slice aM nM cM, .int .i64 exp, .int .i64 n] w fun r w' => r = .returned (.bool true) ∧ Below w.heap.size w w' := by
  have AW := hid (awake3_any w hT)
  have HX := Aside.intro w0
  clear w0 hT
  go_enter Tryd.func5, Tryd.ntmps5
  go_wp2_with fail
  refine (Calls.mono AW.out) ?_
  rintro r U0 ⟨rfl, hb⟩
  have S0 := Aside.intro ((Led.start w).below hb)
  have hs0 := hb.size
  clear hb AW
  obtain L := S0.out
  have H := hid (HO.out U0 L.bel)
  clear L
  go_wp2_with fail
  refine (Calls.mono H.out) ?_
  rintro r u1 ⟨⟨v, rfl, hN⟩, hb⟩
  obtain ⟨a1, c1, rfl, _⟩ := hN.arg (by omega)
  obtain L := S0.out
  have hs1 := hb.size
  obtain ⟨U1, hU1⟩ : ∃ U, U = u1.alloc (.cells #[.bool na, .slice a1 (ws Xa).length c1, .int .i64 ea] 43) := ⟨_, rfl⟩
  have hA : Below u1.heap.size u1 U1 := by rw [hU1]; exact below_alloc _ _
  have hz1 : u1.heap.size < U1.heap.size := by rw [hU1]; simp
  have DN : Dk U1 u1.heap.size na (.slice a1 (ws Xa).length c1) ea := by rw [hU1]; exact Dk.new _ _ _ _
  have B1 := Aside.intro hN.lt
  have NN := (hN.mono (lo' := w.heap.size) L.size).below hA
  have LN := (L.add hb hN la).below hA
  have S1 := (Aside.intro (And.intro LN (And.intro DN NN)))
  clear hN hb H hA DN NN LN S0 L  
  obtain ⟨L, D1, N1⟩ := S1.out
  have H := hid (HO2.out U1 L.bel)
  clear L D1 N1
  go_wp2_with fail
  rw [← hU1]
  clear hU1
  refine (Calls.mono H.out) ?_
  rintro r u2 ⟨⟨v, rfl, hN⟩, hb⟩
  obtain ⟨a2, c2, rfl, _⟩ := hN.arg (by omega)
  obtain ⟨L, D1, N1⟩ := S1.out
  have hs2 := hb.size
  obtain ⟨U2, hU2⟩ : ∃ U, U = u2.alloc (.cells #[.bool na, .slice a2 (ws Xa).length c2, .int .i64 ea] 43) := ⟨_, rfl⟩
  have hA : Below u2.heap.size u2 U2 := by rw [hU2]; exact below_alloc _ _
  have hz2 : u2.heap.size < U2.heap.size := by rw [hU2]; simp
  have DN : Dk U2 u2.heap.size na (.slice a2 (ws Xa).length c2) ea := by rw [hU2]; exact Dk.new _ _ _ _
  have B2 := Aside.intro hN.lt
  have NN := (hN.mono (lo' := w.heap.size) L.size).below hA
  have LN := (L.below hb).below hA
  have E1 := (D1.below hb).below hA
  have M1 := (N1.below hb).below hA
  have S2 := (Aside.intro (And.intro LN (And.intro E1 (And.intro DN (And.intro M1 NN)))))
  clear hN hb H hA DN NN LN S1 L D1 N1 E1 M1 
  obtain ⟨L, D1, D2, N1, N2⟩ := S2.out
  have A := HX.out.below L.bel
  have H := hid (lent_any xs aM nM cM U2.heap.size U2 A.len A.cap (by omega) A.rd (Nat.le_refl _))
  clear A L D1 N1 D2 N2
  go_wp2_with fail
  rw [← hU2]
  clear hU2
  refine (Calls.mono H.out) ?_
  rintro r U3 ⟨rfl, hO, hb⟩
  obtain ⟨L, D1, D2, N1, N2⟩ := S2.out
  have hs3 := hb.size
  have hO3 := hO.lt
  have LN := L.below hb
  have E1 := D1.below hb
  have M1 := N1.below hb
  have E2 := D2.below hb
  have M2 := N2.below hb
  have S3 := (Aside.intro (And.intro LN (And.intro E1 (And.intro E2 (And.intro M1 (And.intro M2 hO))))))
  clear hb H LN hO S2 L D1 N1 D2 N2 E1 M1 E2 M2
  obtain ⟨L, D1, D2, N1, N2, O⟩ := S3.out
  have H := hid (HM.out U3 (some ⟨U2.heap.size, 0, none⟩) (nM + 2) L.bel (lent_arg HX.out.len (by omega) HX.out.wf O))
  clear L D1 N1 D2 N2 O
  go_wp2_with fail
  refine (Calls.mono H.out) ?_
  rintro r u4 ⟨⟨v, rfl, hN⟩, hb⟩
  obtain ⟨a4, c4, rfl, _⟩ := hN.arg (by omega)
  obtain ⟨L, D1, D2, N1, N2, O⟩ := S3.out
  have hs4 := hb.size
  obtain ⟨U4, hU4⟩ : ∃ U, U = u4.alloc (.cells #[.bool nm, .slice a4 (ws Xm).length c4, .int .i64 em] 43) := ⟨_, rfl⟩
  have hA : Below u4.heap.size u4 U4 := by rw [hU4]; exact below_alloc _ _
  have hz4 : u4.heap.size < U4.heap.size := by rw [hU4]; simp
  have DN : Dk U4 u4.heap.size nm (.slice a4 (ws Xm).length c4) em := by rw [hU4]; exact Dk.new _ _ _ _
  have B4 := Aside.intro hN.lt
  have NN := (hN.mono (lo' := w.heap.size) L.size).below hA
  have LN := (L.add hb hN lm).below hA
  have E1 := (D1.below hb).below hA
  have M1 := (N1.below hb).below hA
  have E2 := (D2.below hb).below hA
  have M2 := (N2.below hb).below hA
  have ON := (O.below hb O.lt).below hA (O.below hb O.lt).lt
  have S4 := (Aside.intro (And.intro LN (And.intro E1 (And.intro E2 (And.intro DN (And.intro M1 (And.intro M2 (And.intro NN ON))))))))
  clear hN hb H hA DN NN LN S3 L D1 N1 D2 N2 O E1 M1 E2 M2 ON
  obtain ⟨L, D1, D2, D4, N1, N2, N4, O⟩ := S4.out
  have H := hid (HM.out U4 (some ⟨U2.heap.size, 0, none⟩) (nM + 2) L.bel (lent_arg HX.out.len (by omega) HX.out.wf O))
  clear L D1 N1 D2 N2 D4 N4 O
  go_wp2_with fail
  rw [← hU4]
  clear hU4
  refine (Calls.mono H.out) ?_
  rintro r u5 ⟨⟨v, rfl, hN⟩, hb⟩
  obtain ⟨a5, c5, rfl, _⟩ := hN.arg (by omega)
  obtain ⟨L, D1, D2, D4, N1, N2, N4, O⟩ := S4.out
  have hs5 := hb.size
  obtain ⟨U5, hU5⟩ : ∃ U, U = u5.alloc (.cells #[.bool nm, .slice a5 (ws Xm).length c5, .int .i64 em] 43) := ⟨_, rfl⟩
  have hA : Below u5.heap.size u5 U5 := by rw [hU5]; exact below_alloc _ _
  have hz5 : u5.heap.size < U5.heap.size := by rw [hU5]; simp
  have DN : Dk U5 u5.heap.size nm (.slice a5 (ws Xm).length c5) em := by rw [hU5]; exact Dk.new _ _ _ _
  have B5 := Aside.intro hN.lt
  have NN := (hN.mono (lo' := w.heap.size) L.size).below hA
  have LN := (L.add hb hN lm).below hA
  have E1 := (D1.below hb).below hA
  have M1 := (N1.below hb).below hA
  have E2 := (D2.below hb).below hA
  have M2 := (N2.below hb).below hA
  have E4 := (D4.below hb).below hA
  have M4 := (N4.below hb).below hA
  have ON := (O.below hb O.lt).below hA (O.below hb O.lt).lt
  have S5 := (Aside.intro (And.intro LN (And.intro E1 (And.intro E2 (And.intro E4 (And.intro DN (And.intro M1 (And.intro M2 (And.intro M4 (And.intro NN ON))))))))))
  clear hN hb H hA DN NN LN S4 L D1 N1 D2 N2 D4 N4 O E1 M1 E2 M2 E4 M4 ON
  obtain ⟨L, D1, D2, D4, D5, N1, N2, N4, N5, O⟩ := S5.out
  have A := HX.out.below L.bel
  have H := hid (asLent_any xs aM nM cM w.heap.size U2.heap.size U5 A.len A.cap (by omega) A.wf (HX.out.rd.below L.bel) (by omega) O)
  clear A L D1 N1 D2 N2 D4 N4 D5 N5 O
  go_wp2_with fail
  rw [← hU5]
  clear hU5
  refine (Calls.mono H.out) ?_
  rintro r U6 ⟨rfl, hb⟩
  obtain ⟨L, D1, D2, D4, D5, N1, N2, N4, N5, O⟩ := S5.out
  have hs6 := hb.size
  have E1 := D1.but hb (by omega)
  have E2 := D2.but hb (by omega)
  have E4 := D4.but hb (by omega)
  have E5 := D5.but hb (by omega)
  have ne1 : (Value.slice a1 (ws Xa).length c1).ownBlock ≠ some U2.heap.size := fun e => by have := B1.out _ e; omega
  have ne2 : (Value.slice a2 (ws Xa).length c2).ownBlock ≠ some U2.heap.size := fun e => by have := B2.out _ e; omega
  have ne4 : (Value.slice a4 (ws Xm).length c4).ownBlock ≠ some U2.heap.size := fun e => by have := B4.out _ e; omega
  have ne5 : (Value.slice a5 (ws Xm).length c5).ownBlock ≠ some U2.heap.size := fun e => by have := B5.out _ e; omega
  have M1 := N1.butne hb ne1
  have M2 := N2.butne hb ne2
  have M4 := N4.butne hb ne4
  have M5 := N5.butne hb ne5
  have LN := L.but hb (by omega) (by intro v hv; simp at hv; rcases hv with rfl | rfl | rfl; all_goals assumption)
  have S6 := (Aside.intro (And.intro LN (And.intro E1 (And.intro E2 (And.intro E4 (And.intro E5 (And.intro M1 (And.intro M2 (And.intro M4 M5)))))))))
  clear hb H LN S5 L D1 N1 D2 N2 D4 N4 D5 N5 O E1 M1 E2 M2 E4 M4 E5 M5 ne1 B1 ne2 B2 ne4 B4 ne5 B5
  obtain ⟨L, D1, D2, D4, D5, N1, N2, N4, N5⟩ := S6.out
  have H := hid (HM2.out U6 L.bel)
  clear L D1 N1 D2 N2 D4 N4 D5 N5
  go_wp2_with fail
  refine (Calls.mono H.out) ?_
  rintro r u7 ⟨⟨v, rfl, hN⟩, hb⟩
  obtain ⟨a7, c7, rfl, _⟩ := hN.arg (by omega)
  obtain ⟨L, D1, D2, D4, D5, N1, N2, N4, N5⟩ := S6.out
  have hs7 := hb.size
  obtain ⟨U7, hU7⟩ : ∃ U, U = u7.alloc (.cells #[.bool nm, .slice a7 (ws Xm).length c7, .int .i64 em] 43) := ⟨_, rfl⟩
  have hA : Below u7.heap.size u7 U7 := by rw [hU7]; exact below_alloc _ _
  have hz7 : u7.heap.size < U7.heap.size := by rw [hU7]; simp
  have DN : Dk U7 u7.heap.size nm (.slice a7 (ws Xm).length c7) em := by rw [hU7]; exact Dk.new _ _ _ _
  have B7 := Aside.intro hN.lt
  have NN := (hN.mono (lo' := w.heap.size) L.size).below hA
  have LN := (L.below hb).below hA
  have E1 := (D1.below hb).below hA
  have M1 := (N1.below hb).below hA
  have E2 := (D2.below hb).below hA
  have M2 := (N2.below hb).below hA
  have E4 := (D4.below hb).below hA
  have M4 := (N4.below hb).below hA
  have E5 := (D5.below hb).below hA
  have M5 := (N5.below hb).below hA
  have S7 := (Aside.intro (And.intro LN (And.intro E1 (And.intro E2 (And.intro E4 (And.intro E5 (And.intro DN (And.intro M1 (And.intro M2 (And.intro M4 (And.intro M5 NN)))))))))))
  clear hN hb H hA DN NN LN S6 L D1 N1 D2 N2 D4 N4 D5 N5 E1 M1 E2 M2 E4 M4 E5 M5 
  obtain ⟨L, D1, D2, D4, D5, D7, N1, N2, N4, N5, N7⟩ := S7.out
  have H := hid (HI.out U7 L.bel)
  clear L D1 N1 D2 N2 D4 N4 D5 N5 D7 N7
  go_wp2_with fail
  rw [← hU7]
  clear hU7
  refine (Calls.mono H.out) ?_
  rintro r u8 ⟨⟨v, rfl, hN⟩, hb⟩
  obtain ⟨a8, c8, rfl, _⟩ := hN.arg (by omega)
  obtain ⟨L, D1, D2, D4, D5, D7, N1, N2, N4, N5, N7⟩ := S7.out
  have hs8 := hb.size
  obtain ⟨U8, hU8⟩ : ∃ U, U = u8.alloc (.cells #[.bool ni, .slice a8 (ws Xi).length c8, .int .i64 ei] 43) := ⟨_, rfl⟩
  have hA : Below u8.heap.size u8 U8 := by rw [hU8]; exact below_alloc _ _
  have hz8 : u8.heap.size < U8.heap.size := by rw [hU8]; simp
  have DN : Dk U8 u8.heap.size ni (.slice a8 (ws Xi).length c8) ei := by rw [hU8]; exact Dk.new _ _ _ _
  have B8 := Aside.intro hN.lt
  have NN := (hN.mono (lo' := w.heap.size) L.size).below hA
  have LN := (L.add hb hN li).below hA
  have E1 := (D1.below hb).below hA
  have M1 := (N1.below hb).below hA
  have E2 := (D2.below hb).below hA
  have M2 := (N2.below hb).below hA
  have E4 := (D4.below hb).below hA
  have M4 := (N4.below hb).below hA
  have E5 := (D5.below hb).below hA
  have M5 := (N5.below hb).below hA
  have E7 := (D7.below hb).below hA
  have M7 := (N7.below hb).below hA
  have S8 := (Aside.intro (And.intro LN (And.intro E1 (And.intro E2 (And.intro E4 (And.intro E5 (And.intro E7 (And.intro DN (And.intro M1 (And.intro M2 (And.intro M4 (And.intro M5 (And.intro M7 NN)))))))))))))
  clear hN hb H hA DN NN LN S7 L D1 N1 D2 N2 D4 N4 D5 N5 D7 N7 E1 M1 E2 M2 E4 M4 E5 M5 E7 M7 
  obtain ⟨L, D1, D2, D4, D5, D7, D8, N1, N2, N4, N5, N7, N8⟩ := S8.out
  have H := hid (HI2.out U8 L.bel)
  clear L D1 N1 D2 N2 D4 N4 D5 N5 D7 N7 D8 N8
  go_wp2_with fail
  rw [← hU8]
  clear hU8
  refine (Calls.mono H.out) ?_
  rintro r u9 ⟨⟨v, rfl, hN⟩, hb⟩
  obtain ⟨a9, c9, rfl, _⟩ := hN.arg (by omega)
  obtain ⟨L, D1, D2, D4, D5, D7, D8, N1, N2, N4, N5, N7, N8⟩ := S8.out
  have hs9 := hb.size
  obtain ⟨U9, hU9⟩ : ∃ U, U = u9.alloc (.cells #[.bool ni, .slice a9 (ws Xi).length c9, .int .i64 ei] 43) := ⟨_, rfl⟩
  have hA : Below u9.heap.size u9 U9 := by rw [hU9]; exact below_alloc _ _
  have hz9 : u9.heap.size < U9.heap.size := by rw [hU9]; simp
  have DN : Dk U9 u9.heap.size ni (.slice a9 (ws Xi).length c9) ei := by rw [hU9]; exact Dk.new _ _ _ _
  have B9 := Aside.intro hN.lt
  have NN := (hN.mono (lo' := w.heap.size) L.size).below hA
  have LN := (L.below hb).below hA
  have E1 := (D1.below hb).below hA
  have M1 := (N1.below hb).below hA
  have E2 := (D2.below hb).below hA
  have M2 := (N2.below hb).below hA
  have E4 := (D4.below hb).below hA
  have M4 := (N4.below hb).below hA
  have E5 := (D5.below hb).below hA
  have M5 := (N5.below hb).below hA
  have E7 := (D7.below hb).below hA
  have M7 := (N7.below hb).below hA
  have E8 := (D8.below hb).below hA
  have M8 := (N8.below hb).below hA
  have S9 := (Aside.intro (And.intro LN (And.intro E1 (And.intro E2 (And.intro E4 (And.intro E5 (And.intro E7 (And.intro E8 (And.intro DN (And.intro M1 (And.intro M2 (And.intro M4 (And.intro M5 (And.intro M7 (And.intro M8 NN)))))))))))))))
  clear hN hb H hA DN NN LN S8 L D1 N1 D2 N2 D4 N4 D5 N5 D7 N7 D8 N8 E1 M1 E2 M2 E4 M4 E5 M5 E7 M7 E8 M8 
  obtain ⟨L, D1, D2, D4, D5, D7, D8, D9, N1, N2, N4, N5, N7, N8, N9⟩ := S9.out
  have H := hid (HO.out U9 L.bel)
  clear L D1 N1 D2 N2 D4 N4 D5 N5 D7 N7 D8 N8 D9 N9
  go_wp2_with fail
  rw [← hU9]
  clear hU9
  refine (Calls.mono H.out) ?_
  rintro r u10 ⟨⟨v, rfl, hN⟩, hb⟩
  obtain ⟨a10, c10, rfl, _⟩ := hN.arg (by omega)
  obtain ⟨L, D1, D2, D4, D5, D7, D8, D9, N1, N2, N4, N5, N7, N8, N9⟩ := S9.out
  have hs10 := hb.size
  obtain ⟨U10, hU10⟩ : ∃ U, U = u10.alloc (.cells #[.bool na, .slice a10 (ws Xa).length c10, .int .i64 ea] 43) := ⟨_, rfl⟩
  have hA : Below u10.heap.size u10 U10 := by rw [hU10]; exact below_alloc _ _
  have hz10 : u10.heap.size < U10.heap.size := by rw [hU10]; simp
  have DN : Dk U10 u10.heap.size na (.slice a10 (ws Xa).length c10) ea := by rw [hU10]; exact Dk.new _ _ _ _
  have B10 := Aside.intro hN.lt
  have NN := (hN.mono (lo' := w.heap.size) L.size).below hA
  have LN := (L.add hb hN la).below hA
  have E1 := (D1.below hb).below hA
  have M1 := (N1.below hb).below hA
  have E2 := (D2.below hb).below hA
  have M2 := (N2.below hb).below hA
  have E4 := (D4.below hb).below hA
  have M4 := (N4.below hb).below hA
  have E5 := (D5.below hb).below hA
  have M5 := (N5.below hb).below hA
  have E7 := (D7.below hb).below hA
  have M7 := (N7.below hb).below hA
  have E8 := (D8.below hb).below hA
  have M8 := (N8.below hb).below hA
  have E9 := (D9.below hb).below hA
  have M9 := (N9.below hb).below hA
  have S10 := (Aside.intro (And.intro LN (And.intro E1 (And.intro E2 (And.intro E4 (And.intro E5 (And.intro E7 (And.intro E8 (And.intro E9 (And.intro DN (And.intro M1 (And.intro M2 (And.intro M4 (And.intro M5 (And.intro M7 (And.intro M8 (And.intro M9 NN)))))))))))))))))
  clear hN hb H hA DN NN LN S9 L D1 N1 D2 N2 D4 N4 D5 N5 D7 N7 D8 N8 D9 N9 E1 M1 E2 M2 E4 M4 E5 M5 E7 M7 E8 M8 E9 M9 
  obtain ⟨L, D1, D2, D4, D5, D7, D8, D9, D10, N1, N2, N4, N5, N7, N8, N9, N10⟩ := S10.out
  obtain ⟨p10, p11, p12, q10, q11, q12⟩ := D1.facts
  obtain ⟨p20, p21, p22, q20, q21, q22⟩ := D2.facts
  obtain ⟨p40, p41, p42, q40, q41, q42⟩ := D4.facts
  obtain ⟨p50, p51, p52, q50, q51, q52⟩ := D5.facts
  obtain ⟨p70, p71, p72, q70, q71, q72⟩ := D7.facts
  obtain ⟨p80, p81, p82, q80, q81, q82⟩ := D8.facts
  obtain ⟨p90, p91, p92, q90, q91, q92⟩ := D9.facts
  obtain ⟨p100, p101, p102, q100, q101, q102⟩ := D10.facts
  clear L D1 N1 D2 N2 D4 N4 D5 N5 D7 N7 D8 N8 D9 N9 D10 N10
  go_upto_region 16 with fail
  rw [← hU10]
  clear hU10
  go_region_held3 (fun w' => w'.cell? ⟨u1.heap.size, 0, none⟩ = some (.bool na) ∧ w'.cell? ⟨u1.heap.size, 1, none⟩ = some (.slice a1 (ws Xa).length c1) ∧ w'.cell? ⟨u1.heap.size, 2, none⟩ = some (.int .i64 ea) ∧ w'.cell? ⟨u2.heap.size, 0, none⟩ = some (.bool na) ∧ w'.cell? ⟨u2.heap.size, 1, none⟩ = some (.slice a2 (ws Xa).length c2) ∧ w'.cell? ⟨u2.heap.size, 2, none⟩ = some (.int .i64 ea) ∧ w'.cell? ⟨u4.heap.size, 0, none⟩ = some (.bool nm) ∧ w'.cell? ⟨u4.heap.size, 1, none⟩ = some (.slice a4 (ws Xm).length c4) ∧ w'.cell? ⟨u4.heap.size, 2, none⟩ = some (.int .i64 em) ∧ w'.cell? ⟨u5.heap.size, 0, none⟩ = some (.bool nm) ∧ w'.cell? ⟨u5.heap.size, 1, none⟩ = some (.slice a5 (ws Xm).length c5) ∧ w'.cell? ⟨u5.heap.size, 2, none⟩ = some (.int .i64 em) ∧ w'.cell? ⟨u7.heap.size, 0, none⟩ = some (.bool nm) ∧ w'.cell? ⟨u7.heap.size, 1, none⟩ = some (.slice a7 (ws Xm).length c7) ∧ w'.cell? ⟨u7.heap.size, 2, none⟩ = some (.int .i64 em) ∧ w'.cell? ⟨u8.heap.size, 0, none⟩ = some (.bool ni) ∧ w'.cell? ⟨u8.heap.size, 1, none⟩ = some (.slice a8 (ws Xi).length c8) ∧ w'.cell? ⟨u8.heap.size, 2, none⟩ = some (.int .i64 ei) ∧ w'.cell? ⟨u9.heap.size, 0, none⟩ = some (.bool ni) ∧ w'.cell? ⟨u9.heap.size, 1, none⟩ = some (.slice a9 (ws Xi).length c9) ∧ w'.cell? ⟨u9.heap.size, 2, none⟩ = some (.int .i64 ei) ∧ w'.cell? ⟨u10.heap.size, 0, none⟩ = some (.bool na) ∧ w'.cell? ⟨u10.heap.size, 1, none⟩ = some (.slice a10 (ws Xa).length c10) ∧ w'.cell? ⟨u10.heap.size, 2, none⟩ = some (.int .i64 ea)) (go_keep) (first
    | (go_at_call 27
       refine (HI.out _ (by first | exact S10.out.1.bel | exact S10.out.1.bel.drew)).mono ?_
       rintro r u11 ⟨⟨v, rfl, hN⟩, hb⟩
       obtain ⟨a11, c11, rfl, _⟩ := hN.arg (by omega)
       have hbx : Below U10.heap.size U10 u11 := by first | exact hb | exact ((Below.refl _ U10).drew).trans (hb.mono (Nat.le_refl _))
       have hN11 : Nt U10.heap.size u11 (.slice a11 (ws Xi).length c11) Xi := hN
       obtain ⟨L, D1, D2, D4, D5, D7, D8, D9, D10, N1, N2, N4, N5, N7, N8, N9, N10⟩ := S10.out
       have L11 := L.add hbx hN11 li
       have hs11 := hbx.size
       have NI := hN11.mono (lo' := w.heap.size) L.size
       have F1 := D1.below hbx
       have M1 := N1.below hbx
       obtain ⟨s10, s11, s12, sf10, sf11, sf12⟩ := F1.facts
       have F2 := D2.below hbx
       have M2 := N2.below hbx
       obtain ⟨s20, s21, s22, sf20, sf21, sf22⟩ := F2.facts
       have F4 := D4.below hbx
       have M4 := N4.below hbx
       obtain ⟨s40, s41, s42, sf40, sf41, sf42⟩ := F4.facts
       have F5 := D5.below hbx
       have M5 := N5.below hbx
       obtain ⟨s50, s51, s52, sf50, sf51, sf52⟩ := F5.facts
       have F7 := D7.below hbx
       have M7 := N7.below hbx
       obtain ⟨s70, s71, s72, sf70, sf71, sf72⟩ := F7.facts
       have F8 := D8.below hbx
       have M8 := N8.below hbx
       obtain ⟨s80, s81, s82, sf80, sf81, sf82⟩ := F8.facts
       have F9 := D9.below hbx
       have M9 := N9.below hbx
       obtain ⟨s90, s91, s92, sf90, sf91, sf92⟩ := F9.facts
       have F10 := D10.below hbx
       have M10 := N10.below hbx
       obtain ⟨s100, s101, s102, sf100, sf101, sf102⟩ := F10.facts
       have S11 := (Aside.intro (And.intro L11 (And.intro F1 (And.intro F2 (And.intro F4 (And.intro F5 (And.intro F7 (And.intro F8 (And.intro F9 (And.intro F10 (And.intro M1 (And.intro M2 (And.intro M4 (And.intro M5 (And.intro M7 (And.intro M8 (And.intro M9 (And.intro M10 NI))))))))))))))))))
       clear hN hb hbx hN11 L11 NI L D1 N1 D2 N2 D4 N4 D5 N5 D7 N7 D8 N8 D9 N9 D10 N10 F1 M1 F2 M2 F4 M4 F5 M5 F7 M7 F8 M8 F9 M9 F10 M10)
    | (go_at_call 27
       refine (HI.out _ (by first | exact S10.out.1.bel.alloc S10.out.1.size _ | exact (S10.out.1.bel.alloc S10.out.1.size _).drew)).mono ?_
       rintro r u11 ⟨⟨v, rfl, hN⟩, hb⟩
       obtain ⟨a11, c11, rfl, _⟩ := hN.arg (by omega)
       have hb9 : Below (U10.alloc (.cells #[.bool na, .slice a2 (ws Xa).length c2, .int .i64 ea, .bool nm, .slice a7 (ws Xm).length c7, .int .i64 em, .bool nm, .slice a7 (ws Xm).length c7, .int .i64 em, .bool ni, .slice a9 (ws Xi).length c9, .int .i64 ei, .bool na, .slice a2 (ws Xa).length c2, .int .i64 ea, .bool ni, .slice a9 (ws Xi).length c9, .int .i64 ei] 43)).heap.size (U10.alloc (.cells #[.bool na, .slice a2 (ws Xa).length c2, .int .i64 ea, .bool nm, .slice a7 (ws Xm).length c7, .int .i64 em, .bool nm, .slice a7 (ws Xm).length c7, .int .i64 em, .bool ni, .slice a9 (ws Xi).length c9, .int .i64 ei, .bool na, .slice a2 (ws Xa).length c2, .int .i64 ea, .bool ni, .slice a9 (ws Xi).length c9, .int .i64 ei] 43)) u11 := by first | exact hb | exact ((Below.refl _ _).drew).trans (hb.mono (Nat.le_refl _))
       have hbx : Below U10.heap.size U10 u11 := (below_alloc U10 _).trans (hb9.mono (by simp))
       have hN11 : Nt U10.heap.size u11 (.slice a11 (ws Xi).length c11) Xi := hN.mono (by simp)
       have R0 : u11.heap[U10.heap.size]? = some (.cells #[.bool na, .slice a2 (ws Xa).length c2, .int .i64 ea, .bool nm, .slice a7 (ws Xm).length c7, .int .i64 em, .bool nm, .slice a7 (ws Xm).length c7, .int .i64 em, .bool ni, .slice a9 (ws Xi).length c9, .int .i64 ei, .bool na, .slice a2 (ws Xa).length c2, .int .i64 ea, .bool ni, .slice a9 (ws Xi).length c9, .int .i64 ei] 43 (0, 0)) := by rw [hb9.block _ (by simp)]; exact heap_alloc_new _ _
       have T11 := Aside.intro R0
       obtain ⟨L, D1, D2, D4, D5, D7, D8, D9, D10, N1, N2, N4, N5, N7, N8, N9, N10⟩ := S10.out
       have L11 := L.add hbx hN11 li
       have hs11 := hbx.size
       have NI := hN11.mono (lo' := w.heap.size) L.size
       have F1 := D1.below hbx
       have M1 := N1.below hbx
       obtain ⟨s10, s11, s12, sf10, sf11, sf12⟩ := F1.facts
       have F2 := D2.below hbx
       have M2 := N2.below hbx
       obtain ⟨s20, s21, s22, sf20, sf21, sf22⟩ := F2.facts
       have F4 := D4.below hbx
       have M4 := N4.below hbx
       obtain ⟨s40, s41, s42, sf40, sf41, sf42⟩ := F4.facts
       have F5 := D5.below hbx
       have M5 := N5.below hbx
       obtain ⟨s50, s51, s52, sf50, sf51, sf52⟩ := F5.facts
       have F7 := D7.below hbx
       have M7 := N7.below hbx
       obtain ⟨s70, s71, s72, sf70, sf71, sf72⟩ := F7.facts
       have F8 := D8.below hbx
       have M8 := N8.below hbx
       obtain ⟨s80, s81, s82, sf80, sf81, sf82⟩ := F8.facts
       have F9 := D9.below hbx
       have M9 := N9.below hbx
       obtain ⟨s90, s91, s92, sf90, sf91, sf92⟩ := F9.facts
       have F10 := D10.below hbx
       have M10 := N10.below hbx
       obtain ⟨s100, s101, s102, sf100, sf101, sf102⟩ := F10.facts
       have S11 := (Aside.intro (And.intro L11 (And.intro F1 (And.intro F2 (And.intro F4 (And.intro F5 (And.intro F7 (And.intro F8 (And.intro F9 (And.intro F10 (And.intro M1 (And.intro M2 (And.intro M4 (And.intro M5 (And.intro M7 (And.intro M8 (And.intro M9 (And.intro M10 NI))))))))))))))))))
       clear hN hb hb9 hbx hN11 R0 L11 NI L D1 N1 D2 N2 D4 N4 D5 N5 D7 N7 D8 N8 D9 N9 D10 N10 F1 M1 F2 M2 F4 M4 F5 M5 F7 M7 F8 M8 F9 M9 F10 M10)
    | (go_at_call 29
       obtain ⟨L11, F1, F2, F4, F5, F7, F8, F9, F10, M1, M2, M4, M5, M7, M8, M9, M10, NI⟩ := S11.out
       have hw : Below u11.heap.size u11 ((u11.alloc (.cells #[.bool na, .slice a1 (ws Xa).length c1, .int .i64 ea, .bool nm, .slice a4 (ws Xm).length c4, .int .i64 em, .bool nm, .slice a5 (ws Xm).length c5, .int .i64 em, .bool ni, .slice a8 (ws Xi).length c8, .int .i64 ei, .bool na, .slice a10 (ws Xa).length c10, .int .i64 ea, .bool ni, .slice a11 (ws Xi).length c11, .int .i64 ei] 43)).alloc (.cells #[.bool na, .slice a2 (ws Xa).length c2, .int .i64 ea, .bool nm, .slice a7 (ws Xm).length c7, .int .i64 em, .bool nm, .slice a7 (ws Xm).length c7, .int .i64 em, .bool ni, .slice a9 (ws Xi).length c9, .int .i64 ei, .bool na, .slice a2 (ws Xa).length c2, .int .i64 ea, .bool ni, .slice a9 (ws Xi).length c9, .int .i64 ei] 43)) := (below_alloc u11 _).alloc (by simp) _
       have hC : ((u11.alloc (.cells #[.bool na, .slice a1 (ws Xa).length c1, .int .i64 ea, .bool nm, .slice a4 (ws Xm).length c4, .int .i64 em, .bool nm, .slice a5 (ws Xm).length c5, .int .i64 em, .bool ni, .slice a8 (ws Xi).length c8, .int .i64 ei, .bool na, .slice a10 (ws Xa).length c10, .int .i64 ea, .bool ni, .slice a11 (ws Xi).length c11, .int .i64 ei] 43)).alloc (.cells #[.bool na, .slice a2 (ws Xa).length c2, .int .i64 ea, .bool nm, .slice a7 (ws Xm).length c7, .int .i64 em, .bool nm, .slice a7 (ws Xm).length c7, .int .i64 em, .bool ni, .slice a9 (ws Xi).length c9, .int .i64 ei, .bool na, .slice a2 (ws Xa).length c2, .int .i64 ea, .bool ni, .slice a9 (ws Xi).length c9, .int .i64 ei] 43)).heap[u11.heap.size]? = some (.cells (flat6 It.v ⟨na, .slice a1 (ws Xa).length c1, ea, .slice a2 (ws Xa).length c2, Xa⟩ ⟨nm, .slice a4 (ws Xm).length c4, em, .slice a7 (ws Xm).length c7, Xm⟩ ⟨nm, .slice a5 (ws Xm).length c5, em, .slice a7 (ws Xm).length c7, Xm⟩ ⟨ni, .slice a8 (ws Xi).length c8, ei, .slice a9 (ws Xi).length c9, Xi⟩ ⟨na, .slice a10 (ws Xa).length c10, ea, .slice a2 (ws Xa).length c2, Xa⟩ ⟨ni, .slice a11 (ws Xi).length c11, ei, .slice a9 (ws Xi).length c9, Xi⟩) 43 (0, 0)) := by rw [Below.heap_alloc _ _ _ (by simp)]; exact heap_alloc_new _ _
       have hW : ((u11.alloc (.cells #[.bool na, .slice a1 (ws Xa).length c1, .int .i64 ea, .bool nm, .slice a4 (ws Xm).length c4, .int .i64 em, .bool nm, .slice a5 (ws Xm).length c5, .int .i64 em, .bool ni, .slice a8 (ws Xi).length c8, .int .i64 ei, .bool na, .slice a10 (ws Xa).length c10, .int .i64 ea, .bool ni, .slice a11 (ws Xi).length c11, .int .i64 ei] 43)).alloc (.cells #[.bool na, .slice a2 (ws Xa).length c2, .int .i64 ea, .bool nm, .slice a7 (ws Xm).length c7, .int .i64 em, .bool nm, .slice a7 (ws Xm).length c7, .int .i64 em, .bool ni, .slice a9 (ws Xi).length c9, .int .i64 ei, .bool na, .slice a2 (ws Xa).length c2, .int .i64 ea, .bool ni, .slice a9 (ws Xi).length c9, .int .i64 ei] 43)).heap[u11.heap.size + 1]? = some (.cells (flat6 It.u ⟨na, .slice a1 (ws Xa).length c1, ea, .slice a2 (ws Xa).length c2, Xa⟩ ⟨nm, .slice a4 (ws Xm).length c4, em, .slice a7 (ws Xm).length c7, Xm⟩ ⟨nm, .slice a5 (ws Xm).length c5, em, .slice a7 (ws Xm).length c7, Xm⟩ ⟨ni, .slice a8 (ws Xi).length c8, ei, .slice a9 (ws Xi).length c9, Xi⟩ ⟨na, .slice a10 (ws Xa).length c10, ea, .slice a2 (ws Xa).length c2, Xa⟩ ⟨ni, .slice a11 (ws Xi).length c11, ei, .slice a9 (ws Xi).length c9, Xi⟩) 43 (0, 0)) := by have h := heap_alloc_new (u11.alloc (.cells #[.bool na, .slice a1 (ws Xa).length c1, .int .i64 ea, .bool nm, .slice a4 (ws Xm).length c4, .int .i64 em, .bool nm, .slice a5 (ws Xm).length c5, .int .i64 em, .bool ni, .slice a8 (ws Xi).length c8, .int .i64 ei, .bool na, .slice a10 (ws Xa).length c10, .int .i64 ea, .bool ni, .slice a11 (ws Xi).length c11, .int .i64 ei] 43)) (.cells #[.bool na, .slice a2 (ws Xa).length c2, .int .i64 ea, .bool nm, .slice a7 (ws Xm).length c7, .int .i64 em, .bool nm, .slice a7 (ws Xm).length c7, .int .i64 em, .bool ni, .slice a9 (ws Xi).length c9, .int .i64 ei, .bool na, .slice a2 (ws Xa).length c2, .int .i64 ea, .bool ni, .slice a9 (ws Xi).length c9, .int .i64 ei] 43); rw [size_alloc3] at h; exact h
       have hI : ∀ it ∈ it6 ⟨na, .slice a1 (ws Xa).length c1, ea, .slice a2 (ws Xa).length c2, Xa⟩ ⟨nm, .slice a4 (ws Xm).length c4, em, .slice a7 (ws Xm).length c7, Xm⟩ ⟨nm, .slice a5 (ws Xm).length c5, em, .slice a7 (ws Xm).length c7, Xm⟩ ⟨ni, .slice a8 (ws Xi).length c8, ei, .slice a9 (ws Xi).length c9, Xi⟩ ⟨na, .slice a10 (ws Xa).length c10, ea, .slice a2 (ws Xa).length c2, Xa⟩ ⟨ni, .slice a11 (ws Xi).length c11, ei, .slice a9 (ws Xi).length c9, Xi⟩, Nt w.heap.size ((u11.alloc (.cells #[.bool na, .slice a1 (ws Xa).length c1, .int .i64 ea, .bool nm, .slice a4 (ws Xm).length c4, .int .i64 em, .bool nm, .slice a5 (ws Xm).length c5, .int .i64 em, .bool ni, .slice a8 (ws Xi).length c8, .int .i64 ei, .bool na, .slice a10 (ws Xa).length c10, .int .i64 ea, .bool ni, .slice a11 (ws Xi).length c11, .int .i64 ei] 43)).alloc (.cells #[.bool na, .slice a2 (ws Xa).length c2, .int .i64 ea, .bool nm, .slice a7 (ws Xm).length c7, .int .i64 em, .bool nm, .slice a7 (ws Xm).length c7, .int .i64 em, .bool ni, .slice a9 (ws Xi).length c9, .int .i64 ei, .bool na, .slice a2 (ws Xa).length c2, .int .i64 ea, .bool ni, .slice a9 (ws Xi).length c9, .int .i64 ei] 43)) it.v it.X ∧ Nt w.heap.size ((u11.alloc (.cells #[.bool na, .slice a1 (ws Xa).length c1, .int .i64 ea, .bool nm, .slice a4 (ws Xm).length c4, .int .i64 em, .bool nm, .slice a5 (ws Xm).length c5, .int .i64 em, .bool ni, .slice a8 (ws Xi).length c8, .int .i64 ei, .bool na, .slice a10 (ws Xa).length c10, .int .i64 ea, .bool ni, .slice a11 (ws Xi).length c11, .int .i64 ei] 43)).alloc (.cells #[.bool na, .slice a2 (ws Xa).length c2, .int .i64 ea, .bool nm, .slice a7 (ws Xm).length c7, .int .i64 em, .bool nm, .slice a7 (ws Xm).length c7, .int .i64 em, .bool ni, .slice a9 (ws Xi).length c9, .int .i64 ei, .bool na, .slice a2 (ws Xa).length c2, .int .i64 ea, .bool ni, .slice a9 (ws Xi).length c9, .int .i64 ei] 43)) it.u it.X ∧ (ws it.X).length ≤ 8192 := by
         intro it h
         simp only [it6, List.mem_cons, List.not_mem_nil, or_false] at h
         rcases h with rfl | rfl | rfl | rfl | rfl | rfl
         · exact ⟨M1.below hw, M2.below hw, la⟩
         · exact ⟨M4.below hw, M7.below hw, lm⟩
         · exact ⟨M5.below hw, M7.below hw, lm⟩
         · exact ⟨M8.below hw, M9.below hw, li⟩
         · exact ⟨M10.below hw, M2.below hw, la⟩
         · exact ⟨NI.below hw, M9.below hw, li⟩
       have TK := took6 ⟨na, .slice a1 (ws Xa).length c1, ea, .slice a2 (ws Xa).length c2, Xa⟩ ⟨nm, .slice a4 (ws Xm).length c4, em, .slice a7 (ws Xm).length c7, Xm⟩ ⟨nm, .slice a5 (ws Xm).length c5, em, .slice a7 (ws Xm).length c7, Xm⟩ ⟨ni, .slice a8 (ws Xi).length c8, ei, .slice a9 (ws Xi).length c9, Xi⟩ ⟨na, .slice a10 (ws Xa).length c10, ea, .slice a2 (ws Xa).length c2, Xa⟩ ⟨ni, .slice a11 (ws Xi).length c11, ei, .slice a9 (ws Xi).length c9, Xi⟩ (u11.heap.size) (u11.heap.size + 1) w ((u11.alloc (.cells #[.bool na, .slice a1 (ws Xa).length c1, .int .i64 ea, .bool nm, .slice a4 (ws Xm).length c4, .int .i64 em, .bool nm, .slice a5 (ws Xm).length c5, .int .i64 em, .bool ni, .slice a8 (ws Xi).length c8, .int .i64 ei, .bool na, .slice a10 (ws Xa).length c10, .int .i64 ea, .bool ni, .slice a11 (ws Xi).length c11, .int .i64 ei] 43)).alloc (.cells #[.bool na, .slice a2 (ws Xa).length c2, .int .i64 ea, .bool nm, .slice a7 (ws Xm).length c7, .int .i64 em, .bool nm, .slice a7 (ws Xm).length c7, .int .i64 em, .bool ni, .slice a9 (ws Xi).length c9, .int .i64 ei, .bool na, .slice a2 (ws Xa).length c2, .int .i64 ea, .bool ni, .slice a9 (ws Xi).length c9, .int .i64 ei] 43)) (L11.below hw) hC hW hI
       with_reducible refine (Calls.mono TK) ?_
       rintro r u12 ⟨rfl, hb, hk⟩
       obtain ⟨t10, t11, t12, tf10, tf11, tf12⟩ := ((F1.below hw).keep0 hk).facts
       obtain ⟨t20, t21, t22, tf20, tf21, tf22⟩ := ((F2.below hw).keep0 hk).facts
       obtain ⟨t40, t41, t42, tf40, tf41, tf42⟩ := ((F4.below hw).keep0 hk).facts
       obtain ⟨t50, t51, t52, tf50, tf51, tf52⟩ := ((F5.below hw).keep0 hk).facts
       obtain ⟨t70, t71, t72, tf70, tf71, tf72⟩ := ((F7.below hw).keep0 hk).facts
       obtain ⟨t80, t81, t82, tf80, tf81, tf82⟩ := ((F8.below hw).keep0 hk).facts
       obtain ⟨t90, t91, t92, tf90, tf91, tf92⟩ := ((F9.below hw).keep0 hk).facts
       obtain ⟨t100, t101, t102, tf100, tf101, tf102⟩ := ((F10.below hw).keep0 hk).facts
       have S12 := Aside.intro hb
       clear hb hk hw hC hW hI TK L11 NI F1 M1 F2 M2 F4 M4 F5 M5 F7 M7 F8 M8 F9 M9 F10 M10)
    | (go_at_call 29
       obtain ⟨L11, F1, F2, F4, F5, F7, F8, F9, F10, M1, M2, M4, M5, M7, M8, M9, M10, NI⟩ := S11.out
       have hw : Below u11.heap.size u11 ((u11.alloc (.cells #[.bool na, .slice a2 (ws Xa).length c2, .int .i64 ea, .bool nm, .slice a7 (ws Xm).length c7, .int .i64 em, .bool nm, .slice a7 (ws Xm).length c7, .int .i64 em, .bool ni, .slice a9 (ws Xi).length c9, .int .i64 ei, .bool na, .slice a2 (ws Xa).length c2, .int .i64 ea, .bool ni, .slice a9 (ws Xi).length c9, .int .i64 ei] 43)).alloc (.cells #[.bool na, .slice a1 (ws Xa).length c1, .int .i64 ea, .bool nm, .slice a4 (ws Xm).length c4, .int .i64 em, .bool nm, .slice a5 (ws Xm).length c5, .int .i64 em, .bool ni, .slice a8 (ws Xi).length c8, .int .i64 ei, .bool na, .slice a10 (ws Xa).length c10, .int .i64 ea, .bool ni, .slice a11 (ws Xi).length c11, .int .i64 ei] 43)) := (below_alloc u11 _).alloc (by simp) _
       have hC : ((u11.alloc (.cells #[.bool na, .slice a2 (ws Xa).length c2, .int .i64 ea, .bool nm, .slice a7 (ws Xm).length c7, .int .i64 em, .bool nm, .slice a7 (ws Xm).length c7, .int .i64 em, .bool ni, .slice a9 (ws Xi).length c9, .int .i64 ei, .bool na, .slice a2 (ws Xa).length c2, .int .i64 ea, .bool ni, .slice a9 (ws Xi).length c9, .int .i64 ei] 43)).alloc (.cells #[.bool na, .slice a1 (ws Xa).length c1, .int .i64 ea, .bool nm, .slice a4 (ws Xm).length c4, .int .i64 em, .bool nm, .slice a5 (ws Xm).length c5, .int .i64 em, .bool ni, .slice a8 (ws Xi).length c8, .int .i64 ei, .bool na, .slice a10 (ws Xa).length c10, .int .i64 ea, .bool ni, .slice a11 (ws Xi).length c11, .int .i64 ei] 43)).heap[u11.heap.size + 1]? = some (.cells (flat6 It.v ⟨na, .slice a1 (ws Xa).length c1, ea, .slice a2 (ws Xa).length c2, Xa⟩ ⟨nm, .slice a4 (ws Xm).length c4, em, .slice a7 (ws Xm).length c7, Xm⟩ ⟨nm, .slice a5 (ws Xm).length c5, em, .slice a7 (ws Xm).length c7, Xm⟩ ⟨ni, .slice a8 (ws Xi).length c8, ei, .slice a9 (ws Xi).length c9, Xi⟩ ⟨na, .slice a10 (ws Xa).length c10, ea, .slice a2 (ws Xa).length c2, Xa⟩ ⟨ni, .slice a11 (ws Xi).length c11, ei, .slice a9 (ws Xi).length c9, Xi⟩) 43 (0, 0)) := by have h := heap_alloc_new (u11.alloc (.cells #[.bool na, .slice a2 (ws Xa).length c2, .int .i64 ea, .bool nm, .slice a7 (ws Xm).length c7, .int .i64 em, .bool nm, .slice a7 (ws Xm).length c7, .int .i64 em, .bool ni, .slice a9 (ws Xi).length c9, .int .i64 ei, .bool na, .slice a2 (ws Xa).length c2, .int .i64 ea, .bool ni, .slice a9 (ws Xi).length c9, .int .i64 ei] 43)) (.cells #[.bool na, .slice a1 (ws Xa).length c1, .int .i64 ea, .bool nm, .slice a4 (ws Xm).length c4, .int .i64 em, .bool nm, .slice a5 (ws Xm).length c5, .int .i64 em, .bool ni, .slice a8 (ws Xi).length c8, .int .i64 ei, .bool na, .slice a10 (ws Xa).length c10, .int .i64 ea, .bool ni, .slice a11 (ws Xi).length c11, .int .i64 ei] 43); rw [size_alloc3] at h; exact h
       have hW : ((u11.alloc (.cells #[.bool na, .slice a2 (ws Xa).length c2, .int .i64 ea, .bool nm, .slice a7 (ws Xm).length c7, .int .i64 em, .bool nm, .slice a7 (ws Xm).length c7, .int .i64 em, .bool ni, .slice a9 (ws Xi).length c9, .int .i64 ei, .bool na, .slice a2 (ws Xa).length c2, .int .i64 ea, .bool ni, .slice a9 (ws Xi).length c9, .int .i64 ei] 43)).alloc (.cells #[.bool na, .slice a1 (ws Xa).length c1, .int .i64 ea, .bool nm, .slice a4 (ws Xm).length c4, .int .i64 em, .bool nm, .slice a5 (ws Xm).length c5, .int .i64 em, .bool ni, .slice a8 (ws Xi).length c8, .int .i64 ei, .bool na, .slice a10 (ws Xa).length c10, .int .i64 ea, .bool ni, .slice a11 (ws Xi).length c11, .int .i64 ei] 43)).heap[u11.heap.size]? = some (.cells (flat6 It.u ⟨na, .slice a1 (ws Xa).length c1, ea, .slice a2 (ws Xa).length c2, Xa⟩ ⟨nm, .slice a4 (ws Xm).length c4, em, .slice a7 (ws Xm).length c7, Xm⟩ ⟨nm, .slice a5 (ws Xm).length c5, em, .slice a7 (ws Xm).length c7, Xm⟩ ⟨ni, .slice a8 (ws Xi).length c8, ei, .slice a9 (ws Xi).length c9, Xi⟩ ⟨na, .slice a10 (ws Xa).length c10, ea, .slice a2 (ws Xa).length c2, Xa⟩ ⟨ni, .slice a11 (ws Xi).length c11, ei, .slice a9 (ws Xi).length c9, Xi⟩) 43 (0, 0)) := by rw [Below.heap_alloc _ _ _ (by simp)]; exact heap_alloc_new _ _
       have hI : ∀ it ∈ it6 ⟨na, .slice a1 (ws Xa).length c1, ea, .slice a2 (ws Xa).length c2, Xa⟩ ⟨nm, .slice a4 (ws Xm).length c4, em, .slice a7 (ws Xm).length c7, Xm⟩ ⟨nm, .slice a5 (ws Xm).length c5, em, .slice a7 (ws Xm).length c7, Xm⟩ ⟨ni, .slice a8 (ws Xi).length c8, ei, .slice a9 (ws Xi).length c9, Xi⟩ ⟨na, .slice a10 (ws Xa).length c10, ea, .slice a2 (ws Xa).length c2, Xa⟩ ⟨ni, .slice a11 (ws Xi).length c11, ei, .slice a9 (ws Xi).length c9, Xi⟩, Nt w.heap.size ((u11.alloc (.cells #[.bool na, .slice a2 (ws Xa).length c2, .int .i64 ea, .bool nm, .slice a7 (ws Xm).length c7, .int .i64 em, .bool nm, .slice a7 (ws Xm).length c7, .int .i64 em, .bool ni, .slice a9 (ws Xi).length c9, .int .i64 ei, .bool na, .slice a2 (ws Xa).length c2, .int .i64 ea, .bool ni, .slice a9 (ws Xi).length c9, .int .i64 ei] 43)).alloc (.cells #[.bool na, .slice a1 (ws Xa).length c1, .int .i64 ea, .bool nm, .slice a4 (ws Xm).length c4, .int .i64 em, .bool nm, .slice a5 (ws Xm).length c5, .int .i64 em, .bool ni, .slice a8 (ws Xi).length c8, .int .i64 ei, .bool na, .slice a10 (ws Xa).length c10, .int .i64 ea, .bool ni, .slice a11 (ws Xi).length c11, .int .i64 ei] 43)) it.v it.X ∧ Nt w.heap.size ((u11.alloc (.cells #[.bool na, .slice a2 (ws Xa).length c2, .int .i64 ea, .bool nm, .slice a7 (ws Xm).length c7, .int .i64 em, .bool nm, .slice a7 (ws Xm).length c7, .int .i64 em, .bool ni, .slice a9 (ws Xi).length c9, .int .i64 ei, .bool na, .slice a2 (ws Xa).length c2, .int .i64 ea, .bool ni, .slice a9 (ws Xi).length c9, .int .i64 ei] 43)).alloc (.cells #[.bool na, .slice a1 (ws Xa).length c1, .int .i64 ea, .bool nm, .slice a4 (ws Xm).length c4, .int .i64 em, .bool nm, .slice a5 (ws Xm).length c5, .int .i64 em, .bool ni, .slice a8 (ws Xi).length c8, .int .i64 ei, .bool na, .slice a10 (ws Xa).length c10, .int .i64 ea, .bool ni, .slice a11 (ws Xi).length c11, .int .i64 ei] 43)) it.u it.X ∧ (ws it.X).length ≤ 8192 := by
         intro it h
         simp only [it6, List.mem_cons, List.not_mem_nil, or_false] at h
         rcases h with rfl | rfl | rfl | rfl | rfl | rfl
         · exact ⟨M1.below hw, M2.below hw, la⟩
         · exact ⟨M4.below hw, M7.below hw, lm⟩
         · exact ⟨M5.below hw, M7.below hw, lm⟩
         · exact ⟨M8.below hw, M9.below hw, li⟩
         · exact ⟨M10.below hw, M2.below hw, la⟩
         · exact ⟨NI.below hw, M9.below hw, li⟩
       have TK := took6 ⟨na, .slice a1 (ws Xa).length c1, ea, .slice a2 (ws Xa).length c2, Xa⟩ ⟨nm, .slice a4 (ws Xm).length c4, em, .slice a7 (ws Xm).length c7, Xm⟩ ⟨nm, .slice a5 (ws Xm).length c5, em, .slice a7 (ws Xm).length c7, Xm⟩ ⟨ni, .slice a8 (ws Xi).length c8, ei, .slice a9 (ws Xi).length c9, Xi⟩ ⟨na, .slice a10 (ws Xa).length c10, ea, .slice a2 (ws Xa).length c2, Xa⟩ ⟨ni, .slice a11 (ws Xi).length c11, ei, .slice a9 (ws Xi).length c9, Xi⟩ (u11.heap.size + 1) (u11.heap.size) w ((u11.alloc (.cells #[.bool na, .slice a2 (ws Xa).length c2, .int .i64 ea, .bool nm, .slice a7 (ws Xm).length c7, .int .i64 em, .bool nm, .slice a7 (ws Xm).length c7, .int .i64 em, .bool ni, .slice a9 (ws Xi).length c9, .int .i64 ei, .bool na, .slice a2 (ws Xa).length c2, .int .i64 ea, .bool ni, .slice a9 (ws Xi).length c9, .int .i64 ei] 43)).alloc (.cells #[.bool na, .slice a1 (ws Xa).length c1, .int .i64 ea, .bool nm, .slice a4 (ws Xm).length c4, .int .i64 em, .bool nm, .slice a5 (ws Xm).length c5, .int .i64 em, .bool ni, .slice a8 (ws Xi).length c8, .int .i64 ei, .bool na, .slice a10 (ws Xa).length c10, .int .i64 ea, .bool ni, .slice a11 (ws Xi).length c11, .int .i64 ei] 43)) (L11.below hw) hC hW hI
       with_reducible refine (Calls.mono TK) ?_
       rintro r u12 ⟨rfl, hb, hk⟩
       obtain ⟨t10, t11, t12, tf10, tf11, tf12⟩ := ((F1.below hw).keep0 hk).facts
       obtain ⟨t20, t21, t22, tf20, tf21, tf22⟩ := ((F2.below hw).keep0 hk).facts
       obtain ⟨t40, t41, t42, tf40, tf41, tf42⟩ := ((F4.below hw).keep0 hk).facts
       obtain ⟨t50, t51, t52, tf50, tf51, tf52⟩ := ((F5.below hw).keep0 hk).facts
       obtain ⟨t70, t71, t72, tf70, tf71, tf72⟩ := ((F7.below hw).keep0 hk).facts
       obtain ⟨t80, t81, t82, tf80, tf81, tf82⟩ := ((F8.below hw).keep0 hk).facts
       obtain ⟨t90, t91, t92, tf90, tf91, tf92⟩ := ((F9.below hw).keep0 hk).facts
       obtain ⟨t100, t101, t102, tf100, tf101, tf102⟩ := ((F10.below hw).keep0 hk).facts
       have S12 := Aside.intro hb
       clear hb hk hw hC hW hI TK L11 NI F1 M1 F2 M2 F4 M4 F5 M5 F7 M7 F8 M8 F9 M9 F10 M10)
    | (go_at_call 29
       obtain ⟨L11, F1, F2, F4, F5, F7, F8, F9, F10, M1, M2, M4, M5, M7, M8, M9, M10, NI⟩ := S11.out
       have hw : Below u11.heap.size u11 (u11.alloc (.cells #[.bool na, .slice a1 (ws Xa).length c1, .int .i64 ea, .bool nm, .slice a4 (ws Xm).length c4, .int .i64 em, .bool nm, .slice a5 (ws Xm).length c5, .int .i64 em, .bool ni, .slice a8 (ws Xi).length c8, .int .i64 ei, .bool na, .slice a10 (ws Xa).length c10, .int .i64 ea, .bool ni, .slice a11 (ws Xi).length c11, .int .i64 ei] 43)) := below_alloc u11 _
       have hC : (u11.alloc (.cells #[.bool na, .slice a1 (ws Xa).length c1, .int .i64 ea, .bool nm, .slice a4 (ws Xm).length c4, .int .i64 em, .bool nm, .slice a5 (ws Xm).length c5, .int .i64 em, .bool ni, .slice a8 (ws Xi).length c8, .int .i64 ei, .bool na, .slice a10 (ws Xa).length c10, .int .i64 ea, .bool ni, .slice a11 (ws Xi).length c11, .int .i64 ei] 43)).heap[u11.heap.size]? = some (.cells (flat6 It.v ⟨na, .slice a1 (ws Xa).length c1, ea, .slice a2 (ws Xa).length c2, Xa⟩ ⟨nm, .slice a4 (ws Xm).length c4, em, .slice a7 (ws Xm).length c7, Xm⟩ ⟨nm, .slice a5 (ws Xm).length c5, em, .slice a7 (ws Xm).length c7, Xm⟩ ⟨ni, .slice a8 (ws Xi).length c8, ei, .slice a9 (ws Xi).length c9, Xi⟩ ⟨na, .slice a10 (ws Xa).length c10, ea, .slice a2 (ws Xa).length c2, Xa⟩ ⟨ni, .slice a11 (ws Xi).length c11, ei, .slice a9 (ws Xi).length c9, Xi⟩) 43 (0, 0)) := heap_alloc_new _ _
       have hW : (u11.alloc (.cells #[.bool na, .slice a1 (ws Xa).length c1, .int .i64 ea, .bool nm, .slice a4 (ws Xm).length c4, .int .i64 em, .bool nm, .slice a5 (ws Xm).length c5, .int .i64 em, .bool ni, .slice a8 (ws Xi).length c8, .int .i64 ei, .bool na, .slice a10 (ws Xa).length c10, .int .i64 ea, .bool ni, .slice a11 (ws Xi).length c11, .int .i64 ei] 43)).heap[U10.heap.size]? = some (.cells (flat6 It.u ⟨na, .slice a1 (ws Xa).length c1, ea, .slice a2 (ws Xa).length c2, Xa⟩ ⟨nm, .slice a4 (ws Xm).length c4, em, .slice a7 (ws Xm).length c7, Xm⟩ ⟨nm, .slice a5 (ws Xm).length c5, em, .slice a7 (ws Xm).length c7, Xm⟩ ⟨ni, .slice a8 (ws Xi).length c8, ei, .slice a9 (ws Xi).length c9, Xi⟩ ⟨na, .slice a10 (ws Xa).length c10, ea, .slice a2 (ws Xa).length c2, Xa⟩ ⟨ni, .slice a11 (ws Xi).length c11, ei, .slice a9 (ws Xi).length c9, Xi⟩) 43 (0, 0)) := by rw [Below.heap_alloc _ _ _ (Array.getElem?_eq_some_iff.1 T11.out).1]; exact T11.out
       have hI : ∀ it ∈ it6 ⟨na, .slice a1 (ws Xa).length c1, ea, .slice a2 (ws Xa).length c2, Xa⟩ ⟨nm, .slice a4 (ws Xm).length c4, em, .slice a7 (ws Xm).length c7, Xm⟩ ⟨nm, .slice a5 (ws Xm).length c5, em, .slice a7 (ws Xm).length c7, Xm⟩ ⟨ni, .slice a8 (ws Xi).length c8, ei, .slice a9 (ws Xi).length c9, Xi⟩ ⟨na, .slice a10 (ws Xa).length c10, ea, .slice a2 (ws Xa).length c2, Xa⟩ ⟨ni, .slice a11 (ws Xi).length c11, ei, .slice a9 (ws Xi).length c9, Xi⟩, Nt w.heap.size (u11.alloc (.cells #[.bool na, .slice a1 (ws Xa).length c1, .int .i64 ea, .bool nm, .slice a4 (ws Xm).length c4, .int .i64 em, .bool nm, .slice a5 (ws Xm).length c5, .int .i64 em, .bool ni, .slice a8 (ws Xi).length c8, .int .i64 ei, .bool na, .slice a10 (ws Xa).length c10, .int .i64 ea, .bool ni, .slice a11 (ws Xi).length c11, .int .i64 ei] 43)) it.v it.X ∧ Nt w.heap.size (u11.alloc (.cells #[.bool na, .slice a1 (ws Xa).length c1, .int .i64 ea, .bool nm, .slice a4 (ws Xm).length c4, .int .i64 em, .bool nm, .slice a5 (ws Xm).length c5, .int .i64 em, .bool ni, .slice a8 (ws Xi).length c8, .int .i64 ei, .bool na, .slice a10 (ws Xa).length c10, .int .i64 ea, .bool ni, .slice a11 (ws Xi).length c11, .int .i64 ei] 43)) it.u it.X ∧ (ws it.X).length ≤ 8192 := by
         intro it h
         simp only [it6, List.mem_cons, List.not_mem_nil, or_false] at h
         rcases h with rfl | rfl | rfl | rfl | rfl | rfl
         · exact ⟨M1.below hw, M2.below hw, la⟩
         · exact ⟨M4.below hw, M7.below hw, lm⟩
         · exact ⟨M5.below hw, M7.below hw, lm⟩
         · exact ⟨M8.below hw, M9.below hw, li⟩
         · exact ⟨M10.below hw, M2.below hw, la⟩
         · exact ⟨NI.below hw, M9.below hw, li⟩
       have TK := took6 ⟨na, .slice a1 (ws Xa).length c1, ea, .slice a2 (ws Xa).length c2, Xa⟩ ⟨nm, .slice a4 (ws Xm).length c4, em, .slice a7 (ws Xm).length c7, Xm⟩ ⟨nm, .slice a5 (ws Xm).length c5, em, .slice a7 (ws Xm).length c7, Xm⟩ ⟨ni, .slice a8 (ws Xi).length c8, ei, .slice a9 (ws Xi).length c9, Xi⟩ ⟨na, .slice a10 (ws Xa).length c10, ea, .slice a2 (ws Xa).length c2, Xa⟩ ⟨ni, .slice a11 (ws Xi).length c11, ei, .slice a9 (ws Xi).length c9, Xi⟩ (u11.heap.size) (U10.heap.size) w (u11.alloc (.cells #[.bool na, .slice a1 (ws Xa).length c1, .int .i64 ea, .bool nm, .slice a4 (ws Xm).length c4, .int .i64 em, .bool nm, .slice a5 (ws Xm).length c5, .int .i64 em, .bool ni, .slice a8 (ws Xi).length c8, .int .i64 ei, .bool na, .slice a10 (ws Xa).length c10, .int .i64 ea, .bool ni, .slice a11 (ws Xi).length c11, .int .i64 ei] 43)) (L11.below hw) hC hW hI
       with_reducible refine (Calls.mono TK) ?_
       rintro r u12 ⟨rfl, hb, hk⟩
       obtain ⟨t10, t11, t12, tf10, tf11, tf12⟩ := ((F1.below hw).keep0 hk).facts
       obtain ⟨t20, t21, t22, tf20, tf21, tf22⟩ := ((F2.below hw).keep0 hk).facts
       obtain ⟨t40, t41, t42, tf40, tf41, tf42⟩ := ((F4.below hw).keep0 hk).facts
       obtain ⟨t50, t51, t52, tf50, tf51, tf52⟩ := ((F5.below hw).keep0 hk).facts
       obtain ⟨t70, t71, t72, tf70, tf71, tf72⟩ := ((F7.below hw).keep0 hk).facts
       obtain ⟨t80, t81, t82, tf80, tf81, tf82⟩ := ((F8.below hw).keep0 hk).facts
       obtain ⟨t90, t91, t92, tf90, tf91, tf92⟩ := ((F9.below hw).keep0 hk).facts
       obtain ⟨t100, t101, t102, tf100, tf101, tf102⟩ := ((F10.below hw).keep0 hk).facts
       have S12 := Aside.intro hb
       clear hb hk hw hC hW hI TK L11 NI F1 M1 F2 M2 F4 M4 F5 M5 F7 M7 F8 M8 F9 M9 F10 M10))
  all_goals (
    go_wp2
    go_ret
    exact ⟨rfl, S12.out⟩)
end Go.Proofs.YtlhiccmdhnhdeaaDoor

namespace Go.Proofs.YtlhiccmdhnhdeaaDoor
open Go.RowKit
set_option linter.unusedVariables false
set_option maxRecDepth 20000

theorem ofR_len (s : Bool) (e f : Nat) : (ws (dX (ofR s e f))).length ≤ 8192 := by
  unfold ofR
  by_cases h : e = 2047
  · rw [if_pos h]; show (ws 0).length ≤ 8192; rw [ws_zero]; exact Nat.zero_le _
  · rw [if_neg h]; exact mkS_len _ _ _

theorem makes_any (s : Bool) (e f : Nat) (he : e < 2048) (hf : f < 4503599627370496) (neg : Bool) (aM : Option Addr) (nM cM : Nat) (xs : List Nat) (exp n : Int) (w : World) (hT : Tab w) (w0 : Arg w aM nM cM xs) (bM : nM ≤ 1048576)
    (e0 : -9223372036854775808 ≤ exp) (e1 : exp ≤ 9223372036854775807) (n0 : -9223372036854775808 ≤ n) (n1 : n ≤ 9223372036854775807) :
    Calls Tryd.prog 5 #[.float .f64 (B.bw s e f), .bool neg, .slice aM nM cM, .int .i64 exp, .int .i64 n] w fun r w' => r = .returned (.bool true) ∧ Below w.heap.size w w' :=
  makes_core (B.bw s e f) neg aM nM cM xs exp n w bM w0 hT _ _ _ _ _ _ _ _ _ _ _ (ofR_len s e f) (mkS_len neg (val xs) exp) (mkS_len (decide (n < 0)) n.natAbs 0)
    (hid fun u hu => Of_any s e f he hf u (hT.belows hu))
    (hid fun u _ => rOf3_any s e f he hf u)
    (hid fun u p q hu hA => Make_any hA (hT.belows hu) neg exp e0 e1)
    (hid fun u hu => rMake_any (w0.below hu) (by omega) neg exp e0 e1)
    (hid fun u hu => Int_any n u (hT.belows hu) n0 n1)
    (hid fun u _ => rInt_any n u n0 n1)

theorem makes_all (b : Nat) (neg : Bool) (aM : Option Addr) (nM cM : Nat) (xs : List Nat) (exp n : Int) (w : World) (hT : Tab w) (hb : b < 18446744073709551616) (w0 : Arg w aM nM cM xs) (bM : nM ≤ 1048576)
    (e0 : -9223372036854775808 ≤ exp) (e1 : exp ≤ 9223372036854775807) (n0 : -9223372036854775808 ≤ n) (n1 : n ≤ 9223372036854775807) :
    Calls Tryd.prog 5 #[.float .f64 b, .bool neg, .slice aM nM cM, .int .i64 exp, .int .i64 n] w fun r w' => r = .returned (.bool true) ∧ Below w.heap.size w w' := by
  obtain ⟨s, e, f, he, hf, rfl⟩ := B.bw_of b hb
  exact makes_any s e f he hf neg aM nM cM xs exp n w hT w0 bM e0 e1 n0 n1

theorem wf64f {a : Nat} (h : (Lit.float .f64 a).wf = true) : a < 18446744073709551616 := by
  simpa [Lit.wf] using h
theorem wfi64 {a : Int} (h : (Lit.int .i64 a).wf = true) : -9223372036854775808 ≤ a ∧ a ≤ 9223372036854775807 := by
  simp [Lit.wf, IntKind.min, IntKind.max, IntKind.signed, IntKind.bits] at h
  omega

theorem walk_DyadMakes (b : Nat) (neg : Bool) (aM : Option Addr) (nM cM : Nat) (xs : List Nat) (exp n : Int) (w : World) (hT : Tab w) (w0 : (Lit.float .f64 b).wf = true) (w2 : Came w aM nM cM xs) (w3 : (Lit.int .i64 exp).wf = true) (w4 : (Lit.int .i64 n).wf = true) (bM : nM ≤ 1048576) :
    Calls Tryd.prog 5 #[.float .f64 b, .bool neg, .slice aM nM cM, .int .i64 exp, .int .i64 n] w fun r w' => r = .returned (.bool true) ∧ Below w.heap.size w w' :=
  makes_all b neg aM nM cM xs exp n w hT (wf64f w0) (w2.arg (by omega)) bM (wfi64 w3).1 (wfi64 w3).2 (wfi64 w4).1 (wfi64 w4).2
end Go.Proofs.YtlhiccmdhnhdeaaDoor

