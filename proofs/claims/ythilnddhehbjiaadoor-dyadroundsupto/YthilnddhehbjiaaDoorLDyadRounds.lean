/- DyadRounds: the walk. -/
import Derived.Test.YthilnddhehbjiaaDoorD34
import Derived.Test.YthilnddhehbjiaaDoorBExtx
import Derived.Test.YthilnddhehbjiaaDoorO6x
import Derived.Test.YthilnddhehbjiaaDoorO10x
import Derived.Test.YthilnddhehbjiaaDoorD29
import Derived.Deep.Cut
namespace Go.Proofs.YthilnddhehbjiaaDoor
open Go.RowKit
attribute [local go_sem] B.f64bits B.f32bits
set_option linter.unusedVariables false
set_option maxRecDepth 20000
set_option linter.unusedSimpArgs false

theorem alike_any (x : Nat) (w : World) : Calls Tryd.prog 45 #[.float .f64 x, .float .f64 x] w fun r w' => r = .returned (.bool true) ∧ w' = w := by
  go_enter Tryd.func45, Tryd.ntmps45
  go_wp2
  go_ret
  exact ⟨by simp, rfl⟩
theorem alike32_any (x : Nat) (w : World) : Calls Tryd.prog 46 #[.float .f32 x, .float .f32 x] w fun r w' => r = .returned (.bool true) ∧ w' = w := by
  go_enter Tryd.func46, Tryd.ntmps46
  go_wp2
  go_ret
  exact ⟨by simp, rfl⟩

set_option maxHeartbeats 8000000 in
set_option maxRecDepth 100000 in
theorem rounds_core (nA : Bool) (aA : Option Addr) (lA cA : Nat) (xs : List Nat) (eA mode : Int) (w : World) (bA : lA ≤ 1048576) (w0 : Arg w aA lA cA xs) (hT : Tab w) (x y : Nat) (er es : Int)
    (HR : Hid (∀ (u : World) (p : Option Addr) (s : Nat), Below w.heap.size w u → Arg u p lA s xs → Calls Tryd.prog 41 #[.agg #[.bool nA, .slice p lA s, .int .i64 eA], .int .i64 mode] u fun r w' => r = .returned (.tuple #[.float .f64 x, .int .i64 er]) ∧ Below u.heap.size u w'))
    (HS : Hid (∀ (u : World) (p : Option Addr) (s : Nat), Below w.heap.size w u → Arg u p lA s xs → Calls Tryd.prog 42 #[.agg #[.bool nA, .slice p lA s, .int .i64 eA], .int .i64 mode] u fun r w' => r = .returned (.tuple #[.float .f32 y, .int .i64 es]) ∧ Below u.heap.size u w'))
    (RR : Hid (∀ (u : World), Below w.heap.size w u → Calls Tryd.prog 43 #[.agg #[.bool nA, .slice aA lA cA, .int .i64 eA], .int .i64 mode] u fun r w' => r = .returned (.tuple #[.float .f64 x, .int .i64 er]) ∧ Below u.heap.size u w'))
    (RS : Hid (∀ (u : World), Below w.heap.size w u → Calls Tryd.prog 44 #[.agg #[.bool nA, .slice aA lA cA, .int .i64 eA], .int .i64 mode] u fun r w' => r = .returned (.tuple #[.float .f32 y, .int .i64 es]) ∧ Below u.heap.size u w')) :
    Calls Tryd.prog 8 #[.agg #[.bool nA, .slice aA lA cA, .int .i64 eA], .int .i64 mode] w fun r w' => r = .returned (.bool true) ∧ Below w.heap.size w w' := by
  obtain ⟨W1, hW1⟩ : ∃ W, W = w.alloc (.cells #[.bool nA, .slice aA lA cA, .int .i64 eA] 39) := ⟨_, rfl⟩
  have hB : Below w.heap.size w W1 := by rw [hW1]; exact below_alloc w _
  have hz : w.heap.size < W1.heap.size := by rw [hW1]; simp
  have DA : Dk W1 w.heap.size nA (.slice aA lA cA) eA := by rw [hW1]; exact Dk.new w nA (.slice aA lA cA) eA
  have AW := hid (awake3_any W1 (hT.belows hB))
  have SB := (Aside.intro (And.intro hB DA))
  have HX := Aside.intro w0
  have A1 := hid fun u => alike_any x u
  have A2 := hid fun u => alike32_any y u
  clear w0 hT hB DA
  go_enter Tryd.func8, Tryd.ntmps8
  go_wp2_with fail
  rw [← hW1]
  clear hW1
  refine (Calls.mono AW.out) ?_
  rintro r U0 ⟨rfl, hb⟩
  have hs0 := hb.size
  have B0 := SB.out.1.trans (hb.mono (show w.heap.size ≤ W1.heap.size by omega))
  have D0 := SB.out.2.below hb
  obtain ⟨k0, k1, k2, kf0, kf1, kf2⟩ := D0.facts
  have H := hid (rLent3_any (HX.out.below B0) (by omega) nA eA)
  have S0 := (Aside.intro (And.intro B0 D0))
  clear hb AW SB B0 D0
  go_wp2_with fail
  clear k0 k1 k2 kf0 kf1 kf2
  refine (Calls.mono H.out) ?_
  rintro r u1 ⟨gX, rfl, hgX, hO, hb⟩
  have hs1 := hb.size
  have hGX : gX < u1.heap.size := hO.lt
  obtain ⟨U1, hU1⟩ : ∃ U, U = u1.alloc (.cells #[.bool nA, .slice (some ⟨gX, 0, none⟩) lA (lA + 2), .int .i64 eA] 39) := ⟨_, rfl⟩
  have hA : Below u1.heap.size u1 U1 := by rw [hU1]; exact below_alloc _ _
  have hz1 : u1.heap.size < U1.heap.size := by rw [hU1]; simp
  have DX : Dk U1 u1.heap.size nA (.slice (some ⟨gX, 0, none⟩) lA (lA + 2)) eA := by rw [hU1]; exact Dk.new _ _ _ _
  have B1 := (S0.out.1.trans (hb.mono (by omega))).trans (hA.mono (show w.heap.size ≤ u1.heap.size by omega))
  have D1 := (S0.out.2.below hb).below hA
  have O1 := hO.below hA hO.lt
  have S1 := (Aside.intro (And.intro B1 (And.intro D1 (And.intro DX O1))))
  clear hO hb H hA S0 B1 D1 DX O1
  go_upto_region 5 with fail
  rw [← hU1]
  clear hU1
  obtain ⟨BB, DA, DX, OX⟩ := S1.out
  obtain ⟨k0, k1, k2, kf0, kf1, kf2⟩ := DX.facts
  have H := hid (HR.out U1 (some ⟨gX, 0, none⟩) (lA + 2) BB (lent_arg HX.out.len (by omega) HX.out.wf OX))
  clear BB DA DX OX
  go_wp2_with fail
  clear k0 k1 k2 kf0 kf1 kf2
  refine (Calls.mono H.out) ?_
  rintro r u2 ⟨rfl, hb⟩
  have hs2 := hb.size
  have B2 := S1.out.1.trans (hb.mono (show w.heap.size ≤ U1.heap.size by omega))
  have D2 := S1.out.2.1.below hb
  have X2 := S1.out.2.2.1.below hb
  have O2 := S1.out.2.2.2.below hb S1.out.2.2.2.lt
  have S2 := (Aside.intro (And.intro B2 (And.intro D2 (And.intro X2 O2))))
  clear hb H S1 B2 D2 X2 O2
  obtain ⟨BB, DA, DX, OX⟩ := S2.out
  obtain ⟨k0, k1, k2, kf0, kf1, kf2⟩ := DX.facts
  have H := hid (HS.out u2 (some ⟨gX, 0, none⟩) (lA + 2) BB (lent_arg HX.out.len (by omega) HX.out.wf OX))
  clear BB DA DX OX
  go_wp2_with fail
  clear k0 k1 k2 kf0 kf1 kf2
  refine (Calls.mono H.out) ?_
  rintro r u3 ⟨rfl, hb⟩
  have hs3 := hb.size
  have B3 := S2.out.1.trans (hb.mono (show w.heap.size ≤ u2.heap.size by omega))
  have D3 := S2.out.2.1.below hb
  have X3 := S2.out.2.2.1.below hb
  have O3 := S2.out.2.2.2.below hb S2.out.2.2.2.lt
  have S3 := (Aside.intro (And.intro B3 (And.intro D3 (And.intro X3 O3))))
  clear hb H S2 B3 D3 X3 O3
  obtain ⟨BB, DA, DX, OX⟩ := S3.out
  obtain ⟨k0, k1, k2, kf0, kf1, kf2⟩ := DX.facts
  obtain ⟨j0, j1, j2, jf0, jf1, jf2⟩ := DA.facts
  have H := hid (rAsLent3_any (HX.out.below BB) (by omega) nA eA w.heap.size gX (HX.out.rd.below BB) (by omega) (by omega) OX)
  clear BB DA DX OX
  go_wp2_with fail
  clear k0 k1 k2 kf0 kf1 kf2 j0 j1 j2 jf0 jf1 jf2
  refine (Calls.mono H.out) ?_
  rintro r u4 ⟨rfl, hb⟩
  have hs4 := hb.size
  have B4 := But.below S3.out.1 hb (by omega) (show w.heap.size ≤ gX by omega)
  have D4 := S3.out.2.1.but hb (by omega)
  have S4 := (Aside.intro (And.intro B4 D4))
  clear hb H S3 B4 D4
  obtain ⟨k0, k1, k2, kf0, kf1, kf2⟩ := S4.out.2.facts
  have H := hid (RR.out u4 S4.out.1)
  go_wp2_with fail
  clear k0 k1 k2 kf0 kf1 kf2
  refine (Calls.mono H.out) ?_
  rintro r u5 ⟨rfl, hb⟩
  have B5 := S4.out.1.trans (hb.mono S4.out.1.size)
  have D5 := S4.out.2.below hb
  have S5 := (Aside.intro (And.intro B5 D5))
  clear hb H S4 B5 D5
  obtain ⟨k0, k1, k2, kf0, kf1, kf2⟩ := S5.out.2.facts
  have H := hid (RS.out u5 S5.out.1)
  go_wp2_with fail
  clear k0 k1 k2 kf0 kf1 kf2
  refine (Calls.mono H.out) ?_
  rintro r u6 ⟨rfl, hb⟩
  have S6 := Aside.intro (S5.out.1.trans (hb.mono S5.out.1.size))
  clear hb H S5
  go_wp2_with fail
  refine (Calls.mono (A1.out _)) ?_
  rintro r u7 ⟨rfl, rfl⟩
  go_wp2_with fail
  refine (Calls.mono (A2.out _)) ?_
  rintro r u8 ⟨rfl, rfl⟩
  go_wp2
  go_ret
  exact ⟨rfl, S6.out⟩

theorem walk_DyadRounds (nA : Bool) (aA : Option Addr) (lA cA : Nat) (eA : Int) (xs : List Nat) (mode : Int) (w : World) (hT : Tab w) (w0 : CameD w aA lA cA xs eA) (w1 : (Lit.int .i64 mode).wf = true) (bA : lA ≤ 1048576) :
    Calls Tryd.prog 8 #[.agg #[.bool nA, .slice aA lA cA, .int .i64 eA], .int .i64 mode] w fun r w' => r = .returned (.bool true) ∧ Below w.heap.size w w' := by
  have A := w0.came.arg (by omega)
  exact rounds_core nA aA lA cA xs eA mode w bA A hT _ _ _ _
    (hid fun u p s hu hA => Round_any hA (hT.belows hu) nA eA mode w0.lo w0.hi)
    (hid fun u p s hu hA => S.Round32_any hA (hT.belows hu) nA eA mode w0.lo w0.hi)
    (hid fun u hu => rRound_any (A.below hu) (by omega) nA eA mode w0.lo w0.hi)
    (hid fun u hu => S.rRound32_any (A.below hu) (by omega) nA eA mode w0.lo w0.hi)
end Go.Proofs.YthilnddhehbjiaaDoor
