/- DyadNear: the walk. -/
import Derived.Test.YtfaaidnhmddibaaDoorQ2
import Derived.BigQuiet
import Derived.Deep.CutRange
namespace Go.Proofs.YtfaaidnhmddibaaDoor
open Go.RowKit
attribute [local go_sem] B.f64frombits
set_option linter.unusedVariables false
set_option maxRecDepth 20000
set_option linter.unusedSimpArgs false

theorem run_store_floatQ (P : Program) (w : World) (a : Addr) (m : Mode) (k : FloatKind) (b : Nat) : (store a (.float k b) m).run P w = stored P w a (.float k b) m := run_store P w a _ m rfl
attribute [local go_sem] run_store_floatQ

set_option maxHeartbeats 32000000 in
set_option maxRecDepth 100000 in
theorem near_core (nA nB : Bool) (aA aB : Option Addr) (lA cA lB cB : Nat) (eA eB ov : Int) (w : World) (HAW : Hid (∀ u, Below w.heap.size w u → Calls Tryd.prog 7 #[] u fun r w' => r = .returned (.bool true) ∧ Below u.heap.size u w'))
    (nF nG nD nV nZ nP nQ nO : Bool) (XF XG XD XV XZ XP XQ XO : Nat) (eF eG eD eV eZ eP eQ eO : Int) (erD erV erO cv cD cV cP cQ : Int) (isZ isP isQ : Bool) (x0 x1 x2 x3 x4 y0 y1 y2 y3 y4 z0 z1 z2 z3 z4 zz : Nat) (lF : (ws XF).length ≤ 8192) (lG : (ws XG).length ≤ 8192) (lD : (ws XD).length ≤ 8192) (lV : (ws XV).length ≤ 8192) (lZ : (ws XZ).length ≤ 8192) (lP : (ws XP).length ≤ 8192) (lQ : (ws XQ).length ≤ 8192) (lO : (ws XO).length ≤ 8192)
    (HMF : Hid (∀ (u : World), Below w.heap.size w u → Calls Tryd.prog 11 #[.bool nA, .slice aA lA cA, .int .i64 eA] u fun r w' => (∃ v, r = .returned (.tuple #[.agg #[.bool nF, v, .int .i64 eF], .int .i64 0]) ∧ Nt u.heap.size w' v XF) ∧ Below u.heap.size u w'))
    (HMG : Hid (∀ (u : World), Below w.heap.size w u → Calls Tryd.prog 11 #[.bool nB, .slice aB lB cB, .int .i64 eB] u fun r w' => (∃ v, r = .returned (.tuple #[.agg #[.bool nG, v, .int .i64 eG], .int .i64 0]) ∧ Nt u.heap.size w' v XG) ∧ Below u.heap.size u w'))
    (HR0 : Hid (∀ (u : World) (p : Option Addr) (s : Nat), Below w.heap.size w u → Arg u p (ws XF).length s (ws XF) → Calls Tryd.prog 25 #[.agg #[.bool nF, .slice p (ws XF).length s, .int .i64 eF], .int .i64 0] u fun r w' => r = .returned (.tuple #[.float .f64 x0, .int .i64 0]) ∧ Below u.heap.size u w'))
    (HS0 : Hid (∀ (u : World) (p : Option Addr) (s : Nat), Below w.heap.size w u → Arg u p (ws XG).length s (ws XG) → Calls Tryd.prog 25 #[.agg #[.bool nG, .slice p (ws XG).length s, .int .i64 eG], .int .i64 0] u fun r w' => r = .returned (.tuple #[.float .f64 y0, .int .i64 0]) ∧ Below u.heap.size u w'))
    (HR1 : Hid (∀ (u : World) (p : Option Addr) (s : Nat), Below w.heap.size w u → Arg u p (ws XF).length s (ws XF) → Calls Tryd.prog 25 #[.agg #[.bool nF, .slice p (ws XF).length s, .int .i64 eF], .int .i64 1] u fun r w' => r = .returned (.tuple #[.float .f64 x1, .int .i64 0]) ∧ Below u.heap.size u w'))
    (HS1 : Hid (∀ (u : World) (p : Option Addr) (s : Nat), Below w.heap.size w u → Arg u p (ws XG).length s (ws XG) → Calls Tryd.prog 25 #[.agg #[.bool nG, .slice p (ws XG).length s, .int .i64 eG], .int .i64 1] u fun r w' => r = .returned (.tuple #[.float .f64 y1, .int .i64 0]) ∧ Below u.heap.size u w'))
    (HR2 : Hid (∀ (u : World) (p : Option Addr) (s : Nat), Below w.heap.size w u → Arg u p (ws XF).length s (ws XF) → Calls Tryd.prog 25 #[.agg #[.bool nF, .slice p (ws XF).length s, .int .i64 eF], .int .i64 2] u fun r w' => r = .returned (.tuple #[.float .f64 x2, .int .i64 0]) ∧ Below u.heap.size u w'))
    (HS2 : Hid (∀ (u : World) (p : Option Addr) (s : Nat), Below w.heap.size w u → Arg u p (ws XG).length s (ws XG) → Calls Tryd.prog 25 #[.agg #[.bool nG, .slice p (ws XG).length s, .int .i64 eG], .int .i64 2] u fun r w' => r = .returned (.tuple #[.float .f64 y2, .int .i64 0]) ∧ Below u.heap.size u w'))
    (HR3 : Hid (∀ (u : World) (p : Option Addr) (s : Nat), Below w.heap.size w u → Arg u p (ws XF).length s (ws XF) → Calls Tryd.prog 25 #[.agg #[.bool nF, .slice p (ws XF).length s, .int .i64 eF], .int .i64 3] u fun r w' => r = .returned (.tuple #[.float .f64 x3, .int .i64 0]) ∧ Below u.heap.size u w'))
    (HS3 : Hid (∀ (u : World) (p : Option Addr) (s : Nat), Below w.heap.size w u → Arg u p (ws XG).length s (ws XG) → Calls Tryd.prog 25 #[.agg #[.bool nG, .slice p (ws XG).length s, .int .i64 eG], .int .i64 3] u fun r w' => r = .returned (.tuple #[.float .f64 y3, .int .i64 0]) ∧ Below u.heap.size u w'))
    (HR4 : Hid (∀ (u : World) (p : Option Addr) (s : Nat), Below w.heap.size w u → Arg u p (ws XF).length s (ws XF) → Calls Tryd.prog 25 #[.agg #[.bool nF, .slice p (ws XF).length s, .int .i64 eF], .int .i64 4] u fun r w' => r = .returned (.tuple #[.float .f64 x4, .int .i64 0]) ∧ Below u.heap.size u w'))
    (HS4 : Hid (∀ (u : World) (p : Option Addr) (s : Nat), Below w.heap.size w u → Arg u p (ws XG).length s (ws XG) → Calls Tryd.prog 25 #[.agg #[.bool nG, .slice p (ws XG).length s, .int .i64 eG], .int .i64 4] u fun r w' => r = .returned (.tuple #[.float .f64 y4, .int .i64 0]) ∧ Below u.heap.size u w'))
    (HC : Hid (∀ (u : World) (p : Option Addr) (s : Nat) (q : Option Addr) (t : Nat), Below w.heap.size w u → Arg u p (ws XF).length s (ws XF) → Arg u q (ws XG).length t (ws XG) → Calls Tryd.prog 26 #[.agg #[.bool nF, .slice p (ws XF).length s, .int .i64 eF], .agg #[.bool nG, .slice q (ws XG).length t, .int .i64 eG]] u fun r w' => r = .returned (.int .i64 cv) ∧ Below u.heap.size u w'))
    (HGT : Aside (cv ≤ 0 → (FloatKind.f64.format.order x0 y0 == some .gt) = false ∧ (FloatKind.f64.format.order x1 y1 == some .gt) = false ∧ (FloatKind.f64.format.order x2 y2 == some .gt) = false ∧ (FloatKind.f64.format.order x3 y3 == some .gt) = false ∧ (FloatKind.f64.format.order x4 y4 == some .gt) = false))
    (HLT : Aside (0 ≤ cv → (FloatKind.f64.format.order x0 y0 == some .lt) = false ∧ (FloatKind.f64.format.order x1 y1 == some .lt) = false ∧ (FloatKind.f64.format.order x2 y2 == some .lt) = false ∧ (FloatKind.f64.format.order x3 y3 == some .lt) = false ∧ (FloatKind.f64.format.order x4 y4 == some .lt) = false))
    (HZ : Aside ((nF = true → x2 = zz) ∧ (nF = false → x3 = zz)))
    (HZ1 : Aside ((FloatKind.f64.format.order x1 zz != some .eq) = false))
    (HOD : Hid (∀ (u : World), Below w.heap.size w u → Calls Tryd.prog 8 #[.float .f64 x3] u fun r w' => (∃ v, r = .returned (.tuple #[.agg #[.bool nD, v, .int .i64 eD], .int .i64 erD]) ∧ Nt u.heap.size w' v XD) ∧ Below u.heap.size u w'))
    (HOV : Hid (∀ (u : World), Below w.heap.size w u → Calls Tryd.prog 8 #[.float .f64 x2] u fun r w' => (∃ v, r = .returned (.tuple #[.agg #[.bool nV, v, .int .i64 eV], .int .i64 erV]) ∧ Nt u.heap.size w' v XV) ∧ Below u.heap.size u w'))
    (HCD : Hid (∀ (u : World) (p : Option Addr) (s : Nat) (q : Option Addr) (t : Nat), Below w.heap.size w u → Arg u p (ws XD).length s (ws XD) → Arg u q (ws XF).length t (ws XF) → Calls Tryd.prog 26 #[.agg #[.bool nD, .slice p (ws XD).length s, .int .i64 eD], .agg #[.bool nF, .slice q (ws XF).length t, .int .i64 eF]] u fun r w' => r = .returned (.int .i64 cD) ∧ Below u.heap.size u w'))
    (HCV : Hid (∀ (u : World) (p : Option Addr) (s : Nat) (q : Option Addr) (t : Nat), Below w.heap.size w u → Arg u p (ws XV).length s (ws XV) → Arg u q (ws XF).length t (ws XF) → Calls Tryd.prog 26 #[.agg #[.bool nV, .slice p (ws XV).length s, .int .i64 eV], .agg #[.bool nF, .slice q (ws XF).length t, .int .i64 eF]] u fun r w' => r = .returned (.int .i64 cV) ∧ Below u.heap.size u w'))
    (HD0 : Aside ((erD = 0 → decide (0 < cD) = false) ∧ (erV = 0 → decide (cV < 0) = false)))
    (HGZ : Hid (∀ (u : World) (p : Option Addr) (s : Nat), Below w.heap.size w u → Arg u p (ws XF).length s (ws XF) → Calls Tryd.prog 28 #[.float .f64 ov.toNat, .agg #[.bool nF, .slice p (ws XF).length s, .int .i64 eF]] u fun r w' => (∃ v, r = .returned (.tuple #[.agg #[.bool nZ, v, .int .i64 eZ], .bool isZ]) ∧ Nt u.heap.size w' v XZ) ∧ Below u.heap.size u w'))
    (HGP : Hid (∀ (u : World) (p : Option Addr) (s : Nat), Below w.heap.size w u → Arg u p (ws XF).length s (ws XF) → Calls Tryd.prog 28 #[.float .f64 x0, .agg #[.bool nF, .slice p (ws XF).length s, .int .i64 eF]] u fun r w' => (∃ v, r = .returned (.tuple #[.agg #[.bool nP, v, .int .i64 eP], .bool isP]) ∧ Nt u.heap.size w' v XP) ∧ Below u.heap.size u w'))
    (HCP : Hid (∀ (u : World) (p : Option Addr) (s : Nat) (q : Option Addr) (t : Nat), Below w.heap.size w u → Arg u p (ws XZ).length s (ws XZ) → Arg u q (ws XP).length t (ws XP) → Calls Tryd.prog 26 #[.agg #[.bool nZ, .slice p (ws XZ).length s, .int .i64 eZ], .agg #[.bool nP, .slice q (ws XP).length t, .int .i64 eP]] u fun r w' => r = .returned (.int .i64 cP) ∧ Below u.heap.size u w'))
    (HGQ : Hid (∀ (u : World) (p : Option Addr) (s : Nat), Below w.heap.size w u → Arg u p (ws XF).length s (ws XF) → Calls Tryd.prog 28 #[.float .f64 x4, .agg #[.bool nF, .slice p (ws XF).length s, .int .i64 eF]] u fun r w' => (∃ v, r = .returned (.tuple #[.agg #[.bool nQ, v, .int .i64 eQ], .bool isQ]) ∧ Nt u.heap.size w' v XQ) ∧ Below u.heap.size u w'))
    (HCQ : Hid (∀ (u : World) (p : Option Addr) (s : Nat) (q : Option Addr) (t : Nat), Below w.heap.size w u → Arg u p (ws XZ).length s (ws XZ) → Arg u q (ws XQ).length t (ws XQ) → Calls Tryd.prog 26 #[.agg #[.bool nZ, .slice p (ws XZ).length s, .int .i64 eZ], .agg #[.bool nQ, .slice q (ws XQ).length t, .int .i64 eQ]] u fun r w' => r = .returned (.int .i64 cQ) ∧ Below u.heap.size u w'))
    (HN0 : Aside ((isZ = true → isP = true → decide (cP < 0) = false) ∧ (isZ = true → isQ = true → decide (cQ < 0) = false)))
    (HOO : Hid (∀ (u : World), Below w.heap.size w u → Calls Tryd.prog 8 #[.float .f64 ov.toNat] u fun r w' => (∃ v, r = .returned (.tuple #[.agg #[.bool nO, v, .int .i64 eO], .int .i64 erO]) ∧ Nt u.heap.size w' v XO) ∧ Below u.heap.size u w'))
    (HT0 : Hid (∀ (u : World) (p : Option Addr) (s : Nat), Below w.heap.size w u → isZ = true → Arg u p (ws XO).length s (ws XO) → Calls Tryd.prog 25 #[.agg #[.bool nO, .slice p (ws XO).length s, .int .i64 eO], .int .i64 0] u fun r w' => r = .returned (.tuple #[.float .f64 z0, .int .i64 0]) ∧ Below u.heap.size u w'))
    (HT1 : Hid (∀ (u : World) (p : Option Addr) (s : Nat), Below w.heap.size w u → isZ = true → Arg u p (ws XO).length s (ws XO) → Calls Tryd.prog 25 #[.agg #[.bool nO, .slice p (ws XO).length s, .int .i64 eO], .int .i64 1] u fun r w' => r = .returned (.tuple #[.float .f64 z1, .int .i64 0]) ∧ Below u.heap.size u w'))
    (HT2 : Hid (∀ (u : World) (p : Option Addr) (s : Nat), Below w.heap.size w u → isZ = true → Arg u p (ws XO).length s (ws XO) → Calls Tryd.prog 25 #[.agg #[.bool nO, .slice p (ws XO).length s, .int .i64 eO], .int .i64 2] u fun r w' => r = .returned (.tuple #[.float .f64 z2, .int .i64 0]) ∧ Below u.heap.size u w'))
    (HT3 : Hid (∀ (u : World) (p : Option Addr) (s : Nat), Below w.heap.size w u → isZ = true → Arg u p (ws XO).length s (ws XO) → Calls Tryd.prog 25 #[.agg #[.bool nO, .slice p (ws XO).length s, .int .i64 eO], .int .i64 3] u fun r w' => r = .returned (.tuple #[.float .f64 z3, .int .i64 0]) ∧ Below u.heap.size u w'))
    (HT4 : Hid (∀ (u : World) (p : Option Addr) (s : Nat), Below w.heap.size w u → isZ = true → Arg u p (ws XO).length s (ws XO) → Calls Tryd.prog 25 #[.agg #[.bool nO, .slice p (ws XO).length s, .int .i64 eO], .int .i64 4] u fun r w' => r = .returned (.tuple #[.float .f64 z4, .int .i64 0]) ∧ Below u.heap.size u w'))
    (HO0 : Aside (isZ = true → (FloatKind.f64.format.order z0 ov.toNat != some .eq) = false ∧ (FloatKind.f64.format.order z1 ov.toNat != some .eq) = false ∧ (FloatKind.f64.format.order z2 ov.toNat != some .eq) = false ∧ (FloatKind.f64.format.order z3 ov.toNat != some .eq) = false ∧ (FloatKind.f64.format.order z4 ov.toNat != some .eq) = false)) :
    Calls Tryd.prog 6 #[.agg #[.bool nA, .slice aA lA cA, .int .i64 eA], .agg #[.bool nB, .slice aB lB cB, .int .i64 eB], .int .u64 ov] w fun r w' => r = .returned (.bool true) ∧ Below w.heap.size w w' := by
  obtain ⟨W1, hW1⟩ : ∃ W, W = (w.alloc (.cells #[.bool nA, .slice aA lA cA, .int .i64 eA] 27)).alloc (.cells #[.bool nB, .slice aB lB cB, .int .i64 eB] 27) := ⟨_, rfl⟩
  have hB : Below w.heap.size w W1 := by rw [hW1]; exact (below_alloc w _).alloc (by simp) _
  have hz : W1.heap.size = w.heap.size + 2 := by rw [hW1]; simp
  have DA : Dk W1 w.heap.size nA (.slice aA lA cA) eA := by rw [hW1]; exact (Dk.new w nA (.slice aA lA cA) eA).alloc _
  have DB : Dk W1 (w.heap.size + 1) nB (.slice aB lB cB) eB := by rw [hW1]; have := Dk.new (w.alloc (.cells #[.bool nA, .slice aA lA cA, .int .i64 eA] 27)) nB (.slice aB lB cB) eB; simpa using this
  have AW := hid (HAW.out W1 hB)
  have SB := (Aside.intro (And.intro hB (And.intro DA DB)))
  have hq : w.heap.size + 1 < W1.heap.size := by omega
  clear hB hz DA DB
  go_enter Tryd.func6, Tryd.ntmps6
  go_wp2_with fail
  rw [← hW1]
  clear hW1
  refine (Calls.mono AW.out) ?_
  rintro r v0 ⟨rfl, hb⟩
  have hs0 := hb.size
  obtain ⟨k0, k1, k2, kf0, kf1, kf2⟩ := (SB.out.2.1.below hb).facts
  have hb0 := SB.out.1.trans (hb.mono (show w.heap.size ≤ W1.heap.size by omega))
  have DB0 := SB.out.2.2.below hb
  have H := hid (HMF.out v0 hb0)
  have SC := (Aside.intro (And.intro hb0 DB0))
  clear hb AW SB hb0 DB0
  go_wp2_with fail
  clear k0 k1 k2 kf0 kf1 kf2
  refine (Calls.mono H.out) ?_
  rintro r v1 ⟨⟨v, rfl, hN⟩, hb⟩
  obtain ⟨aF, cF, rfl, _⟩ := hN.arg (by omega)
  have hs1 := hb.size
  obtain ⟨UF, hUF⟩ : ∃ U, U = v1.alloc (.cells #[.bool nF, .slice aF (ws XF).length cF, .int .i64 eF] 27) := ⟨_, rfl⟩
  have hA : Below v1.heap.size v1 UF := by rw [hUF]; exact below_alloc _ _
  have DN : Dk UF v1.heap.size nF (.slice aF (ws XF).length cF) eF := by rw [hUF]; exact Dk.new _ _ _ _
  have hs2 := hA.size
  have BF : Below w.heap.size w UF := (SC.out.1.trans (hb.mono (by omega))).trans (hA.mono (by omega))
  have NF := hN.below hA
  have DB := (SC.out.2.below hb).below hA
  obtain ⟨k0, k1, k2, kf0, kf1, kf2⟩ := DB.facts
  have H2 := hid (HMG.out UF BF)
  have SD := (Aside.intro (And.intro BF (And.intro DN NF)))
  clear hb hN hA DN BF NF DB SC H
  go_upto_region 3 with fail
  rw [← hUF]
  clear hUF
  go_wp2_with fail
  clear k0 k1 k2 kf0 kf1 kf2
  refine (Calls.mono H2.out) ?_
  rintro r v2 ⟨⟨v, rfl, hN⟩, hb⟩
  obtain ⟨aG, cG, rfl, _⟩ := hN.arg (by omega)
  have hs3 := hb.size
  obtain ⟨UG, hUG⟩ : ∃ U, U = v2.alloc (.cells #[.bool nG, .slice aG (ws XG).length cG, .int .i64 eG] 27) := ⟨_, rfl⟩
  have hA : Below v2.heap.size v2 UG := by rw [hUG]; exact below_alloc _ _
  have DN : Dk UG v2.heap.size nG (.slice aG (ws XG).length cG) eG := by rw [hUG]; exact Dk.new _ _ _ _
  have hs4 := hA.size
  have BG : Below w.heap.size w UG := (SD.out.1.trans (hb.mono (by omega))).trans (hA.mono (by omega))
  obtain ⟨gl, hgl⟩ : ∃ g, g = UG.heap.size := ⟨_, rfl⟩
  obtain ⟨Ua, hUa⟩ : ∃ U, U = UG.alloc (.cells #[.float .f64 0, .float .f64 0, .float .f64 0, .float .f64 0, .float .f64 0] 42) := ⟨_, rfl⟩
  have S0 := Aside.intro (Sn.begin BG ((SD.out.2.1.below hb).below hA) DN ((SD.out.2.2.below hb).below hA) (hN.below hA) Ua _ hUa)
  rw [← hgl] at S0
  clear hb hN hA DN BG SD H2
  go_upto_region 4 with fail
  rw [← hUG]
  clear hUG
  go_upto_region 7 with fail
  rw [← hUa, ← hgl]
  clear hUa hgl
  go_wp2_with fail
  refine wp_loop_rounds 6 ?_
  rw [rounds_succ]
  obtain ⟨kF0, kF1, kF2, kfF0, kfF1, kfF2⟩ := (Sn.getD (g := v1.heap.size) (n := nF) (v := .slice aF (ws XF).length cF) (e := eF) S0.out (List.mem_cons_of_mem _ List.mem_cons_self)).facts
  have H := hid (HR0.out Ua aF cF (S0.out.bel) (((Sn.getN (v := .slice aF (ws XF).length cF) (X := XF) S0.out (List.mem_cons_of_mem _ List.mem_cons_self)).arg' (by omega)).2))
  go_wp2_with fail
  clear kF0 kF1 kF2 kfF0 kfF1 kfF2
  refine (Calls.mono H.out) ?_
  rintro r u1 ⟨rfl, hb⟩
  have S2 := Aside.intro (S0.out.below hb)
  clear hb H S0
  obtain ⟨kG0, kG1, kG2, kfG0, kfG1, kfG2⟩ := (Sn.getD (g := v2.heap.size) (n := nG) (v := .slice aG (ws XG).length cG) (e := eG) S2.out List.mem_cons_self).facts
  have H := hid (HS0.out u1 aG cG (S2.out.bel) (((Sn.getN (v := .slice aG (ws XG).length cG) (X := XG) S2.out List.mem_cons_self).arg' (by omega)).2))
  go_wp2_with fail
  clear kG0 kG1 kG2 kfG0 kfG1 kfG2
  refine (Calls.mono H.out) ?_
  rintro r u3 ⟨rfl, hb⟩
  have S4 := Aside.intro (S2.out.below hb)
  clear hb H S2
  go_upto_region 12 with fail
  go_cut [110] from 83 to 110 (fun v wx => v = .bool false ∧ Aside (Sn w gl #[.float .f64 0, .float .f64 0, .float .f64 0, .float .f64 0, .float .f64 0] [(v2.heap.size, nG, .slice aG (ws XG).length cG, eG), (v1.heap.size, nF, .slice aF (ws XF).length cF, eF)] [(.slice aG (ws XG).length cG, XG), (.slice aF (ws XF).length cF, XF)] wx))
  case first =>
    rcases Int.lt_trichotomy cv 0 with hc | hc | hc
    ·
      have c1 : cv ≤ 0 := by omega
      have c2 : decide (0 ≤ cv) = false := by simp; omega
      have hg := (HGT.out c1).1
      clear hc
      obtain ⟨kF0, kF1, kF2, kfF0, kfF1, kfF2⟩ := (Sn.getD (g := v1.heap.size) (n := nF) (v := .slice aF (ws XF).length cF) (e := eF) S4.out (List.mem_cons_of_mem _ List.mem_cons_self)).facts
      obtain ⟨kG0, kG1, kG2, kfG0, kfG1, kfG2⟩ := (Sn.getD (g := v2.heap.size) (n := nG) (v := .slice aG (ws XG).length cG) (e := eG) S4.out List.mem_cons_self).facts
      have H := hid (HC.out u3 aF cF aG cG (S4.out.bel) (((Sn.getN (v := .slice aF (ws XF).length cF) (X := XF) S4.out (List.mem_cons_of_mem _ List.mem_cons_self)).arg' (by omega)).2) (((Sn.getN (v := .slice aG (ws XG).length cG) (X := XG) S4.out List.mem_cons_self).arg' (by omega)).2))
      go_wp2_with fail
      clear kF0 kF1 kF2 kfF0 kfF1 kfF2 kG0 kG1 kG2 kfG0 kfG1 kfG2
      refine (Calls.mono H.out) ?_
      rintro r u5 ⟨rfl, hb⟩
      have S6 := Aside.intro (S4.out.below hb)
      clear hb H S4
      obtain ⟨kF0, kF1, kF2, kfF0, kfF1, kfF2⟩ := (Sn.getD (g := v1.heap.size) (n := nF) (v := .slice aF (ws XF).length cF) (e := eF) S6.out (List.mem_cons_of_mem _ List.mem_cons_self)).facts
      obtain ⟨kG0, kG1, kG2, kfG0, kfG1, kfG2⟩ := (Sn.getD (g := v2.heap.size) (n := nG) (v := .slice aG (ws XG).length cG) (e := eG) S6.out List.mem_cons_self).facts
      have H := hid (HC.out u5 aF cF aG cG (S6.out.bel) (((Sn.getN (v := .slice aF (ws XF).length cF) (X := XF) S6.out (List.mem_cons_of_mem _ List.mem_cons_self)).arg' (by omega)).2) (((Sn.getN (v := .slice aG (ws XG).length cG) (X := XG) S6.out List.mem_cons_self).arg' (by omega)).2))
      go_wp2_with fail
      clear kF0 kF1 kF2 kfF0 kfF1 kfF2 kG0 kG1 kG2 kfG0 kfG1 kfG2
      refine (Calls.mono H.out) ?_
      rintro r u7 ⟨rfl, hb⟩
      have S8 := Aside.intro (S6.out.below hb)
      clear hb H S6
      go_wp2_with fail
      go_meet
      case rel => exact ⟨rfl, S8⟩
    ·
      subst hc
      have hg := (HGT.out (by omega)).1
      have hl := (HLT.out (by omega)).1
      obtain ⟨kF0, kF1, kF2, kfF0, kfF1, kfF2⟩ := (Sn.getD (g := v1.heap.size) (n := nF) (v := .slice aF (ws XF).length cF) (e := eF) S4.out (List.mem_cons_of_mem _ List.mem_cons_self)).facts
      obtain ⟨kG0, kG1, kG2, kfG0, kfG1, kfG2⟩ := (Sn.getD (g := v2.heap.size) (n := nG) (v := .slice aG (ws XG).length cG) (e := eG) S4.out List.mem_cons_self).facts
      have H := hid (HC.out u3 aF cF aG cG (S4.out.bel) (((Sn.getN (v := .slice aF (ws XF).length cF) (X := XF) S4.out (List.mem_cons_of_mem _ List.mem_cons_self)).arg' (by omega)).2) (((Sn.getN (v := .slice aG (ws XG).length cG) (X := XG) S4.out List.mem_cons_self).arg' (by omega)).2))
      go_wp2_with fail
      clear kF0 kF1 kF2 kfF0 kfF1 kfF2 kG0 kG1 kG2 kfG0 kfG1 kfG2
      refine (Calls.mono H.out) ?_
      rintro r u9 ⟨rfl, hb⟩
      have S10 := Aside.intro (S4.out.below hb)
      clear hb H S4
      obtain ⟨kF0, kF1, kF2, kfF0, kfF1, kfF2⟩ := (Sn.getD (g := v1.heap.size) (n := nF) (v := .slice aF (ws XF).length cF) (e := eF) S10.out (List.mem_cons_of_mem _ List.mem_cons_self)).facts
      obtain ⟨kG0, kG1, kG2, kfG0, kfG1, kfG2⟩ := (Sn.getD (g := v2.heap.size) (n := nG) (v := .slice aG (ws XG).length cG) (e := eG) S10.out List.mem_cons_self).facts
      have H := hid (HC.out u9 aF cF aG cG (S10.out.bel) (((Sn.getN (v := .slice aF (ws XF).length cF) (X := XF) S10.out (List.mem_cons_of_mem _ List.mem_cons_self)).arg' (by omega)).2) (((Sn.getN (v := .slice aG (ws XG).length cG) (X := XG) S10.out List.mem_cons_self).arg' (by omega)).2))
      go_wp2_with fail
      clear kF0 kF1 kF2 kfF0 kfF1 kfF2 kG0 kG1 kG2 kfG0 kfG1 kfG2
      refine (Calls.mono H.out) ?_
      rintro r u11 ⟨rfl, hb⟩
      have S12 := Aside.intro (S10.out.below hb)
      clear hb H S10
      go_wp2_with fail
      go_meet
      case rel => exact ⟨rfl, S12⟩
    ·
      have c1 : decide (cv ≤ 0) = false := by simp; omega
      have c2 : 0 ≤ cv := by omega
      have hl := (HLT.out c2).1
      clear hc
      obtain ⟨kF0, kF1, kF2, kfF0, kfF1, kfF2⟩ := (Sn.getD (g := v1.heap.size) (n := nF) (v := .slice aF (ws XF).length cF) (e := eF) S4.out (List.mem_cons_of_mem _ List.mem_cons_self)).facts
      obtain ⟨kG0, kG1, kG2, kfG0, kfG1, kfG2⟩ := (Sn.getD (g := v2.heap.size) (n := nG) (v := .slice aG (ws XG).length cG) (e := eG) S4.out List.mem_cons_self).facts
      have H := hid (HC.out u3 aF cF aG cG (S4.out.bel) (((Sn.getN (v := .slice aF (ws XF).length cF) (X := XF) S4.out (List.mem_cons_of_mem _ List.mem_cons_self)).arg' (by omega)).2) (((Sn.getN (v := .slice aG (ws XG).length cG) (X := XG) S4.out List.mem_cons_self).arg' (by omega)).2))
      go_wp2_with fail
      clear kF0 kF1 kF2 kfF0 kfF1 kfF2 kG0 kG1 kG2 kfG0 kfG1 kfG2
      refine (Calls.mono H.out) ?_
      rintro r u13 ⟨rfl, hb⟩
      have S14 := Aside.intro (S4.out.below hb)
      clear hb H S4
      obtain ⟨kF0, kF1, kF2, kfF0, kfF1, kfF2⟩ := (Sn.getD (g := v1.heap.size) (n := nF) (v := .slice aF (ws XF).length cF) (e := eF) S14.out (List.mem_cons_of_mem _ List.mem_cons_self)).facts
      obtain ⟨kG0, kG1, kG2, kfG0, kfG1, kfG2⟩ := (Sn.getD (g := v2.heap.size) (n := nG) (v := .slice aG (ws XG).length cG) (e := eG) S14.out List.mem_cons_self).facts
      have H := hid (HC.out u13 aF cF aG cG (S14.out.bel) (((Sn.getN (v := .slice aF (ws XF).length cF) (X := XF) S14.out (List.mem_cons_of_mem _ List.mem_cons_self)).arg' (by omega)).2) (((Sn.getN (v := .slice aG (ws XG).length cG) (X := XG) S14.out List.mem_cons_self).arg' (by omega)).2))
      go_wp2_with fail
      clear kF0 kF1 kF2 kfF0 kfF1 kfF2 kG0 kG1 kG2 kfG0 kfG1 kfG2
      refine (Calls.mono H.out) ?_
      rintro r u15 ⟨rfl, hb⟩
      have S16 := Aside.intro (S14.out.below hb)
      clear hb H S14
      go_wp2_with fail
      go_meet
      case rel => exact ⟨rfl, S16⟩
  case rest =>
    obtain ⟨rfl, S17⟩ := hcut
    clear S4
    obtain ⟨m0, mf0⟩ := Lk.facts S17.out.lk 0 (.float .f64 0) rfl
    obtain ⟨U19, hU19⟩ : ∃ U, U = wc.setCell ⟨gl, 0, none⟩ (.float .f64 x0) := ⟨_, rfl⟩
    have S20 : Aside (Sn w gl #[.float .f64 x0, .float .f64 0, .float .f64 0, .float .f64 0, .float .f64 0] [(v2.heap.size, nG, .slice aG (ws XG).length cG, eG), (v1.heap.size, nF, .slice aF (ws XF).length cF, eF)] [(.slice aG (ws XG).length cG, XG), (.slice aF (ws XF).length cF, XF)] U19) := Aside.intro (by rw [hU19]; exact S17.out.store 0 _ _ rfl)
    go_upto_region 9 with fail
    rw [← hU19]
    clear hU19 m0 mf0 S17
    go_wp2_with fail
    rw [rounds_succ]
    obtain ⟨kF0, kF1, kF2, kfF0, kfF1, kfF2⟩ := (Sn.getD (g := v1.heap.size) (n := nF) (v := .slice aF (ws XF).length cF) (e := eF) S20.out (List.mem_cons_of_mem _ List.mem_cons_self)).facts
    have H := hid (HR1.out U19 aF cF (S20.out.bel) (((Sn.getN (v := .slice aF (ws XF).length cF) (X := XF) S20.out (List.mem_cons_of_mem _ List.mem_cons_self)).arg' (by omega)).2))
    go_wp2_with fail
    clear kF0 kF1 kF2 kfF0 kfF1 kfF2
    refine (Calls.mono H.out) ?_
    rintro r u21 ⟨rfl, hb⟩
    have S22 := Aside.intro (S20.out.below hb)
    clear hb H S20
    obtain ⟨kG0, kG1, kG2, kfG0, kfG1, kfG2⟩ := (Sn.getD (g := v2.heap.size) (n := nG) (v := .slice aG (ws XG).length cG) (e := eG) S22.out List.mem_cons_self).facts
    have H := hid (HS1.out u21 aG cG (S22.out.bel) (((Sn.getN (v := .slice aG (ws XG).length cG) (X := XG) S22.out List.mem_cons_self).arg' (by omega)).2))
    go_wp2_with fail
    clear kG0 kG1 kG2 kfG0 kfG1 kfG2
    refine (Calls.mono H.out) ?_
    rintro r u23 ⟨rfl, hb⟩
    have S24 := Aside.intro (S22.out.below hb)
    clear hb H S22
    go_upto_region 12 with fail
    go_cut [110] from 83 to 110 (fun v wx => v = .bool false ∧ Aside (Sn w gl #[.float .f64 x0, .float .f64 0, .float .f64 0, .float .f64 0, .float .f64 0] [(v2.heap.size, nG, .slice aG (ws XG).length cG, eG), (v1.heap.size, nF, .slice aF (ws XF).length cF, eF)] [(.slice aG (ws XG).length cG, XG), (.slice aF (ws XF).length cF, XF)] wx))
    case first =>
      rcases Int.lt_trichotomy cv 0 with hc | hc | hc
      ·
        have c1 : cv ≤ 0 := by omega
        have c2 : decide (0 ≤ cv) = false := by simp; omega
        have hg := (HGT.out c1).2.1
        clear hc
        obtain ⟨kF0, kF1, kF2, kfF0, kfF1, kfF2⟩ := (Sn.getD (g := v1.heap.size) (n := nF) (v := .slice aF (ws XF).length cF) (e := eF) S24.out (List.mem_cons_of_mem _ List.mem_cons_self)).facts
        obtain ⟨kG0, kG1, kG2, kfG0, kfG1, kfG2⟩ := (Sn.getD (g := v2.heap.size) (n := nG) (v := .slice aG (ws XG).length cG) (e := eG) S24.out List.mem_cons_self).facts
        have H := hid (HC.out u23 aF cF aG cG (S24.out.bel) (((Sn.getN (v := .slice aF (ws XF).length cF) (X := XF) S24.out (List.mem_cons_of_mem _ List.mem_cons_self)).arg' (by omega)).2) (((Sn.getN (v := .slice aG (ws XG).length cG) (X := XG) S24.out List.mem_cons_self).arg' (by omega)).2))
        go_wp2_with fail
        clear kF0 kF1 kF2 kfF0 kfF1 kfF2 kG0 kG1 kG2 kfG0 kfG1 kfG2
        refine (Calls.mono H.out) ?_
        rintro r u25 ⟨rfl, hb⟩
        have S26 := Aside.intro (S24.out.below hb)
        clear hb H S24
        obtain ⟨kF0, kF1, kF2, kfF0, kfF1, kfF2⟩ := (Sn.getD (g := v1.heap.size) (n := nF) (v := .slice aF (ws XF).length cF) (e := eF) S26.out (List.mem_cons_of_mem _ List.mem_cons_self)).facts
        obtain ⟨kG0, kG1, kG2, kfG0, kfG1, kfG2⟩ := (Sn.getD (g := v2.heap.size) (n := nG) (v := .slice aG (ws XG).length cG) (e := eG) S26.out List.mem_cons_self).facts
        have H := hid (HC.out u25 aF cF aG cG (S26.out.bel) (((Sn.getN (v := .slice aF (ws XF).length cF) (X := XF) S26.out (List.mem_cons_of_mem _ List.mem_cons_self)).arg' (by omega)).2) (((Sn.getN (v := .slice aG (ws XG).length cG) (X := XG) S26.out List.mem_cons_self).arg' (by omega)).2))
        go_wp2_with fail
        clear kF0 kF1 kF2 kfF0 kfF1 kfF2 kG0 kG1 kG2 kfG0 kfG1 kfG2
        refine (Calls.mono H.out) ?_
        rintro r u27 ⟨rfl, hb⟩
        have S28 := Aside.intro (S26.out.below hb)
        clear hb H S26
        go_wp2_with fail
        go_meet
        case rel => exact ⟨rfl, S28⟩
      ·
        subst hc
        have hg := (HGT.out (by omega)).2.1
        have hl := (HLT.out (by omega)).2.1
        obtain ⟨kF0, kF1, kF2, kfF0, kfF1, kfF2⟩ := (Sn.getD (g := v1.heap.size) (n := nF) (v := .slice aF (ws XF).length cF) (e := eF) S24.out (List.mem_cons_of_mem _ List.mem_cons_self)).facts
        obtain ⟨kG0, kG1, kG2, kfG0, kfG1, kfG2⟩ := (Sn.getD (g := v2.heap.size) (n := nG) (v := .slice aG (ws XG).length cG) (e := eG) S24.out List.mem_cons_self).facts
        have H := hid (HC.out u23 aF cF aG cG (S24.out.bel) (((Sn.getN (v := .slice aF (ws XF).length cF) (X := XF) S24.out (List.mem_cons_of_mem _ List.mem_cons_self)).arg' (by omega)).2) (((Sn.getN (v := .slice aG (ws XG).length cG) (X := XG) S24.out List.mem_cons_self).arg' (by omega)).2))
        go_wp2_with fail
        clear kF0 kF1 kF2 kfF0 kfF1 kfF2 kG0 kG1 kG2 kfG0 kfG1 kfG2
        refine (Calls.mono H.out) ?_
        rintro r u29 ⟨rfl, hb⟩
        have S30 := Aside.intro (S24.out.below hb)
        clear hb H S24
        obtain ⟨kF0, kF1, kF2, kfF0, kfF1, kfF2⟩ := (Sn.getD (g := v1.heap.size) (n := nF) (v := .slice aF (ws XF).length cF) (e := eF) S30.out (List.mem_cons_of_mem _ List.mem_cons_self)).facts
        obtain ⟨kG0, kG1, kG2, kfG0, kfG1, kfG2⟩ := (Sn.getD (g := v2.heap.size) (n := nG) (v := .slice aG (ws XG).length cG) (e := eG) S30.out List.mem_cons_self).facts
        have H := hid (HC.out u29 aF cF aG cG (S30.out.bel) (((Sn.getN (v := .slice aF (ws XF).length cF) (X := XF) S30.out (List.mem_cons_of_mem _ List.mem_cons_self)).arg' (by omega)).2) (((Sn.getN (v := .slice aG (ws XG).length cG) (X := XG) S30.out List.mem_cons_self).arg' (by omega)).2))
        go_wp2_with fail
        clear kF0 kF1 kF2 kfF0 kfF1 kfF2 kG0 kG1 kG2 kfG0 kfG1 kfG2
        refine (Calls.mono H.out) ?_
        rintro r u31 ⟨rfl, hb⟩
        have S32 := Aside.intro (S30.out.below hb)
        clear hb H S30
        go_wp2_with fail
        go_meet
        case rel => exact ⟨rfl, S32⟩
      ·
        have c1 : decide (cv ≤ 0) = false := by simp; omega
        have c2 : 0 ≤ cv := by omega
        have hl := (HLT.out c2).2.1
        clear hc
        obtain ⟨kF0, kF1, kF2, kfF0, kfF1, kfF2⟩ := (Sn.getD (g := v1.heap.size) (n := nF) (v := .slice aF (ws XF).length cF) (e := eF) S24.out (List.mem_cons_of_mem _ List.mem_cons_self)).facts
        obtain ⟨kG0, kG1, kG2, kfG0, kfG1, kfG2⟩ := (Sn.getD (g := v2.heap.size) (n := nG) (v := .slice aG (ws XG).length cG) (e := eG) S24.out List.mem_cons_self).facts
        have H := hid (HC.out u23 aF cF aG cG (S24.out.bel) (((Sn.getN (v := .slice aF (ws XF).length cF) (X := XF) S24.out (List.mem_cons_of_mem _ List.mem_cons_self)).arg' (by omega)).2) (((Sn.getN (v := .slice aG (ws XG).length cG) (X := XG) S24.out List.mem_cons_self).arg' (by omega)).2))
        go_wp2_with fail
        clear kF0 kF1 kF2 kfF0 kfF1 kfF2 kG0 kG1 kG2 kfG0 kfG1 kfG2
        refine (Calls.mono H.out) ?_
        rintro r u33 ⟨rfl, hb⟩
        have S34 := Aside.intro (S24.out.below hb)
        clear hb H S24
        obtain ⟨kF0, kF1, kF2, kfF0, kfF1, kfF2⟩ := (Sn.getD (g := v1.heap.size) (n := nF) (v := .slice aF (ws XF).length cF) (e := eF) S34.out (List.mem_cons_of_mem _ List.mem_cons_self)).facts
        obtain ⟨kG0, kG1, kG2, kfG0, kfG1, kfG2⟩ := (Sn.getD (g := v2.heap.size) (n := nG) (v := .slice aG (ws XG).length cG) (e := eG) S34.out List.mem_cons_self).facts
        have H := hid (HC.out u33 aF cF aG cG (S34.out.bel) (((Sn.getN (v := .slice aF (ws XF).length cF) (X := XF) S34.out (List.mem_cons_of_mem _ List.mem_cons_self)).arg' (by omega)).2) (((Sn.getN (v := .slice aG (ws XG).length cG) (X := XG) S34.out List.mem_cons_self).arg' (by omega)).2))
        go_wp2_with fail
        clear kF0 kF1 kF2 kfF0 kfF1 kfF2 kG0 kG1 kG2 kfG0 kfG1 kfG2
        refine (Calls.mono H.out) ?_
        rintro r u35 ⟨rfl, hb⟩
        have S36 := Aside.intro (S34.out.below hb)
        clear hb H S34
        go_wp2_with fail
        go_meet
        case rel => exact ⟨rfl, S36⟩
    case rest =>
      obtain ⟨rfl, S37⟩ := hcut
      clear S24
      obtain ⟨m1, mf1⟩ := Lk.facts S37.out.lk 1 (.float .f64 0) rfl
      obtain ⟨U39, hU39⟩ : ∃ U, U = wc.setCell ⟨gl, 1, none⟩ (.float .f64 x1) := ⟨_, rfl⟩
      have S40 : Aside (Sn w gl #[.float .f64 x0, .float .f64 x1, .float .f64 0, .float .f64 0, .float .f64 0] [(v2.heap.size, nG, .slice aG (ws XG).length cG, eG), (v1.heap.size, nF, .slice aF (ws XF).length cF, eF)] [(.slice aG (ws XG).length cG, XG), (.slice aF (ws XF).length cF, XF)] U39) := Aside.intro (by rw [hU39]; exact S37.out.store 1 _ _ rfl)
      go_upto_region 9 with fail
      rw [← hU39]
      clear hU39 m1 mf1 S37
      go_wp2_with fail
      rw [rounds_succ]
      obtain ⟨kF0, kF1, kF2, kfF0, kfF1, kfF2⟩ := (Sn.getD (g := v1.heap.size) (n := nF) (v := .slice aF (ws XF).length cF) (e := eF) S40.out (List.mem_cons_of_mem _ List.mem_cons_self)).facts
      have H := hid (HR2.out U39 aF cF (S40.out.bel) (((Sn.getN (v := .slice aF (ws XF).length cF) (X := XF) S40.out (List.mem_cons_of_mem _ List.mem_cons_self)).arg' (by omega)).2))
      go_wp2_with fail
      clear kF0 kF1 kF2 kfF0 kfF1 kfF2
      refine (Calls.mono H.out) ?_
      rintro r u41 ⟨rfl, hb⟩
      have S42 := Aside.intro (S40.out.below hb)
      clear hb H S40
      obtain ⟨kG0, kG1, kG2, kfG0, kfG1, kfG2⟩ := (Sn.getD (g := v2.heap.size) (n := nG) (v := .slice aG (ws XG).length cG) (e := eG) S42.out List.mem_cons_self).facts
      have H := hid (HS2.out u41 aG cG (S42.out.bel) (((Sn.getN (v := .slice aG (ws XG).length cG) (X := XG) S42.out List.mem_cons_self).arg' (by omega)).2))
      go_wp2_with fail
      clear kG0 kG1 kG2 kfG0 kfG1 kfG2
      refine (Calls.mono H.out) ?_
      rintro r u43 ⟨rfl, hb⟩
      have S44 := Aside.intro (S42.out.below hb)
      clear hb H S42
      go_upto_region 12 with fail
      go_cut [110] from 83 to 110 (fun v wx => v = .bool false ∧ Aside (Sn w gl #[.float .f64 x0, .float .f64 x1, .float .f64 0, .float .f64 0, .float .f64 0] [(v2.heap.size, nG, .slice aG (ws XG).length cG, eG), (v1.heap.size, nF, .slice aF (ws XF).length cF, eF)] [(.slice aG (ws XG).length cG, XG), (.slice aF (ws XF).length cF, XF)] wx))
      case first =>
        rcases Int.lt_trichotomy cv 0 with hc | hc | hc
        ·
          have c1 : cv ≤ 0 := by omega
          have c2 : decide (0 ≤ cv) = false := by simp; omega
          have hg := (HGT.out c1).2.2.1
          clear hc
          obtain ⟨kF0, kF1, kF2, kfF0, kfF1, kfF2⟩ := (Sn.getD (g := v1.heap.size) (n := nF) (v := .slice aF (ws XF).length cF) (e := eF) S44.out (List.mem_cons_of_mem _ List.mem_cons_self)).facts
          obtain ⟨kG0, kG1, kG2, kfG0, kfG1, kfG2⟩ := (Sn.getD (g := v2.heap.size) (n := nG) (v := .slice aG (ws XG).length cG) (e := eG) S44.out List.mem_cons_self).facts
          have H := hid (HC.out u43 aF cF aG cG (S44.out.bel) (((Sn.getN (v := .slice aF (ws XF).length cF) (X := XF) S44.out (List.mem_cons_of_mem _ List.mem_cons_self)).arg' (by omega)).2) (((Sn.getN (v := .slice aG (ws XG).length cG) (X := XG) S44.out List.mem_cons_self).arg' (by omega)).2))
          go_wp2_with fail
          clear kF0 kF1 kF2 kfF0 kfF1 kfF2 kG0 kG1 kG2 kfG0 kfG1 kfG2
          refine (Calls.mono H.out) ?_
          rintro r u45 ⟨rfl, hb⟩
          have S46 := Aside.intro (S44.out.below hb)
          clear hb H S44
          obtain ⟨kF0, kF1, kF2, kfF0, kfF1, kfF2⟩ := (Sn.getD (g := v1.heap.size) (n := nF) (v := .slice aF (ws XF).length cF) (e := eF) S46.out (List.mem_cons_of_mem _ List.mem_cons_self)).facts
          obtain ⟨kG0, kG1, kG2, kfG0, kfG1, kfG2⟩ := (Sn.getD (g := v2.heap.size) (n := nG) (v := .slice aG (ws XG).length cG) (e := eG) S46.out List.mem_cons_self).facts
          have H := hid (HC.out u45 aF cF aG cG (S46.out.bel) (((Sn.getN (v := .slice aF (ws XF).length cF) (X := XF) S46.out (List.mem_cons_of_mem _ List.mem_cons_self)).arg' (by omega)).2) (((Sn.getN (v := .slice aG (ws XG).length cG) (X := XG) S46.out List.mem_cons_self).arg' (by omega)).2))
          go_wp2_with fail
          clear kF0 kF1 kF2 kfF0 kfF1 kfF2 kG0 kG1 kG2 kfG0 kfG1 kfG2
          refine (Calls.mono H.out) ?_
          rintro r u47 ⟨rfl, hb⟩
          have S48 := Aside.intro (S46.out.below hb)
          clear hb H S46
          go_wp2_with fail
          go_meet
          case rel => exact ⟨rfl, S48⟩
        ·
          subst hc
          have hg := (HGT.out (by omega)).2.2.1
          have hl := (HLT.out (by omega)).2.2.1
          obtain ⟨kF0, kF1, kF2, kfF0, kfF1, kfF2⟩ := (Sn.getD (g := v1.heap.size) (n := nF) (v := .slice aF (ws XF).length cF) (e := eF) S44.out (List.mem_cons_of_mem _ List.mem_cons_self)).facts
          obtain ⟨kG0, kG1, kG2, kfG0, kfG1, kfG2⟩ := (Sn.getD (g := v2.heap.size) (n := nG) (v := .slice aG (ws XG).length cG) (e := eG) S44.out List.mem_cons_self).facts
          have H := hid (HC.out u43 aF cF aG cG (S44.out.bel) (((Sn.getN (v := .slice aF (ws XF).length cF) (X := XF) S44.out (List.mem_cons_of_mem _ List.mem_cons_self)).arg' (by omega)).2) (((Sn.getN (v := .slice aG (ws XG).length cG) (X := XG) S44.out List.mem_cons_self).arg' (by omega)).2))
          go_wp2_with fail
          clear kF0 kF1 kF2 kfF0 kfF1 kfF2 kG0 kG1 kG2 kfG0 kfG1 kfG2
          refine (Calls.mono H.out) ?_
          rintro r u49 ⟨rfl, hb⟩
          have S50 := Aside.intro (S44.out.below hb)
          clear hb H S44
          obtain ⟨kF0, kF1, kF2, kfF0, kfF1, kfF2⟩ := (Sn.getD (g := v1.heap.size) (n := nF) (v := .slice aF (ws XF).length cF) (e := eF) S50.out (List.mem_cons_of_mem _ List.mem_cons_self)).facts
          obtain ⟨kG0, kG1, kG2, kfG0, kfG1, kfG2⟩ := (Sn.getD (g := v2.heap.size) (n := nG) (v := .slice aG (ws XG).length cG) (e := eG) S50.out List.mem_cons_self).facts
          have H := hid (HC.out u49 aF cF aG cG (S50.out.bel) (((Sn.getN (v := .slice aF (ws XF).length cF) (X := XF) S50.out (List.mem_cons_of_mem _ List.mem_cons_self)).arg' (by omega)).2) (((Sn.getN (v := .slice aG (ws XG).length cG) (X := XG) S50.out List.mem_cons_self).arg' (by omega)).2))
          go_wp2_with fail
          clear kF0 kF1 kF2 kfF0 kfF1 kfF2 kG0 kG1 kG2 kfG0 kfG1 kfG2
          refine (Calls.mono H.out) ?_
          rintro r u51 ⟨rfl, hb⟩
          have S52 := Aside.intro (S50.out.below hb)
          clear hb H S50
          go_wp2_with fail
          go_meet
          case rel => exact ⟨rfl, S52⟩
        ·
          have c1 : decide (cv ≤ 0) = false := by simp; omega
          have c2 : 0 ≤ cv := by omega
          have hl := (HLT.out c2).2.2.1
          clear hc
          obtain ⟨kF0, kF1, kF2, kfF0, kfF1, kfF2⟩ := (Sn.getD (g := v1.heap.size) (n := nF) (v := .slice aF (ws XF).length cF) (e := eF) S44.out (List.mem_cons_of_mem _ List.mem_cons_self)).facts
          obtain ⟨kG0, kG1, kG2, kfG0, kfG1, kfG2⟩ := (Sn.getD (g := v2.heap.size) (n := nG) (v := .slice aG (ws XG).length cG) (e := eG) S44.out List.mem_cons_self).facts
          have H := hid (HC.out u43 aF cF aG cG (S44.out.bel) (((Sn.getN (v := .slice aF (ws XF).length cF) (X := XF) S44.out (List.mem_cons_of_mem _ List.mem_cons_self)).arg' (by omega)).2) (((Sn.getN (v := .slice aG (ws XG).length cG) (X := XG) S44.out List.mem_cons_self).arg' (by omega)).2))
          go_wp2_with fail
          clear kF0 kF1 kF2 kfF0 kfF1 kfF2 kG0 kG1 kG2 kfG0 kfG1 kfG2
          refine (Calls.mono H.out) ?_
          rintro r u53 ⟨rfl, hb⟩
          have S54 := Aside.intro (S44.out.below hb)
          clear hb H S44
          obtain ⟨kF0, kF1, kF2, kfF0, kfF1, kfF2⟩ := (Sn.getD (g := v1.heap.size) (n := nF) (v := .slice aF (ws XF).length cF) (e := eF) S54.out (List.mem_cons_of_mem _ List.mem_cons_self)).facts
          obtain ⟨kG0, kG1, kG2, kfG0, kfG1, kfG2⟩ := (Sn.getD (g := v2.heap.size) (n := nG) (v := .slice aG (ws XG).length cG) (e := eG) S54.out List.mem_cons_self).facts
          have H := hid (HC.out u53 aF cF aG cG (S54.out.bel) (((Sn.getN (v := .slice aF (ws XF).length cF) (X := XF) S54.out (List.mem_cons_of_mem _ List.mem_cons_self)).arg' (by omega)).2) (((Sn.getN (v := .slice aG (ws XG).length cG) (X := XG) S54.out List.mem_cons_self).arg' (by omega)).2))
          go_wp2_with fail
          clear kF0 kF1 kF2 kfF0 kfF1 kfF2 kG0 kG1 kG2 kfG0 kfG1 kfG2
          refine (Calls.mono H.out) ?_
          rintro r u55 ⟨rfl, hb⟩
          have S56 := Aside.intro (S54.out.below hb)
          clear hb H S54
          go_wp2_with fail
          go_meet
          case rel => exact ⟨rfl, S56⟩
      case rest =>
        obtain ⟨rfl, S57⟩ := hcut
        clear S44
        obtain ⟨m2, mf2⟩ := Lk.facts S57.out.lk 2 (.float .f64 0) rfl
        obtain ⟨U59, hU59⟩ : ∃ U, U = wc.setCell ⟨gl, 2, none⟩ (.float .f64 x2) := ⟨_, rfl⟩
        have S60 : Aside (Sn w gl #[.float .f64 x0, .float .f64 x1, .float .f64 x2, .float .f64 0, .float .f64 0] [(v2.heap.size, nG, .slice aG (ws XG).length cG, eG), (v1.heap.size, nF, .slice aF (ws XF).length cF, eF)] [(.slice aG (ws XG).length cG, XG), (.slice aF (ws XF).length cF, XF)] U59) := Aside.intro (by rw [hU59]; exact S57.out.store 2 _ _ rfl)
        go_upto_region 9 with fail
        rw [← hU59]
        clear hU59 m2 mf2 S57
        go_wp2_with fail
        rw [rounds_succ]
        obtain ⟨kF0, kF1, kF2, kfF0, kfF1, kfF2⟩ := (Sn.getD (g := v1.heap.size) (n := nF) (v := .slice aF (ws XF).length cF) (e := eF) S60.out (List.mem_cons_of_mem _ List.mem_cons_self)).facts
        have H := hid (HR3.out U59 aF cF (S60.out.bel) (((Sn.getN (v := .slice aF (ws XF).length cF) (X := XF) S60.out (List.mem_cons_of_mem _ List.mem_cons_self)).arg' (by omega)).2))
        go_wp2_with fail
        clear kF0 kF1 kF2 kfF0 kfF1 kfF2
        refine (Calls.mono H.out) ?_
        rintro r u61 ⟨rfl, hb⟩
        have S62 := Aside.intro (S60.out.below hb)
        clear hb H S60
        obtain ⟨kG0, kG1, kG2, kfG0, kfG1, kfG2⟩ := (Sn.getD (g := v2.heap.size) (n := nG) (v := .slice aG (ws XG).length cG) (e := eG) S62.out List.mem_cons_self).facts
        have H := hid (HS3.out u61 aG cG (S62.out.bel) (((Sn.getN (v := .slice aG (ws XG).length cG) (X := XG) S62.out List.mem_cons_self).arg' (by omega)).2))
        go_wp2_with fail
        clear kG0 kG1 kG2 kfG0 kfG1 kfG2
        refine (Calls.mono H.out) ?_
        rintro r u63 ⟨rfl, hb⟩
        have S64 := Aside.intro (S62.out.below hb)
        clear hb H S62
        go_upto_region 12 with fail
        go_cut [110] from 83 to 110 (fun v wx => v = .bool false ∧ Aside (Sn w gl #[.float .f64 x0, .float .f64 x1, .float .f64 x2, .float .f64 0, .float .f64 0] [(v2.heap.size, nG, .slice aG (ws XG).length cG, eG), (v1.heap.size, nF, .slice aF (ws XF).length cF, eF)] [(.slice aG (ws XG).length cG, XG), (.slice aF (ws XF).length cF, XF)] wx))
        case first =>
          rcases Int.lt_trichotomy cv 0 with hc | hc | hc
          ·
            have c1 : cv ≤ 0 := by omega
            have c2 : decide (0 ≤ cv) = false := by simp; omega
            have hg := (HGT.out c1).2.2.2.1
            clear hc
            obtain ⟨kF0, kF1, kF2, kfF0, kfF1, kfF2⟩ := (Sn.getD (g := v1.heap.size) (n := nF) (v := .slice aF (ws XF).length cF) (e := eF) S64.out (List.mem_cons_of_mem _ List.mem_cons_self)).facts
            obtain ⟨kG0, kG1, kG2, kfG0, kfG1, kfG2⟩ := (Sn.getD (g := v2.heap.size) (n := nG) (v := .slice aG (ws XG).length cG) (e := eG) S64.out List.mem_cons_self).facts
            have H := hid (HC.out u63 aF cF aG cG (S64.out.bel) (((Sn.getN (v := .slice aF (ws XF).length cF) (X := XF) S64.out (List.mem_cons_of_mem _ List.mem_cons_self)).arg' (by omega)).2) (((Sn.getN (v := .slice aG (ws XG).length cG) (X := XG) S64.out List.mem_cons_self).arg' (by omega)).2))
            go_wp2_with fail
            clear kF0 kF1 kF2 kfF0 kfF1 kfF2 kG0 kG1 kG2 kfG0 kfG1 kfG2
            refine (Calls.mono H.out) ?_
            rintro r u65 ⟨rfl, hb⟩
            have S66 := Aside.intro (S64.out.below hb)
            clear hb H S64
            obtain ⟨kF0, kF1, kF2, kfF0, kfF1, kfF2⟩ := (Sn.getD (g := v1.heap.size) (n := nF) (v := .slice aF (ws XF).length cF) (e := eF) S66.out (List.mem_cons_of_mem _ List.mem_cons_self)).facts
            obtain ⟨kG0, kG1, kG2, kfG0, kfG1, kfG2⟩ := (Sn.getD (g := v2.heap.size) (n := nG) (v := .slice aG (ws XG).length cG) (e := eG) S66.out List.mem_cons_self).facts
            have H := hid (HC.out u65 aF cF aG cG (S66.out.bel) (((Sn.getN (v := .slice aF (ws XF).length cF) (X := XF) S66.out (List.mem_cons_of_mem _ List.mem_cons_self)).arg' (by omega)).2) (((Sn.getN (v := .slice aG (ws XG).length cG) (X := XG) S66.out List.mem_cons_self).arg' (by omega)).2))
            go_wp2_with fail
            clear kF0 kF1 kF2 kfF0 kfF1 kfF2 kG0 kG1 kG2 kfG0 kfG1 kfG2
            refine (Calls.mono H.out) ?_
            rintro r u67 ⟨rfl, hb⟩
            have S68 := Aside.intro (S66.out.below hb)
            clear hb H S66
            go_wp2_with fail
            go_meet
            case rel => exact ⟨rfl, S68⟩
          ·
            subst hc
            have hg := (HGT.out (by omega)).2.2.2.1
            have hl := (HLT.out (by omega)).2.2.2.1
            obtain ⟨kF0, kF1, kF2, kfF0, kfF1, kfF2⟩ := (Sn.getD (g := v1.heap.size) (n := nF) (v := .slice aF (ws XF).length cF) (e := eF) S64.out (List.mem_cons_of_mem _ List.mem_cons_self)).facts
            obtain ⟨kG0, kG1, kG2, kfG0, kfG1, kfG2⟩ := (Sn.getD (g := v2.heap.size) (n := nG) (v := .slice aG (ws XG).length cG) (e := eG) S64.out List.mem_cons_self).facts
            have H := hid (HC.out u63 aF cF aG cG (S64.out.bel) (((Sn.getN (v := .slice aF (ws XF).length cF) (X := XF) S64.out (List.mem_cons_of_mem _ List.mem_cons_self)).arg' (by omega)).2) (((Sn.getN (v := .slice aG (ws XG).length cG) (X := XG) S64.out List.mem_cons_self).arg' (by omega)).2))
            go_wp2_with fail
            clear kF0 kF1 kF2 kfF0 kfF1 kfF2 kG0 kG1 kG2 kfG0 kfG1 kfG2
            refine (Calls.mono H.out) ?_
            rintro r u69 ⟨rfl, hb⟩
            have S70 := Aside.intro (S64.out.below hb)
            clear hb H S64
            obtain ⟨kF0, kF1, kF2, kfF0, kfF1, kfF2⟩ := (Sn.getD (g := v1.heap.size) (n := nF) (v := .slice aF (ws XF).length cF) (e := eF) S70.out (List.mem_cons_of_mem _ List.mem_cons_self)).facts
            obtain ⟨kG0, kG1, kG2, kfG0, kfG1, kfG2⟩ := (Sn.getD (g := v2.heap.size) (n := nG) (v := .slice aG (ws XG).length cG) (e := eG) S70.out List.mem_cons_self).facts
            have H := hid (HC.out u69 aF cF aG cG (S70.out.bel) (((Sn.getN (v := .slice aF (ws XF).length cF) (X := XF) S70.out (List.mem_cons_of_mem _ List.mem_cons_self)).arg' (by omega)).2) (((Sn.getN (v := .slice aG (ws XG).length cG) (X := XG) S70.out List.mem_cons_self).arg' (by omega)).2))
            go_wp2_with fail
            clear kF0 kF1 kF2 kfF0 kfF1 kfF2 kG0 kG1 kG2 kfG0 kfG1 kfG2
            refine (Calls.mono H.out) ?_
            rintro r u71 ⟨rfl, hb⟩
            have S72 := Aside.intro (S70.out.below hb)
            clear hb H S70
            go_wp2_with fail
            go_meet
            case rel => exact ⟨rfl, S72⟩
          ·
            have c1 : decide (cv ≤ 0) = false := by simp; omega
            have c2 : 0 ≤ cv := by omega
            have hl := (HLT.out c2).2.2.2.1
            clear hc
            obtain ⟨kF0, kF1, kF2, kfF0, kfF1, kfF2⟩ := (Sn.getD (g := v1.heap.size) (n := nF) (v := .slice aF (ws XF).length cF) (e := eF) S64.out (List.mem_cons_of_mem _ List.mem_cons_self)).facts
            obtain ⟨kG0, kG1, kG2, kfG0, kfG1, kfG2⟩ := (Sn.getD (g := v2.heap.size) (n := nG) (v := .slice aG (ws XG).length cG) (e := eG) S64.out List.mem_cons_self).facts
            have H := hid (HC.out u63 aF cF aG cG (S64.out.bel) (((Sn.getN (v := .slice aF (ws XF).length cF) (X := XF) S64.out (List.mem_cons_of_mem _ List.mem_cons_self)).arg' (by omega)).2) (((Sn.getN (v := .slice aG (ws XG).length cG) (X := XG) S64.out List.mem_cons_self).arg' (by omega)).2))
            go_wp2_with fail
            clear kF0 kF1 kF2 kfF0 kfF1 kfF2 kG0 kG1 kG2 kfG0 kfG1 kfG2
            refine (Calls.mono H.out) ?_
            rintro r u73 ⟨rfl, hb⟩
            have S74 := Aside.intro (S64.out.below hb)
            clear hb H S64
            obtain ⟨kF0, kF1, kF2, kfF0, kfF1, kfF2⟩ := (Sn.getD (g := v1.heap.size) (n := nF) (v := .slice aF (ws XF).length cF) (e := eF) S74.out (List.mem_cons_of_mem _ List.mem_cons_self)).facts
            obtain ⟨kG0, kG1, kG2, kfG0, kfG1, kfG2⟩ := (Sn.getD (g := v2.heap.size) (n := nG) (v := .slice aG (ws XG).length cG) (e := eG) S74.out List.mem_cons_self).facts
            have H := hid (HC.out u73 aF cF aG cG (S74.out.bel) (((Sn.getN (v := .slice aF (ws XF).length cF) (X := XF) S74.out (List.mem_cons_of_mem _ List.mem_cons_self)).arg' (by omega)).2) (((Sn.getN (v := .slice aG (ws XG).length cG) (X := XG) S74.out List.mem_cons_self).arg' (by omega)).2))
            go_wp2_with fail
            clear kF0 kF1 kF2 kfF0 kfF1 kfF2 kG0 kG1 kG2 kfG0 kfG1 kfG2
            refine (Calls.mono H.out) ?_
            rintro r u75 ⟨rfl, hb⟩
            have S76 := Aside.intro (S74.out.below hb)
            clear hb H S74
            go_wp2_with fail
            go_meet
            case rel => exact ⟨rfl, S76⟩
        case rest =>
          obtain ⟨rfl, S77⟩ := hcut
          clear S64
          obtain ⟨m3, mf3⟩ := Lk.facts S77.out.lk 3 (.float .f64 0) rfl
          obtain ⟨U79, hU79⟩ : ∃ U, U = wc.setCell ⟨gl, 3, none⟩ (.float .f64 x3) := ⟨_, rfl⟩
          have S80 : Aside (Sn w gl #[.float .f64 x0, .float .f64 x1, .float .f64 x2, .float .f64 x3, .float .f64 0] [(v2.heap.size, nG, .slice aG (ws XG).length cG, eG), (v1.heap.size, nF, .slice aF (ws XF).length cF, eF)] [(.slice aG (ws XG).length cG, XG), (.slice aF (ws XF).length cF, XF)] U79) := Aside.intro (by rw [hU79]; exact S77.out.store 3 _ _ rfl)
          go_upto_region 9 with fail
          rw [← hU79]
          clear hU79 m3 mf3 S77
          go_wp2_with fail
          rw [rounds_succ]
          obtain ⟨kF0, kF1, kF2, kfF0, kfF1, kfF2⟩ := (Sn.getD (g := v1.heap.size) (n := nF) (v := .slice aF (ws XF).length cF) (e := eF) S80.out (List.mem_cons_of_mem _ List.mem_cons_self)).facts
          have H := hid (HR4.out U79 aF cF (S80.out.bel) (((Sn.getN (v := .slice aF (ws XF).length cF) (X := XF) S80.out (List.mem_cons_of_mem _ List.mem_cons_self)).arg' (by omega)).2))
          go_wp2_with fail
          clear kF0 kF1 kF2 kfF0 kfF1 kfF2
          refine (Calls.mono H.out) ?_
          rintro r u81 ⟨rfl, hb⟩
          have S82 := Aside.intro (S80.out.below hb)
          clear hb H S80
          obtain ⟨kG0, kG1, kG2, kfG0, kfG1, kfG2⟩ := (Sn.getD (g := v2.heap.size) (n := nG) (v := .slice aG (ws XG).length cG) (e := eG) S82.out List.mem_cons_self).facts
          have H := hid (HS4.out u81 aG cG (S82.out.bel) (((Sn.getN (v := .slice aG (ws XG).length cG) (X := XG) S82.out List.mem_cons_self).arg' (by omega)).2))
          go_wp2_with fail
          clear kG0 kG1 kG2 kfG0 kfG1 kfG2
          refine (Calls.mono H.out) ?_
          rintro r u83 ⟨rfl, hb⟩
          have S84 := Aside.intro (S82.out.below hb)
          clear hb H S82
          go_upto_region 12 with fail
          go_cut [110] from 83 to 110 (fun v wx => v = .bool false ∧ Aside (Sn w gl #[.float .f64 x0, .float .f64 x1, .float .f64 x2, .float .f64 x3, .float .f64 0] [(v2.heap.size, nG, .slice aG (ws XG).length cG, eG), (v1.heap.size, nF, .slice aF (ws XF).length cF, eF)] [(.slice aG (ws XG).length cG, XG), (.slice aF (ws XF).length cF, XF)] wx))
          case first =>
            rcases Int.lt_trichotomy cv 0 with hc | hc | hc
            ·
              have c1 : cv ≤ 0 := by omega
              have c2 : decide (0 ≤ cv) = false := by simp; omega
              have hg := (HGT.out c1).2.2.2.2
              clear hc
              obtain ⟨kF0, kF1, kF2, kfF0, kfF1, kfF2⟩ := (Sn.getD (g := v1.heap.size) (n := nF) (v := .slice aF (ws XF).length cF) (e := eF) S84.out (List.mem_cons_of_mem _ List.mem_cons_self)).facts
              obtain ⟨kG0, kG1, kG2, kfG0, kfG1, kfG2⟩ := (Sn.getD (g := v2.heap.size) (n := nG) (v := .slice aG (ws XG).length cG) (e := eG) S84.out List.mem_cons_self).facts
              have H := hid (HC.out u83 aF cF aG cG (S84.out.bel) (((Sn.getN (v := .slice aF (ws XF).length cF) (X := XF) S84.out (List.mem_cons_of_mem _ List.mem_cons_self)).arg' (by omega)).2) (((Sn.getN (v := .slice aG (ws XG).length cG) (X := XG) S84.out List.mem_cons_self).arg' (by omega)).2))
              go_wp2_with fail
              clear kF0 kF1 kF2 kfF0 kfF1 kfF2 kG0 kG1 kG2 kfG0 kfG1 kfG2
              refine (Calls.mono H.out) ?_
              rintro r u85 ⟨rfl, hb⟩
              have S86 := Aside.intro (S84.out.below hb)
              clear hb H S84
              obtain ⟨kF0, kF1, kF2, kfF0, kfF1, kfF2⟩ := (Sn.getD (g := v1.heap.size) (n := nF) (v := .slice aF (ws XF).length cF) (e := eF) S86.out (List.mem_cons_of_mem _ List.mem_cons_self)).facts
              obtain ⟨kG0, kG1, kG2, kfG0, kfG1, kfG2⟩ := (Sn.getD (g := v2.heap.size) (n := nG) (v := .slice aG (ws XG).length cG) (e := eG) S86.out List.mem_cons_self).facts
              have H := hid (HC.out u85 aF cF aG cG (S86.out.bel) (((Sn.getN (v := .slice aF (ws XF).length cF) (X := XF) S86.out (List.mem_cons_of_mem _ List.mem_cons_self)).arg' (by omega)).2) (((Sn.getN (v := .slice aG (ws XG).length cG) (X := XG) S86.out List.mem_cons_self).arg' (by omega)).2))
              go_wp2_with fail
              clear kF0 kF1 kF2 kfF0 kfF1 kfF2 kG0 kG1 kG2 kfG0 kfG1 kfG2
              refine (Calls.mono H.out) ?_
              rintro r u87 ⟨rfl, hb⟩
              have S88 := Aside.intro (S86.out.below hb)
              clear hb H S86
              go_wp2_with fail
              go_meet
              case rel => exact ⟨rfl, S88⟩
            ·
              subst hc
              have hg := (HGT.out (by omega)).2.2.2.2
              have hl := (HLT.out (by omega)).2.2.2.2
              obtain ⟨kF0, kF1, kF2, kfF0, kfF1, kfF2⟩ := (Sn.getD (g := v1.heap.size) (n := nF) (v := .slice aF (ws XF).length cF) (e := eF) S84.out (List.mem_cons_of_mem _ List.mem_cons_self)).facts
              obtain ⟨kG0, kG1, kG2, kfG0, kfG1, kfG2⟩ := (Sn.getD (g := v2.heap.size) (n := nG) (v := .slice aG (ws XG).length cG) (e := eG) S84.out List.mem_cons_self).facts
              have H := hid (HC.out u83 aF cF aG cG (S84.out.bel) (((Sn.getN (v := .slice aF (ws XF).length cF) (X := XF) S84.out (List.mem_cons_of_mem _ List.mem_cons_self)).arg' (by omega)).2) (((Sn.getN (v := .slice aG (ws XG).length cG) (X := XG) S84.out List.mem_cons_self).arg' (by omega)).2))
              go_wp2_with fail
              clear kF0 kF1 kF2 kfF0 kfF1 kfF2 kG0 kG1 kG2 kfG0 kfG1 kfG2
              refine (Calls.mono H.out) ?_
              rintro r u89 ⟨rfl, hb⟩
              have S90 := Aside.intro (S84.out.below hb)
              clear hb H S84
              obtain ⟨kF0, kF1, kF2, kfF0, kfF1, kfF2⟩ := (Sn.getD (g := v1.heap.size) (n := nF) (v := .slice aF (ws XF).length cF) (e := eF) S90.out (List.mem_cons_of_mem _ List.mem_cons_self)).facts
              obtain ⟨kG0, kG1, kG2, kfG0, kfG1, kfG2⟩ := (Sn.getD (g := v2.heap.size) (n := nG) (v := .slice aG (ws XG).length cG) (e := eG) S90.out List.mem_cons_self).facts
              have H := hid (HC.out u89 aF cF aG cG (S90.out.bel) (((Sn.getN (v := .slice aF (ws XF).length cF) (X := XF) S90.out (List.mem_cons_of_mem _ List.mem_cons_self)).arg' (by omega)).2) (((Sn.getN (v := .slice aG (ws XG).length cG) (X := XG) S90.out List.mem_cons_self).arg' (by omega)).2))
              go_wp2_with fail
              clear kF0 kF1 kF2 kfF0 kfF1 kfF2 kG0 kG1 kG2 kfG0 kfG1 kfG2
              refine (Calls.mono H.out) ?_
              rintro r u91 ⟨rfl, hb⟩
              have S92 := Aside.intro (S90.out.below hb)
              clear hb H S90
              go_wp2_with fail
              go_meet
              case rel => exact ⟨rfl, S92⟩
            ·
              have c1 : decide (cv ≤ 0) = false := by simp; omega
              have c2 : 0 ≤ cv := by omega
              have hl := (HLT.out c2).2.2.2.2
              clear hc
              obtain ⟨kF0, kF1, kF2, kfF0, kfF1, kfF2⟩ := (Sn.getD (g := v1.heap.size) (n := nF) (v := .slice aF (ws XF).length cF) (e := eF) S84.out (List.mem_cons_of_mem _ List.mem_cons_self)).facts
              obtain ⟨kG0, kG1, kG2, kfG0, kfG1, kfG2⟩ := (Sn.getD (g := v2.heap.size) (n := nG) (v := .slice aG (ws XG).length cG) (e := eG) S84.out List.mem_cons_self).facts
              have H := hid (HC.out u83 aF cF aG cG (S84.out.bel) (((Sn.getN (v := .slice aF (ws XF).length cF) (X := XF) S84.out (List.mem_cons_of_mem _ List.mem_cons_self)).arg' (by omega)).2) (((Sn.getN (v := .slice aG (ws XG).length cG) (X := XG) S84.out List.mem_cons_self).arg' (by omega)).2))
              go_wp2_with fail
              clear kF0 kF1 kF2 kfF0 kfF1 kfF2 kG0 kG1 kG2 kfG0 kfG1 kfG2
              refine (Calls.mono H.out) ?_
              rintro r u93 ⟨rfl, hb⟩
              have S94 := Aside.intro (S84.out.below hb)
              clear hb H S84
              obtain ⟨kF0, kF1, kF2, kfF0, kfF1, kfF2⟩ := (Sn.getD (g := v1.heap.size) (n := nF) (v := .slice aF (ws XF).length cF) (e := eF) S94.out (List.mem_cons_of_mem _ List.mem_cons_self)).facts
              obtain ⟨kG0, kG1, kG2, kfG0, kfG1, kfG2⟩ := (Sn.getD (g := v2.heap.size) (n := nG) (v := .slice aG (ws XG).length cG) (e := eG) S94.out List.mem_cons_self).facts
              have H := hid (HC.out u93 aF cF aG cG (S94.out.bel) (((Sn.getN (v := .slice aF (ws XF).length cF) (X := XF) S94.out (List.mem_cons_of_mem _ List.mem_cons_self)).arg' (by omega)).2) (((Sn.getN (v := .slice aG (ws XG).length cG) (X := XG) S94.out List.mem_cons_self).arg' (by omega)).2))
              go_wp2_with fail
              clear kF0 kF1 kF2 kfF0 kfF1 kfF2 kG0 kG1 kG2 kfG0 kfG1 kfG2
              refine (Calls.mono H.out) ?_
              rintro r u95 ⟨rfl, hb⟩
              have S96 := Aside.intro (S94.out.below hb)
              clear hb H S94
              go_wp2_with fail
              go_meet
              case rel => exact ⟨rfl, S96⟩
          case rest =>
            obtain ⟨rfl, S97⟩ := hcut
            clear S84
            obtain ⟨m4, mf4⟩ := Lk.facts S97.out.lk 4 (.float .f64 0) rfl
            obtain ⟨U99, hU99⟩ : ∃ U, U = wc.setCell ⟨gl, 4, none⟩ (.float .f64 x4) := ⟨_, rfl⟩
            have S100 : Aside (Sn w gl #[.float .f64 x0, .float .f64 x1, .float .f64 x2, .float .f64 x3, .float .f64 x4] [(v2.heap.size, nG, .slice aG (ws XG).length cG, eG), (v1.heap.size, nF, .slice aF (ws XF).length cF, eF)] [(.slice aG (ws XG).length cG, XG), (.slice aF (ws XF).length cF, XF)] U99) := Aside.intro (by rw [hU99]; exact S97.out.store 4 _ _ rfl)
            go_upto_region 9 with fail
            rw [← hU99]
            clear hU99 m4 mf4 S97
            go_wp2_with fail
            rw [rounds_succ]
            obtain ⟨m3, mf3⟩ := Lk.facts S100.out.lk 3 (.float .f64 x3) rfl
            obtain ⟨kF0, kF1, kF2, kfF0, kfF1, kfF2⟩ := (Sn.getD (g := v1.heap.size) (n := nF) (v := .slice aF (ws XF).length cF) (e := eF) S100.out (List.mem_cons_of_mem _ List.mem_cons_self)).facts
            go_upto_if 117 with fail
            clear kF0 kF1 kF2 kfF0 kfF1 kfF2
            clear m3 mf3
            go_cut [18] from 114 to 119 (fun v wx => v = .float .f64 zz ∧ wx = U99)
            case first =>
              cases nF
              ·
                have hzz := HZ.out.2 rfl
                subst hzz
                obtain ⟨m2, mf2⟩ := Lk.facts S100.out.lk 2 (.float .f64 x2) rfl
                go_wp2_with fail
                go_meet
                case rel => exact ⟨rfl, rfl⟩
              ·
                have hzz := HZ.out.1 rfl
                subst hzz
                obtain ⟨m2, mf2⟩ := Lk.facts S100.out.lk 2 (.float .f64 x2) rfl
                go_wp2_with fail
                go_meet
                case rel => exact ⟨rfl, rfl⟩
            case rest =>
              obtain ⟨rfl, rfl⟩ := hcut
              have hz1 := HZ1.out
              obtain ⟨m1, mf1⟩ := Lk.facts S100.out.lk 1 (.float .f64 x1) rfl
              obtain ⟨m3, mf3⟩ := Lk.facts S100.out.lk 3 (.float .f64 x3) rfl
              have H := hid (HOD.out wc  (S100.out.bel) )
              go_wp2_with fail
              clear m1 mf1 m3 mf3
              refine (Calls.mono H.out) ?_
              rintro r u101 ⟨⟨v, rfl, hN⟩, hb⟩
              obtain ⟨aD, cD, rfl, _⟩ := hN.arg (by omega)
              obtain ⟨UD, hUD⟩ : ∃ U, U = u101.alloc (.cells #[.bool nD, .slice aD (ws XD).length cD, .int .i64 eD] 27) := ⟨_, rfl⟩
              have hA : Below u101.heap.size u101 UD := by rw [hUD]; exact below_alloc _ _
              have DN : Dk UD u101.heap.size nD (.slice aD (ws XD).length cD) eD := by rw [hUD]; exact Dk.new _ _ _ _
              have hgl := S100.out.lk.lt
              have hsz := hb.size
              have T0 := ((S100.out.below hb).below hA).addN (hN.below hA) (by omega)
              have S102 := Aside.intro (T0.addD DN (by omega))
              clear hb hN H hA DN hgl hsz T0 S100
              go_upto_region 21 with fail
              rw [← hUD]
              clear hUD
              clear hz1
              obtain ⟨m2, mf2⟩ := Lk.facts S102.out.lk 2 (.float .f64 x2) rfl
              have H := hid (HOV.out UD  (S102.out.bel) )
              go_wp2_with fail
              clear m2 mf2
              refine (Calls.mono H.out) ?_
              rintro r u103 ⟨⟨v, rfl, hN⟩, hb⟩
              obtain ⟨aV, cV, rfl, _⟩ := hN.arg (by omega)
              obtain ⟨UV, hUV⟩ : ∃ U, U = u103.alloc (.cells #[.bool nV, .slice aV (ws XV).length cV, .int .i64 eV] 27) := ⟨_, rfl⟩
              have hA : Below u103.heap.size u103 UV := by rw [hUV]; exact below_alloc _ _
              have DN : Dk UV u103.heap.size nV (.slice aV (ws XV).length cV) eV := by rw [hUV]; exact Dk.new _ _ _ _
              have hgl := S102.out.lk.lt
              have hsz := hb.size
              have T0 := ((S102.out.below hb).below hA).addN (hN.below hA) (by omega)
              have S104 := Aside.intro (T0.addD DN (by omega))
              clear hb hN H hA DN hgl hsz T0 S102
              go_upto_region 22 with fail
              rw [← hUV]
              clear hUV
              go_upto_region 22 with fail
              go_cut [153] from 136 to 153 (fun v wx => v = .bool false ∧ Aside (Sn w gl #[.float .f64 x0, .float .f64 x1, .float .f64 x2, .float .f64 x3, .float .f64 x4] [(u103.heap.size, nV, .slice aV (ws XV).length cV, eV), (u101.heap.size, nD, .slice aD (ws XD).length cD, eD), (v2.heap.size, nG, .slice aG (ws XG).length cG, eG), (v1.heap.size, nF, .slice aF (ws XF).length cF, eF)] [(.slice aV (ws XV).length cV, XV), (.slice aD (ws XD).length cD, XD), (.slice aG (ws XG).length cG, XG), (.slice aF (ws XF).length cF, XF)] wx))
              case first =>
                by_cases hd : erD = 0
                ·
                  have hcd := HD0.out.1 hd
                  subst hd
                  by_cases hv : erV = 0
                  ·
                    have hcv := HD0.out.2 hv
                    subst hv
                    obtain ⟨kD0, kD1, kD2, kfD0, kfD1, kfD2⟩ := (Sn.getD (g := u101.heap.size) (n := nD) (v := .slice aD (ws XD).length cD) (e := eD) S104.out (List.mem_cons_of_mem _ List.mem_cons_self)).facts
                    obtain ⟨kF0, kF1, kF2, kfF0, kfF1, kfF2⟩ := (Sn.getD (g := v1.heap.size) (n := nF) (v := .slice aF (ws XF).length cF) (e := eF) S104.out (List.mem_cons_of_mem _ (List.mem_cons_of_mem _ (List.mem_cons_of_mem _ List.mem_cons_self)))).facts
                    have H := hid (HCD.out UV aD cD aF cF (S104.out.bel) (((Sn.getN (v := .slice aD (ws XD).length cD) (X := XD) S104.out (List.mem_cons_of_mem _ List.mem_cons_self)).arg' (by omega)).2) (((Sn.getN (v := .slice aF (ws XF).length cF) (X := XF) S104.out (List.mem_cons_of_mem _ (List.mem_cons_of_mem _ (List.mem_cons_of_mem _ List.mem_cons_self)))).arg' (by omega)).2))
                    go_wp2_with fail
                    clear kD0 kD1 kD2 kfD0 kfD1 kfD2 kF0 kF1 kF2 kfF0 kfF1 kfF2
                    refine (Calls.mono H.out) ?_
                    rintro r u105 ⟨rfl, hb⟩
                    have S106 := Aside.intro (S104.out.below hb)
                    clear hb H S104
                    obtain ⟨kV0, kV1, kV2, kfV0, kfV1, kfV2⟩ := (Sn.getD (g := u103.heap.size) (n := nV) (v := .slice aV (ws XV).length cV) (e := eV) S106.out List.mem_cons_self).facts
                    obtain ⟨kF0, kF1, kF2, kfF0, kfF1, kfF2⟩ := (Sn.getD (g := v1.heap.size) (n := nF) (v := .slice aF (ws XF).length cF) (e := eF) S106.out (List.mem_cons_of_mem _ (List.mem_cons_of_mem _ (List.mem_cons_of_mem _ List.mem_cons_self)))).facts
                    have H := hid (HCV.out u105 aV cV aF cF (S106.out.bel) (((Sn.getN (v := .slice aV (ws XV).length cV) (X := XV) S106.out List.mem_cons_self).arg' (by omega)).2) (((Sn.getN (v := .slice aF (ws XF).length cF) (X := XF) S106.out (List.mem_cons_of_mem _ (List.mem_cons_of_mem _ (List.mem_cons_of_mem _ List.mem_cons_self)))).arg' (by omega)).2))
                    go_wp2_with fail
                    clear kV0 kV1 kV2 kfV0 kfV1 kfV2 kF0 kF1 kF2 kfF0 kfF1 kfF2
                    refine (Calls.mono H.out) ?_
                    rintro r u107 ⟨rfl, hb⟩
                    have S108 := Aside.intro (S106.out.below hb)
                    clear hb H S106
                    go_wp2_with fail
                    go_meet
                    case rel => exact ⟨rfl, S108⟩
                  ·
                    have hv : (erV == 0) = false := by simpa using hv
                    obtain ⟨kD0, kD1, kD2, kfD0, kfD1, kfD2⟩ := (Sn.getD (g := u101.heap.size) (n := nD) (v := .slice aD (ws XD).length cD) (e := eD) S104.out (List.mem_cons_of_mem _ List.mem_cons_self)).facts
                    obtain ⟨kF0, kF1, kF2, kfF0, kfF1, kfF2⟩ := (Sn.getD (g := v1.heap.size) (n := nF) (v := .slice aF (ws XF).length cF) (e := eF) S104.out (List.mem_cons_of_mem _ (List.mem_cons_of_mem _ (List.mem_cons_of_mem _ List.mem_cons_self)))).facts
                    have H := hid (HCD.out UV aD cD aF cF (S104.out.bel) (((Sn.getN (v := .slice aD (ws XD).length cD) (X := XD) S104.out (List.mem_cons_of_mem _ List.mem_cons_self)).arg' (by omega)).2) (((Sn.getN (v := .slice aF (ws XF).length cF) (X := XF) S104.out (List.mem_cons_of_mem _ (List.mem_cons_of_mem _ (List.mem_cons_of_mem _ List.mem_cons_self)))).arg' (by omega)).2))
                    go_wp2_with fail
                    clear kD0 kD1 kD2 kfD0 kfD1 kfD2 kF0 kF1 kF2 kfF0 kfF1 kfF2
                    refine (Calls.mono H.out) ?_
                    rintro r u109 ⟨rfl, hb⟩
                    have S110 := Aside.intro (S104.out.below hb)
                    clear hb H S104
                    go_wp2_with fail
                    go_meet
                    case rel => exact ⟨rfl, S110⟩
                ·
                  have hd : (erD == 0) = false := by simpa using hd
                  by_cases hv : erV = 0
                  ·
                    have hcv := HD0.out.2 hv
                    subst hv
                    obtain ⟨kV0, kV1, kV2, kfV0, kfV1, kfV2⟩ := (Sn.getD (g := u103.heap.size) (n := nV) (v := .slice aV (ws XV).length cV) (e := eV) S104.out List.mem_cons_self).facts
                    obtain ⟨kF0, kF1, kF2, kfF0, kfF1, kfF2⟩ := (Sn.getD (g := v1.heap.size) (n := nF) (v := .slice aF (ws XF).length cF) (e := eF) S104.out (List.mem_cons_of_mem _ (List.mem_cons_of_mem _ (List.mem_cons_of_mem _ List.mem_cons_self)))).facts
                    have H := hid (HCV.out UV aV cV aF cF (S104.out.bel) (((Sn.getN (v := .slice aV (ws XV).length cV) (X := XV) S104.out List.mem_cons_self).arg' (by omega)).2) (((Sn.getN (v := .slice aF (ws XF).length cF) (X := XF) S104.out (List.mem_cons_of_mem _ (List.mem_cons_of_mem _ (List.mem_cons_of_mem _ List.mem_cons_self)))).arg' (by omega)).2))
                    go_wp2_with fail
                    clear kV0 kV1 kV2 kfV0 kfV1 kfV2 kF0 kF1 kF2 kfF0 kfF1 kfF2
                    refine (Calls.mono H.out) ?_
                    rintro r u111 ⟨rfl, hb⟩
                    have S112 := Aside.intro (S104.out.below hb)
                    clear hb H S104
                    go_wp2_with fail
                    go_meet
                    case rel => exact ⟨rfl, S112⟩
                  ·
                    have hv : (erV == 0) = false := by simpa using hv
                    go_wp2_with fail
                    go_meet
                    case rel => exact ⟨rfl, S104⟩
              case rest =>
                obtain ⟨rfl, S113⟩ := hcut
                clear S104
                obtain ⟨kF0, kF1, kF2, kfF0, kfF1, kfF2⟩ := (Sn.getD (g := v1.heap.size) (n := nF) (v := .slice aF (ws XF).length cF) (e := eF) S113.out (List.mem_cons_of_mem _ (List.mem_cons_of_mem _ (List.mem_cons_of_mem _ List.mem_cons_self)))).facts
                have H := hid (HGZ.out wc aF cF (S113.out.bel) (((Sn.getN (v := .slice aF (ws XF).length cF) (X := XF) S113.out (List.mem_cons_of_mem _ (List.mem_cons_of_mem _ (List.mem_cons_of_mem _ List.mem_cons_self)))).arg' (by omega)).2))
                go_wp2_with fail
                clear kF0 kF1 kF2 kfF0 kfF1 kfF2
                refine (Calls.mono H.out) ?_
                rintro r u115 ⟨⟨v, rfl, hN⟩, hb⟩
                obtain ⟨aZ, cZ, rfl, _⟩ := hN.arg (by omega)
                obtain ⟨UZ, hUZ⟩ : ∃ U, U = u115.alloc (.cells #[.bool nZ, .slice aZ (ws XZ).length cZ, .int .i64 eZ] 27) := ⟨_, rfl⟩
                have hA : Below u115.heap.size u115 UZ := by rw [hUZ]; exact below_alloc _ _
                have DN : Dk UZ u115.heap.size nZ (.slice aZ (ws XZ).length cZ) eZ := by rw [hUZ]; exact Dk.new _ _ _ _
                have hgl := S113.out.lk.lt
                have hsz := hb.size
                have T0 := ((S113.out.below hb).below hA).addN (hN.below hA) (by omega)
                have S116 := Aside.intro (T0.addD DN (by omega))
                clear hb hN H hA DN hgl hsz T0 S113
                go_upto_region 26 with fail
                rw [← hUZ]
                clear hUZ
                go_wp2_with fail
                refine wp_loop_rounds 3 ?_
                rw [rounds_succ]
                obtain ⟨m0, mf0⟩ := Lk.facts S116.out.lk 0 (.float .f64 x0) rfl
                obtain ⟨m4, mf4⟩ := Lk.facts S116.out.lk 4 (.float .f64 x4) rfl
                obtain ⟨U117, hU117⟩ : ∃ U, U = UZ.alloc (.cells #[.int .i64 0, .int .i64 4] 3) := ⟨_, rfl⟩
                have S118 : Aside (Sn w gl #[.float .f64 x0, .float .f64 x1, .float .f64 x2, .float .f64 x3, .float .f64 x4] [(u115.heap.size, nZ, .slice aZ (ws XZ).length cZ, eZ), (u103.heap.size, nV, .slice aV (ws XV).length cV, eV), (u101.heap.size, nD, .slice aD (ws XD).length cD, eD), (v2.heap.size, nG, .slice aG (ws XG).length cG, eG), (v1.heap.size, nF, .slice aF (ws XF).length cF, eF)] [(.slice aZ (ws XZ).length cZ, XZ), (.slice aV (ws XV).length cV, XV), (.slice aD (ws XD).length cD, XD), (.slice aG (ws XG).length cG, XG), (.slice aF (ws XF).length cF, XF)] U117) := Aside.intro (by rw [hU117]; exact S116.out.below (below_alloc _ _))
                have hgl := S116.out.lk.lt
                have hgn : gl ≠ UZ.heap.size := Nat.ne_of_lt hgl
                go_upto_region 30 with fail
                rw [← hU117]
                clear hU117 m0 mf0 m4 mf4 hgl hgn S116
                obtain ⟨kF0, kF1, kF2, kfF0, kfF1, kfF2⟩ := (Sn.getD (g := v1.heap.size) (n := nF) (v := .slice aF (ws XF).length cF) (e := eF) S118.out (List.mem_cons_of_mem _ (List.mem_cons_of_mem _ (List.mem_cons_of_mem _ (List.mem_cons_of_mem _ List.mem_cons_self))))).facts
                have H := hid (HGP.out U117 aF cF (S118.out.bel) (((Sn.getN (v := .slice aF (ws XF).length cF) (X := XF) S118.out (List.mem_cons_of_mem _ (List.mem_cons_of_mem _ (List.mem_cons_of_mem _ (List.mem_cons_of_mem _ List.mem_cons_self))))).arg' (by omega)).2))
                go_wp2_with fail
                clear kF0 kF1 kF2 kfF0 kfF1 kfF2
                refine (Calls.mono H.out) ?_
                rintro r u119 ⟨⟨v, rfl, hN⟩, hb⟩
                obtain ⟨aP, cP, rfl, _⟩ := hN.arg (by omega)
                obtain ⟨UP, hUP⟩ : ∃ U, U = u119.alloc (.cells #[.bool nP, .slice aP (ws XP).length cP, .int .i64 eP] 27) := ⟨_, rfl⟩
                have hA : Below u119.heap.size u119 UP := by rw [hUP]; exact below_alloc _ _
                have DN : Dk UP u119.heap.size nP (.slice aP (ws XP).length cP) eP := by rw [hUP]; exact Dk.new _ _ _ _
                have hgl := S118.out.lk.lt
                have hsz := hb.size
                have T0 := ((S118.out.below hb).below hA).addN (hN.below hA) (by omega)
                have S120 := Aside.intro (T0.addD DN (by omega))
                clear hb hN H hA DN hgl hsz T0 S118
                go_upto_region 31 with fail
                rw [← hUP]
                clear hUP
                go_upto_region 31 with fail
                go_cut [187] from 178 to 187 (fun v wx => v = .bool false ∧ Aside (Sn w gl #[.float .f64 x0, .float .f64 x1, .float .f64 x2, .float .f64 x3, .float .f64 x4] [(u119.heap.size, nP, .slice aP (ws XP).length cP, eP), (u115.heap.size, nZ, .slice aZ (ws XZ).length cZ, eZ), (u103.heap.size, nV, .slice aV (ws XV).length cV, eV), (u101.heap.size, nD, .slice aD (ws XD).length cD, eD), (v2.heap.size, nG, .slice aG (ws XG).length cG, eG), (v1.heap.size, nF, .slice aF (ws XF).length cF, eF)] [(.slice aP (ws XP).length cP, XP), (.slice aZ (ws XZ).length cZ, XZ), (.slice aV (ws XV).length cV, XV), (.slice aD (ws XD).length cD, XD), (.slice aG (ws XG).length cG, XG), (.slice aF (ws XF).length cF, XF)] wx))
                case first =>
                  have hn0 := HN0.out.1
                  cases isZ
                  · go_wp2_with fail
                    go_meet
                    case rel => exact ⟨rfl, S120⟩
                  ·
                    cases isP
                    · go_wp2_with fail
                      go_meet
                      case rel => exact ⟨rfl, S120⟩
                    ·
                      have hn1 := hn0 rfl rfl
                      clear hn0
                      obtain ⟨kZ0, kZ1, kZ2, kfZ0, kfZ1, kfZ2⟩ := (Sn.getD (g := u115.heap.size) (n := nZ) (v := .slice aZ (ws XZ).length cZ) (e := eZ) S120.out (List.mem_cons_of_mem _ List.mem_cons_self)).facts
                      obtain ⟨kP0, kP1, kP2, kfP0, kfP1, kfP2⟩ := (Sn.getD (g := u119.heap.size) (n := nP) (v := .slice aP (ws XP).length cP) (e := eP) S120.out List.mem_cons_self).facts
                      have H := hid (HCP.out UP aZ cZ aP cP (S120.out.bel) (((Sn.getN (v := .slice aZ (ws XZ).length cZ) (X := XZ) S120.out (List.mem_cons_of_mem _ List.mem_cons_self)).arg' (by omega)).2) (((Sn.getN (v := .slice aP (ws XP).length cP) (X := XP) S120.out List.mem_cons_self).arg' (by omega)).2))
                      go_wp2_with fail
                      clear kZ0 kZ1 kZ2 kfZ0 kfZ1 kfZ2 kP0 kP1 kP2 kfP0 kfP1 kfP2
                      refine (Calls.mono H.out) ?_
                      rintro r u121 ⟨rfl, hb⟩
                      have S122 := Aside.intro (S120.out.below hb)
                      clear hb H S120
                      go_wp2_with fail
                      go_meet
                      case rel => exact ⟨rfl, S122⟩
                case rest =>
                  obtain ⟨rfl, S123⟩ := hcut
                  clear S120
                  go_wp2_with fail
                  rw [rounds_succ]
                  obtain ⟨m0, mf0⟩ := Lk.facts S123.out.lk 0 (.float .f64 x0) rfl
                  obtain ⟨m4, mf4⟩ := Lk.facts S123.out.lk 4 (.float .f64 x4) rfl
                  obtain ⟨U125, hU125⟩ : ∃ U, U = wc.alloc (.cells #[.int .i64 0, .int .i64 4] 3) := ⟨_, rfl⟩
                  have S126 : Aside (Sn w gl #[.float .f64 x0, .float .f64 x1, .float .f64 x2, .float .f64 x3, .float .f64 x4] [(u119.heap.size, nP, .slice aP (ws XP).length cP, eP), (u115.heap.size, nZ, .slice aZ (ws XZ).length cZ, eZ), (u103.heap.size, nV, .slice aV (ws XV).length cV, eV), (u101.heap.size, nD, .slice aD (ws XD).length cD, eD), (v2.heap.size, nG, .slice aG (ws XG).length cG, eG), (v1.heap.size, nF, .slice aF (ws XF).length cF, eF)] [(.slice aP (ws XP).length cP, XP), (.slice aZ (ws XZ).length cZ, XZ), (.slice aV (ws XV).length cV, XV), (.slice aD (ws XD).length cD, XD), (.slice aG (ws XG).length cG, XG), (.slice aF (ws XF).length cF, XF)] U125) := Aside.intro (by rw [hU125]; exact S123.out.below (below_alloc _ _))
                  have hgl := S123.out.lk.lt
                  have hgn : gl ≠ wc.heap.size := Nat.ne_of_lt hgl
                  go_upto_region 30 with fail
                  rw [← hU125]
                  clear hU125 m0 mf0 m4 mf4 hgl hgn S123
                  obtain ⟨kF0, kF1, kF2, kfF0, kfF1, kfF2⟩ := (Sn.getD (g := v1.heap.size) (n := nF) (v := .slice aF (ws XF).length cF) (e := eF) S126.out (List.mem_cons_of_mem _ (List.mem_cons_of_mem _ (List.mem_cons_of_mem _ (List.mem_cons_of_mem _ (List.mem_cons_of_mem _ List.mem_cons_self)))))).facts
                  have H := hid (HGQ.out U125 aF cF (S126.out.bel) (((Sn.getN (v := .slice aF (ws XF).length cF) (X := XF) S126.out (List.mem_cons_of_mem _ (List.mem_cons_of_mem _ (List.mem_cons_of_mem _ (List.mem_cons_of_mem _ (List.mem_cons_of_mem _ List.mem_cons_self)))))).arg' (by omega)).2))
                  go_wp2_with fail
                  clear kF0 kF1 kF2 kfF0 kfF1 kfF2
                  refine (Calls.mono H.out) ?_
                  rintro r u127 ⟨⟨v, rfl, hN⟩, hb⟩
                  obtain ⟨aQ, cQ, rfl, _⟩ := hN.arg (by omega)
                  obtain ⟨UQ, hUQ⟩ : ∃ U, U = u127.alloc (.cells #[.bool nQ, .slice aQ (ws XQ).length cQ, .int .i64 eQ] 27) := ⟨_, rfl⟩
                  have hA : Below u127.heap.size u127 UQ := by rw [hUQ]; exact below_alloc _ _
                  have DN : Dk UQ u127.heap.size nQ (.slice aQ (ws XQ).length cQ) eQ := by rw [hUQ]; exact Dk.new _ _ _ _
                  have hgl := S126.out.lk.lt
                  have hsz := hb.size
                  have T0 := ((S126.out.below hb).below hA).addN (hN.below hA) (by omega)
                  have S128 := Aside.intro (T0.addD DN (by omega))
                  clear hb hN H hA DN hgl hsz T0 S126
                  go_upto_region 31 with fail
                  rw [← hUQ]
                  clear hUQ
                  go_upto_region 31 with fail
                  go_cut [187] from 178 to 187 (fun v wx => v = .bool false ∧ Aside (Sn w gl #[.float .f64 x0, .float .f64 x1, .float .f64 x2, .float .f64 x3, .float .f64 x4] [(u127.heap.size, nQ, .slice aQ (ws XQ).length cQ, eQ), (u119.heap.size, nP, .slice aP (ws XP).length cP, eP), (u115.heap.size, nZ, .slice aZ (ws XZ).length cZ, eZ), (u103.heap.size, nV, .slice aV (ws XV).length cV, eV), (u101.heap.size, nD, .slice aD (ws XD).length cD, eD), (v2.heap.size, nG, .slice aG (ws XG).length cG, eG), (v1.heap.size, nF, .slice aF (ws XF).length cF, eF)] [(.slice aQ (ws XQ).length cQ, XQ), (.slice aP (ws XP).length cP, XP), (.slice aZ (ws XZ).length cZ, XZ), (.slice aV (ws XV).length cV, XV), (.slice aD (ws XD).length cD, XD), (.slice aG (ws XG).length cG, XG), (.slice aF (ws XF).length cF, XF)] wx))
                  case first =>
                    have hn0 := HN0.out.2
                    cases isZ
                    · go_wp2_with fail
                      go_meet
                      case rel => exact ⟨rfl, S128⟩
                    ·
                      cases isQ
                      · go_wp2_with fail
                        go_meet
                        case rel => exact ⟨rfl, S128⟩
                      ·
                        have hn1 := hn0 rfl rfl
                        clear hn0
                        obtain ⟨kZ0, kZ1, kZ2, kfZ0, kfZ1, kfZ2⟩ := (Sn.getD (g := u115.heap.size) (n := nZ) (v := .slice aZ (ws XZ).length cZ) (e := eZ) S128.out (List.mem_cons_of_mem _ (List.mem_cons_of_mem _ List.mem_cons_self))).facts
                        obtain ⟨kQ0, kQ1, kQ2, kfQ0, kfQ1, kfQ2⟩ := (Sn.getD (g := u127.heap.size) (n := nQ) (v := .slice aQ (ws XQ).length cQ) (e := eQ) S128.out List.mem_cons_self).facts
                        have H := hid (HCQ.out UQ aZ cZ aQ cQ (S128.out.bel) (((Sn.getN (v := .slice aZ (ws XZ).length cZ) (X := XZ) S128.out (List.mem_cons_of_mem _ (List.mem_cons_of_mem _ List.mem_cons_self))).arg' (by omega)).2) (((Sn.getN (v := .slice aQ (ws XQ).length cQ) (X := XQ) S128.out List.mem_cons_self).arg' (by omega)).2))
                        go_wp2_with fail
                        clear kZ0 kZ1 kZ2 kfZ0 kfZ1 kfZ2 kQ0 kQ1 kQ2 kfQ0 kfQ1 kfQ2
                        refine (Calls.mono H.out) ?_
                        rintro r u129 ⟨rfl, hb⟩
                        have S130 := Aside.intro (S128.out.below hb)
                        clear hb H S128
                        go_wp2_with fail
                        go_meet
                        case rel => exact ⟨rfl, S130⟩
                  case rest =>
                    obtain ⟨rfl, S131⟩ := hcut
                    clear S128
                    go_wp2_with fail
                    rw [rounds_succ]
                    cases isZ
                    · go_wp2_with fail
                      go_ret
                      exact ⟨rfl, S131.out.bel⟩
                    have ho := HO0.out rfl
                    have H := hid (HOO.out wc  (S131.out.bel) )
                    go_wp2_with fail
                    refine (Calls.mono H.out) ?_
                    rintro r u133 ⟨⟨v, rfl, hN⟩, hb⟩
                    obtain ⟨aO, cO, rfl, _⟩ := hN.arg (by omega)
                    obtain ⟨UO, hUO⟩ : ∃ U, U = u133.alloc (.cells #[.bool nO, .slice aO (ws XO).length cO, .int .i64 eO] 27) := ⟨_, rfl⟩
                    have hA : Below u133.heap.size u133 UO := by rw [hUO]; exact below_alloc _ _
                    have DN : Dk UO u133.heap.size nO (.slice aO (ws XO).length cO) eO := by rw [hUO]; exact Dk.new _ _ _ _
                    have hgl := S131.out.lk.lt
                    have hsz := hb.size
                    have T0 := ((S131.out.below hb).below hA).addN (hN.below hA) (by omega)
                    have S134 := Aside.intro (T0.addD DN (by omega))
                    clear hb hN H hA DN hgl hsz T0 S131
                    go_upto_region 36 with fail
                    rw [← hUO]
                    clear hUO
                    go_wp2_with fail
                    refine wp_loop_rounds 6 ?_
                    rw [rounds_succ]
                    have hq0 := ho.1
                    obtain ⟨kO0, kO1, kO2, kfO0, kfO1, kfO2⟩ := (Sn.getD (g := u133.heap.size) (n := nO) (v := .slice aO (ws XO).length cO) (e := eO) S134.out List.mem_cons_self).facts
                    have H := hid (HT0.out UO aO cO (S134.out.bel) (by trivial) (((Sn.getN (v := .slice aO (ws XO).length cO) (X := XO) S134.out List.mem_cons_self).arg' (by omega)).2))
                    go_wp2_with fail
                    clear kO0 kO1 kO2 kfO0 kfO1 kfO2
                    refine (Calls.mono H.out) ?_
                    rintro r u135 ⟨rfl, hb⟩
                    have S136 := Aside.intro (S134.out.below hb)
                    clear hb H S134
                    go_wp2_with fail
                    rw [rounds_succ]
                    have hq1 := ho.2.1
                    obtain ⟨kO0, kO1, kO2, kfO0, kfO1, kfO2⟩ := (Sn.getD (g := u133.heap.size) (n := nO) (v := .slice aO (ws XO).length cO) (e := eO) S136.out List.mem_cons_self).facts
                    have H := hid (HT1.out u135 aO cO (S136.out.bel) (by trivial) (((Sn.getN (v := .slice aO (ws XO).length cO) (X := XO) S136.out List.mem_cons_self).arg' (by omega)).2))
                    go_wp2_with fail
                    clear kO0 kO1 kO2 kfO0 kfO1 kfO2
                    refine (Calls.mono H.out) ?_
                    rintro r u137 ⟨rfl, hb⟩
                    have S138 := Aside.intro (S136.out.below hb)
                    clear hb H S136
                    go_wp2_with fail
                    rw [rounds_succ]
                    have hq2 := ho.2.2.1
                    obtain ⟨kO0, kO1, kO2, kfO0, kfO1, kfO2⟩ := (Sn.getD (g := u133.heap.size) (n := nO) (v := .slice aO (ws XO).length cO) (e := eO) S138.out List.mem_cons_self).facts
                    have H := hid (HT2.out u137 aO cO (S138.out.bel) (by trivial) (((Sn.getN (v := .slice aO (ws XO).length cO) (X := XO) S138.out List.mem_cons_self).arg' (by omega)).2))
                    go_wp2_with fail
                    clear kO0 kO1 kO2 kfO0 kfO1 kfO2
                    refine (Calls.mono H.out) ?_
                    rintro r u139 ⟨rfl, hb⟩
                    have S140 := Aside.intro (S138.out.below hb)
                    clear hb H S138
                    go_wp2_with fail
                    rw [rounds_succ]
                    have hq3 := ho.2.2.2.1
                    obtain ⟨kO0, kO1, kO2, kfO0, kfO1, kfO2⟩ := (Sn.getD (g := u133.heap.size) (n := nO) (v := .slice aO (ws XO).length cO) (e := eO) S140.out List.mem_cons_self).facts
                    have H := hid (HT3.out u139 aO cO (S140.out.bel) (by trivial) (((Sn.getN (v := .slice aO (ws XO).length cO) (X := XO) S140.out List.mem_cons_self).arg' (by omega)).2))
                    go_wp2_with fail
                    clear kO0 kO1 kO2 kfO0 kfO1 kfO2
                    refine (Calls.mono H.out) ?_
                    rintro r u141 ⟨rfl, hb⟩
                    have S142 := Aside.intro (S140.out.below hb)
                    clear hb H S140
                    go_wp2_with fail
                    rw [rounds_succ]
                    have hq4 := ho.2.2.2.2
                    obtain ⟨kO0, kO1, kO2, kfO0, kfO1, kfO2⟩ := (Sn.getD (g := u133.heap.size) (n := nO) (v := .slice aO (ws XO).length cO) (e := eO) S142.out List.mem_cons_self).facts
                    have H := hid (HT4.out u141 aO cO (S142.out.bel) (by trivial) (((Sn.getN (v := .slice aO (ws XO).length cO) (X := XO) S142.out List.mem_cons_self).arg' (by omega)).2))
                    go_wp2_with fail
                    clear kO0 kO1 kO2 kfO0 kfO1 kfO2
                    refine (Calls.mono H.out) ?_
                    rintro r u143 ⟨rfl, hb⟩
                    have S144 := Aside.intro (S142.out.below hb)
                    clear hb H S142
                    go_wp2_with fail
                    rw [rounds_succ]
                    go_wp2_with fail
                    go_ret
                    exact ⟨rfl, S144.out.bel⟩
end Go.Proofs.YtfaaidnhmddibaaDoor
