/- DyadNear: where Make refuses. -/
import Derived.Test.YtfaaidnhmddibaaDoorD13x
import Derived.BigQuiet
import Derived.Deep.Cut
namespace Go.Proofs.YtfaaidnhmddibaaDoor
open Go.RowKit
set_option linter.unusedVariables false
set_option maxRecDepth 20000
set_option linter.unusedSimpArgs false

set_option maxHeartbeats 4000000 in
theorem near_e (nA nB : Bool) (aA aB : Option Addr) (lA cA lB cB : Nat) (eA eB ov : Int) (w : World) (HAW : Hid (∀ u, Below w.heap.size w u → Calls Tryd.prog 7 #[] u fun r w' => r = .returned (.bool true) ∧ Below u.heap.size u w')) (nF nG : Bool) (XF XG : Nat) (eF eG erF erG : Int) (lF : (ws XF).length ≤ 8192) (lG : (ws XG).length ≤ 8192) (herr : (erF != 0) = true)
    (HMF : Hid (∀ u, Below w.heap.size w u → Calls Tryd.prog 11 #[.bool nA, .slice aA lA cA, .int .i64 eA] u fun r w' => (∃ v, r = .returned (.tuple #[.agg #[.bool nF, v, .int .i64 eF], .int .i64 erF]) ∧ Nt u.heap.size w' v XF) ∧ Below u.heap.size u w'))
    (HMG : Hid (∀ u, Below w.heap.size w u → Calls Tryd.prog 11 #[.bool nB, .slice aB lB cB, .int .i64 eB] u fun r w' => (∃ v, r = .returned (.tuple #[.agg #[.bool nG, v, .int .i64 eG], .int .i64 erG]) ∧ Nt u.heap.size w' v XG) ∧ Below u.heap.size u w')) :
    Calls Tryd.prog 6 #[.agg #[.bool nA, .slice aA lA cA, .int .i64 eA], .agg #[.bool nB, .slice aB lB cB, .int .i64 eB], .int .u64 ov] w fun r w' => r = .returned (.bool true) ∧ Below w.heap.size w w' := by
  obtain ⟨W1, hW1⟩ : ∃ W, W = (w.alloc (.cells #[.bool nA, .slice aA lA cA, .int .i64 eA] 27)).alloc (.cells #[.bool nB, .slice aB lB cB, .int .i64 eB] 27) := ⟨_, rfl⟩
  have hB : Below w.heap.size w W1 := by rw [hW1]; exact (below_alloc w _).alloc (by simp) _
  have hz : W1.heap.size = w.heap.size + 2 := by rw [hW1]; simp
  have DA : Dk W1 w.heap.size nA (.slice aA lA cA) eA := by rw [hW1]; exact (Dk.new w nA (.slice aA lA cA) eA).alloc _
  have DB : Dk W1 (w.heap.size + 1) nB (.slice aB lB cB) eB := by rw [hW1]; have := Dk.new (w.alloc (.cells #[.bool nA, .slice aA lA cA, .int .i64 eA] 27)) nB (.slice aB lB cB) eB; simpa using this
  have AW := hid (HAW.out W1 hB)
  have SB := (Aside.intro (And.intro hB (And.intro DA DB)))
  have hq : w.heap.size + 1 < W1.heap.size := by omega
  clear hB hz DA DB
  go_enter Tryd.func6, Tryd.ntmps6
  go_wp2_with fail
  rw [← hW1]
  clear hW1
  refine (Calls.mono AW.out) ?_
  rintro r v0 ⟨rfl, hb⟩
  have hs0 := hb.size
  obtain ⟨k0, k1, k2, kf0, kf1, kf2⟩ := (SB.out.2.1.below hb).facts
  have hb0 := SB.out.1.trans (hb.mono (show w.heap.size ≤ W1.heap.size by omega))
  have H := hid (HMF.out v0 hb0)
  have DB0 := SB.out.2.2.below hb
  have SC := (Aside.intro (And.intro hb0 DB0))
  clear hb AW SB hb0 DB0
  go_wp2_with fail
  clear k0 k1 k2 kf0 kf1 kf2
  refine (Calls.mono H.out) ?_
  rintro r v1 ⟨⟨v, rfl, hN⟩, hb⟩
  obtain ⟨aF, cF, rfl, _⟩ := hN.arg (by omega)
  have hs1 := hb.size
  obtain ⟨UF, hUF⟩ : ∃ U, U = v1.alloc (.cells #[.bool nF, .slice aF (ws XF).length cF, .int .i64 eF] 27) := ⟨_, rfl⟩
  have hA : Below v1.heap.size v1 UF := by rw [hUF]; exact below_alloc _ _
  have BF : Below w.heap.size w UF := (SC.out.1.trans (hb.mono (by omega))).trans (hA.mono (by omega))
  have DB := (SC.out.2.below hb).below hA
  obtain ⟨k0, k1, k2, kf0, kf1, kf2⟩ := DB.facts
  have H2 := hid (HMG.out UF BF)
  have SD := Aside.intro BF
  have hs2 := hA.size
  clear hb hN hA BF DB SC H
  go_upto_region 3 with fail
  rw [← hUF]
  clear hUF
  go_wp2_with fail
  clear k0 k1 k2 kf0 kf1 kf2
  refine (Calls.mono H2.out) ?_
  rintro r v2 ⟨⟨v, rfl, hN⟩, hb⟩
  obtain ⟨aG, cG, rfl, _⟩ := hN.arg (by omega)
  have BG := Aside.intro ((SD.out.trans (hb.mono (by omega))).alloc (by have := hb.size; omega) (.cells #[.bool nG, .slice aG (ws XG).length cG, .int .i64 eG] 27))
  clear hb hN H2 SD
  go_wp2
  go_ret
  exact ⟨rfl, BG.out⟩

set_option maxHeartbeats 4000000 in
theorem near_f (nA nB : Bool) (aA aB : Option Addr) (lA cA lB cB : Nat) (eA eB ov : Int) (w : World) (HAW : Hid (∀ u, Below w.heap.size w u → Calls Tryd.prog 7 #[] u fun r w' => r = .returned (.bool true) ∧ Below u.heap.size u w')) (nF nG : Bool) (XF XG : Nat) (eF eG erF erG : Int) (lF : (ws XF).length ≤ 8192) (lG : (ws XG).length ≤ 8192) (herr : (erG != 0) = true)
    (HMF : Hid (∀ u, Below w.heap.size w u → Calls Tryd.prog 11 #[.bool nA, .slice aA lA cA, .int .i64 eA] u fun r w' => (∃ v, r = .returned (.tuple #[.agg #[.bool nF, v, .int .i64 eF], .int .i64 0]) ∧ Nt u.heap.size w' v XF) ∧ Below u.heap.size u w'))
    (HMG : Hid (∀ u, Below w.heap.size w u → Calls Tryd.prog 11 #[.bool nB, .slice aB lB cB, .int .i64 eB] u fun r w' => (∃ v, r = .returned (.tuple #[.agg #[.bool nG, v, .int .i64 eG], .int .i64 erG]) ∧ Nt u.heap.size w' v XG) ∧ Below u.heap.size u w')) :
    Calls Tryd.prog 6 #[.agg #[.bool nA, .slice aA lA cA, .int .i64 eA], .agg #[.bool nB, .slice aB lB cB, .int .i64 eB], .int .u64 ov] w fun r w' => r = .returned (.bool true) ∧ Below w.heap.size w w' := by
  obtain ⟨W1, hW1⟩ : ∃ W, W = (w.alloc (.cells #[.bool nA, .slice aA lA cA, .int .i64 eA] 27)).alloc (.cells #[.bool nB, .slice aB lB cB, .int .i64 eB] 27) := ⟨_, rfl⟩
  have hB : Below w.heap.size w W1 := by rw [hW1]; exact (below_alloc w _).alloc (by simp) _
  have hz : W1.heap.size = w.heap.size + 2 := by rw [hW1]; simp
  have DA : Dk W1 w.heap.size nA (.slice aA lA cA) eA := by rw [hW1]; exact (Dk.new w nA (.slice aA lA cA) eA).alloc _
  have DB : Dk W1 (w.heap.size + 1) nB (.slice aB lB cB) eB := by rw [hW1]; have := Dk.new (w.alloc (.cells #[.bool nA, .slice aA lA cA, .int .i64 eA] 27)) nB (.slice aB lB cB) eB; simpa using this
  have AW := hid (HAW.out W1 hB)
  have SB := (Aside.intro (And.intro hB (And.intro DA DB)))
  have hq : w.heap.size + 1 < W1.heap.size := by omega
  clear hB hz DA DB
  go_enter Tryd.func6, Tryd.ntmps6
  go_wp2_with fail
  rw [← hW1]
  clear hW1
  refine (Calls.mono AW.out) ?_
  rintro r v0 ⟨rfl, hb⟩
  have hs0 := hb.size
  obtain ⟨k0, k1, k2, kf0, kf1, kf2⟩ := (SB.out.2.1.below hb).facts
  have hb0 := SB.out.1.trans (hb.mono (show w.heap.size ≤ W1.heap.size by omega))
  have H := hid (HMF.out v0 hb0)
  have DB0 := SB.out.2.2.below hb
  have SC := (Aside.intro (And.intro hb0 DB0))
  clear hb AW SB hb0 DB0
  go_wp2_with fail
  clear k0 k1 k2 kf0 kf1 kf2
  refine (Calls.mono H.out) ?_
  rintro r v1 ⟨⟨v, rfl, hN⟩, hb⟩
  obtain ⟨aF, cF, rfl, _⟩ := hN.arg (by omega)
  have hs1 := hb.size
  obtain ⟨UF, hUF⟩ : ∃ U, U = v1.alloc (.cells #[.bool nF, .slice aF (ws XF).length cF, .int .i64 eF] 27) := ⟨_, rfl⟩
  have hA : Below v1.heap.size v1 UF := by rw [hUF]; exact below_alloc _ _
  have BF : Below w.heap.size w UF := (SC.out.1.trans (hb.mono (by omega))).trans (hA.mono (by omega))
  have DB := (SC.out.2.below hb).below hA
  obtain ⟨k0, k1, k2, kf0, kf1, kf2⟩ := DB.facts
  have H2 := hid (HMG.out UF BF)
  have SD := Aside.intro BF
  have hs2 := hA.size
  clear hb hN hA BF DB SC H
  go_upto_region 3 with fail
  rw [← hUF]
  clear hUF
  go_wp2_with fail
  clear k0 k1 k2 kf0 kf1 kf2
  refine (Calls.mono H2.out) ?_
  rintro r v2 ⟨⟨v, rfl, hN⟩, hb⟩
  obtain ⟨aG, cG, rfl, _⟩ := hN.arg (by omega)
  have BG := Aside.intro ((SD.out.trans (hb.mono (by omega))).alloc (by have := hb.size; omega) (.cells #[.bool nG, .slice aG (ws XG).length cG, .int .i64 eG] 27))
  clear hb hN H2 SD
  go_wp2
  go_ret
  exact ⟨rfl, BG.out⟩

end Go.Proofs.YtfaaidnhmddibaaDoor
