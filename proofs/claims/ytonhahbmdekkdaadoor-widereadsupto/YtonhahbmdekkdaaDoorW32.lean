/- awake: the chapter's examples answer as they should. -/
import Derived.Test.YtonhahbmdekkdaaDoorW31
namespace Go.Proofs.YtonhahbmdekkdaaDoor
open Go.RowKit
set_option linter.unusedVariables false
set_option maxRecDepth 20000

theorem Nt.lit {lo : Nat} {w : World} {a : Option Addr} {k c X : Nat} {L : List Nat} (h : Nt lo w (.slice a k c) X) (hL : ws X = L) : k = L.length ∧ k ≤ c ∧ c ≤ maxLen ∧ Rd w.heap.size w a L := by
  obtain ⟨a', c', e, h1, h2, h3⟩ := h.shape
  cases e
  rw [hL] at h3
  exact ⟨by rw [hL], h1, h2, h3⟩
theorem Nt.litcell {lo : Nat} {w : World} {a : Option Addr} {k c X x : Nat} (h : Nt lo w (.slice a k c) X) (hL : ws X = [x]) : ∃ b off, a = some ⟨b, off, none⟩ ∧ w.cell? ⟨b, off, none⟩ = some (.int .u32 (x : Int)) := by
  obtain ⟨_, _, _, hR⟩ := h.lit hL
  obtain ⟨b, off, _, rfl, hc⟩ := hR (by simp)
  refine ⟨b, off, rfl, ?_⟩
  have := hc 0 (by simp)
  simpa using this
theorem awS_eq : (awS.toList == [49, 56, 52, 52, 54, 55, 52, 52, 48, 55, 51, 55, 48, 57, 53, 53, 49, 54, 49, 54]) = true := by rw [ba_toList]; decide
theorem awQ_eq : (awQ.toList == [49, 52, 50, 56, 53, 55, 49, 52, 50, 56, 53, 55, 49, 52, 50, 56, 53, 55, 49, 52]) = true := by rw [ba_toList]; decide
theorem awwA : ws 4294967296 = [0, 1] := ws_lit [0, 1] _ (by decide) (by intro x hx; simp at hx; omega) (by decide)
theorem awwB : ws 18446744073709551615 = [4294967295, 4294967295] := ws_lit [4294967295, 4294967295] _ (by decide) (by intro x hx; simp at hx; omega) (by decide)
theorem awwC : ws 73786976277658337281 = [1, 4294967292, 3] := ws_lit [1, 4294967292, 3] _ (by decide) (by intro x hx; simp at hx; omega) (by decide)
theorem awwQ : ws 14285714285714285714 = [850994322, 3326152052] := ws_lit [850994322, 3326152052] _ (by decide) (by intro x hx; simp at hx; omega) (by decide)
theorem awwR : ws 2 = [2] := ws_lit [2] _ (by decide) (by intro x hx; simp at hx; omega) (by decide)
theorem awwS : ws 42949672960 = [0, 10] := ws_lit [0, 10] _ (by decide) (by intro x hx; simp at hx; omega) (by decide)
theorem awwT : ws 9 = [9] := ws_lit [9] _ (by decide) (by intro x hx; simp at hx; omega) (by decide)
theorem awwL : ws 18 = [18] := ws_lit [18] _ (by decide) (by intro x hx; simp at hx; omega) (by decide)
theorem awwN : ws 18446744073709551616 = [0, 0, 1] := ws_lit [0, 0, 1] _ (by decide) (by intro x hx; simp at hx; omega) (by decide)
theorem awwM : ws 5 = [5] := ws_lit [5] _ (by decide) (by intro x hx; simp at hx; omega) (by decide)
theorem awwO : ws 4294967303 = [7, 1] := ws_lit [7, 1] _ (by decide) (by intro x hx; simp at hx; omega) (by decide)
theorem aw_same (lo : Nat) (w : World) (a : Option Addr) (k c X : Nat) (L : List Nat) (h : Nt lo w (.slice a k c) X) (hL : ws X = L) (hk : L.length ≤ 100) :
    Calls Tryd.prog 15 #[.slice a k c, .slice (some ⟨w.heap.size, 0, none⟩) k k] (w.alloc (.cells (L.map U).toArray 63)) fun r w' => r = .returned (.bool true) ∧ Below w.heap.size w w' := by
  obtain ⟨hk', h1, h2, hR⟩ := h.lit hL
  have hb : Below w.heap.size w (w.alloc (.cells (L.map U).toArray 63)) := (Below.refl _ _).alloc (Nat.le_refl _) _
  refine (same_any L a (some ⟨w.heap.size, 0, none⟩) k c k (w.heap.size + 1) _ hk' (by omega) ((hR.below hb).mono (by omega)) (lit_rd w L)).mono ?_
  rintro r w' ⟨rfl, hb2⟩
  exact ⟨rfl, hb.trans (hb2.mono (by rw [alloc_size]; omega))⟩

set_option maxHeartbeats 8000000 in
set_option maxRecDepth 100000 in
theorem awake_any (w : World) (hT : Tab w) : Calls Tryd.prog 9 #[] w fun r w' => r = .returned (.bool true) ∧ Below w.heap.size w w' := by
  have hbel := Below.refl w.heap.size w
  have S0 := (Aside.intro (And.intro hT hbel))
  have hSeq := awS_eq
  have hQeq := awQ_eq
  have hS := hid awS_eq
  clear hT hbel
  go_enter Tryd.func9, Tryd.ntmps9
  go_wp2_with fail
  refine (Calls.mono (aw_add _)) ?_
  rintro r W1 ⟨aA, cA, rfl, hN1, hb⟩
  obtain ⟨hT, hbel⟩ := S0.out
  have hTn := hT.belows hb
  have hbn := hbel.trans (hb.mono hbel.size)
  have PA := Nt.mono hN1 hbel.size
  have S1 := (Aside.intro (And.intro hTn (And.intro hbn PA)))
  clear hb hT hbel  hTn hbn PA hN1 S0
  go_wp2_with fail
  refine (Calls.mono (aw_sub _)) ?_
  rintro r W2 ⟨aB, cB, rfl, hN1, hb⟩
  obtain ⟨hT, hbel, NA⟩ := S1.out
  have hTn := hT.belows hb
  have hbn := hbel.trans (hb.mono hbel.size)
  have PA := NA.below hb
  have PB := Nt.mono hN1 hbel.size
  have S2 := (Aside.intro (And.intro hTn (And.intro hbn (And.intro PA PB))))
  clear hb hT hbel NA hTn hbn PA PB hN1 S1
  go_wp2_with fail
  refine (Calls.mono (aw_mul _)) ?_
  rintro r W3 ⟨aC, cC, rfl, hN1, hb⟩
  obtain ⟨hT, hbel, NA, NB⟩ := S2.out
  have hTn := hT.belows hb
  have hbn := hbel.trans (hb.mono hbel.size)
  have PA := NA.below hb
  have PB := NB.below hb
  have PC := Nt.mono hN1 hbel.size
  have S3 := (Aside.intro (And.intro hTn (And.intro hbn (And.intro PA (And.intro PB PC)))))
  clear hb hT hbel NA NB hTn hbn PA PB PC hN1 S2
  go_wp2_with fail
  refine (Calls.mono (aw_div _)) ?_
  rintro r W4 ⟨aQ, cQ, aR, cR, rfl, hN1, hN2, hb⟩
  obtain ⟨hT, hbel, NA, NB, NC⟩ := S3.out
  have hTn := hT.belows hb
  have hbn := hbel.trans (hb.mono hbel.size)
  have PA := NA.below hb
  have PB := NB.below hb
  have PC := NC.below hb
  have PQ := Nt.mono hN1 hbel.size
  have PR := Nt.mono hN2 hbel.size
  have S4 := (Aside.intro (And.intro hTn (And.intro hbn (And.intro PA (And.intro PB (And.intro PC (And.intro PQ PR)))))))
  clear hb hT hbel NA NB NC hTn hbn PA PB PC PQ PR hN1 hN2 S3
  go_wp2_with fail
  refine (Calls.mono (aw_shift _)) ?_
  rintro r W5 ⟨aS, cS, rfl, hN1, hb⟩
  obtain ⟨hT, hbel, NA, NB, NC, NQ, NR⟩ := S4.out
  have hTn := hT.belows hb
  have hbn := hbel.trans (hb.mono hbel.size)
  have PA := NA.below hb
  have PB := NB.below hb
  have PC := NC.below hb
  have PQ := NQ.below hb
  have PR := NR.below hb
  have PS := Nt.mono hN1 hbel.size
  have S5 := (Aside.intro (And.intro hTn (And.intro hbn (And.intro PA (And.intro PB (And.intro PC (And.intro PQ (And.intro PR PS))))))))
  clear hb hT hbel NA NB NC NQ NR hTn hbn PA PB PC PQ PR PS hN1 S4
  go_wp2_with fail
  refine (Calls.mono (aw_root _)) ?_
  rintro r W6 ⟨aT, cT, aL, cL, rfl, hN1, hN2, hb⟩
  obtain ⟨hT, hbel, NA, NB, NC, NQ, NR, NS⟩ := S5.out
  have hTn := hT.belows hb
  have hbn := hbel.trans (hb.mono hbel.size)
  have PA := NA.below hb
  have PB := NB.below hb
  have PC := NC.below hb
  have PQ := NQ.below hb
  have PR := NR.below hb
  have PS := NS.below hb
  have PT := Nt.mono hN1 hbel.size
  have PL := Nt.mono hN2 hbel.size
  have S6 := (Aside.intro (And.intro hTn (And.intro hbn (And.intro PA (And.intro PB (And.intro PC (And.intro PQ (And.intro PR (And.intro PS (And.intro PT PL))))))))))
  clear hb hT hbel NA NB NC NQ NR NS hTn hbn PA PB PC PQ PR PS PT PL hN1 hN2 S5
  go_wp2_with fail
  refine (Calls.mono (aw_parse _)) ?_
  rintro r W7 ⟨aN, cN, rfl, hN1, hb⟩
  obtain ⟨hT, hbel, NA, NB, NC, NQ, NR, NS, NT, NL⟩ := S6.out
  have hTn := hT.belows hb
  have hbn := hbel.trans (hb.mono hbel.size)
  have PA := NA.below hb
  have PB := NB.below hb
  have PC := NC.below hb
  have PQ := NQ.below hb
  have PR := NR.below hb
  have PS := NS.below hb
  have PT := NT.below hb
  have PL := NL.below hb
  have PN := Nt.mono hN1 hbel.size
  have S7 := (Aside.intro (And.intro hTn (And.intro hbn (And.intro PA (And.intro PB (And.intro PC (And.intro PQ (And.intro PR (And.intro PS (And.intro PT (And.intro PL PN)))))))))))
  clear hb hT hbel NA NB NC NQ NR NS NT NL hTn hbn PA PB PC PQ PR PS PT PL PN hN1 S6
  have HN := S7.out
  have HX : Hid (Calls Tryd.prog 11 #[.slice aN 3 cN] W7 fun r w' => r = .returned (.string awS) ∧ Below W7.heap.size W7 w') := by
    obtain ⟨hT, hbel, NA, NB, NC, NQ, NR, NS, NT, NL, NN⟩ := HN
    obtain ⟨_, h1, h2, hR⟩ := NN.lit awwN
    have C := text_any [0, 0, 1] aN 3 cN W7.heap.size W7 rfl h1 (by omega) (by intro x hx; simp at hx; omega) hR (Nat.le_refl _) (by rw [show val [0, 0, 1] = 18446744073709551616 by decide, awwN]; decide)
    rw [show val [0, 0, 1] = 18446744073709551616 by decide, awS_tx] at C
    exact C
  clear HN
  go_wp2_with fail
  refine (Calls.mono HX.out) ?_
  rintro r W8 ⟨rfl, hb⟩
  obtain ⟨hT, hbel, NA, NB, NC, NQ, NR, NS, NT, NL, NN⟩ := S7.out
  have hTn := hT.belows hb
  have hbn := hbel.trans (hb.mono hbel.size)
  have PA := NA.below hb
  have PB := NB.below hb
  have PC := NC.below hb
  have PQ := NQ.below hb
  have PR := NR.below hb
  have PS := NS.below hb
  have PT := NT.below hb
  have PL := NL.below hb
  have PN := NN.below hb
  have S8 := (Aside.intro (And.intro hTn (And.intro hbn (And.intro PA (And.intro PB (And.intro PC (And.intro PQ (And.intro PR (And.intro PS (And.intro PT (And.intro PL PN)))))))))))
  clear hb hT hbel NA NB NC NQ NR NS NT NL NN hTn hbn PA PB PC PQ PR PS PT PL PN  S7
  clear HX
  go_wp2_with fail
  refine (Calls.mono (aw_small _)) ?_
  rintro r W9 ⟨rfl, hb⟩
  obtain ⟨hT, hbel, NA, NB, NC, NQ, NR, NS, NT, NL, NN⟩ := S8.out
  have hTn := hT.belows hb
  have hbn := hbel.trans (hb.mono hbel.size)
  have PA := NA.below hb
  have PB := NB.below hb
  have PC := NC.below hb
  have PQ := NQ.below hb
  have PR := NR.below hb
  have PS := NS.below hb
  have PT := NT.below hb
  have PL := NL.below hb
  have PN := NN.below hb
  have S9 := (Aside.intro (And.intro hTn (And.intro hbn (And.intro PA (And.intro PB (And.intro PC (And.intro PQ (And.intro PR (And.intro PS (And.intro PT (And.intro PL PN)))))))))))
  clear hb hT hbel NA NB NC NQ NR NS NT NL NN hTn hbn PA PB PC PQ PR PS PT PL PN  S8
  go_wp2_with fail
  refine (Calls.mono (aw_less _)) ?_
  rintro r W10 ⟨aZ, cZ, rfl, hZ, hb⟩
  obtain ⟨hT, hbel, NA, NB, NC, NQ, NR, NS, NT, NL, NN⟩ := S9.out
  have hTn := hT.belows hb
  have hbn := hbel.trans (hb.mono hbel.size)
  have PA := NA.below hb
  have PB := NB.below hb
  have PC := NC.below hb
  have PQ := NQ.below hb
  have PR := NR.below hb
  have PS := NS.below hb
  have PT := NT.below hb
  have PL := NL.below hb
  have PN := NN.below hb
  have S10 := (Aside.intro (And.intro hTn (And.intro hbn (And.intro PA (And.intro PB (And.intro PC (And.intro PQ (And.intro PR (And.intro PS (And.intro PT (And.intro PL PN)))))))))))
  clear hb hT hbel NA NB NC NQ NR NS NT NL NN hTn hbn PA PB PC PQ PR PS PT PL PN  S9
  clear hZ
  go_wp2_with fail
  refine (Calls.mono (aw_nought _)) ?_
  rintro r W11 ⟨vZ, uZ, rfl, hb⟩
  obtain ⟨hT, hbel, NA, NB, NC, NQ, NR, NS, NT, NL, NN⟩ := S10.out
  have hTn := hT.belows hb
  have hbn := hbel.trans (hb.mono hbel.size)
  have PA := NA.below hb
  have PB := NB.below hb
  have PC := NC.below hb
  have PQ := NQ.below hb
  have PR := NR.below hb
  have PS := NS.below hb
  have PT := NT.below hb
  have PL := NL.below hb
  have PN := NN.below hb
  have S11 := (Aside.intro (And.intro hTn (And.intro hbn (And.intro PA (And.intro PB (And.intro PC (And.intro PQ (And.intro PR (And.intro PS (And.intro PT (And.intro PL PN)))))))))))
  clear hb hT hbel NA NB NC NQ NR NS NT NL NN hTn hbn PA PB PC PQ PR PS PT PL PN  S10
  have HX := S11.out
  obtain ⟨hT, hbel, NA, NB, NC, NQ, NR, NS, NT, NL, NN⟩ := HX
  have HS := hid (aw_same _ _ _ _ _ _ [0, 1] NA awwA (by decide))
  clear hT hbel NA NB NC NQ NR NS NT NL NN
  go_wp2_with fail
  refine (Calls.mono HS.out) ?_
  rintro r W12 ⟨rfl, hb⟩
  obtain ⟨hT, hbel, NA, NB, NC, NQ, NR, NS, NT, NL, NN⟩ := S11.out
  have hTn := hT.belows hb
  have hbn := hbel.trans (hb.mono hbel.size)
  have PA := NA.below hb
  have PB := NB.below hb
  have PC := NC.below hb
  have PQ := NQ.below hb
  have PR := NR.below hb
  have PS := NS.below hb
  have PT := NT.below hb
  have PL := NL.below hb
  have PN := NN.below hb
  have S12 := (Aside.intro (And.intro hTn (And.intro hbn (And.intro PA (And.intro PB (And.intro PC (And.intro PQ (And.intro PR (And.intro PS (And.intro PT (And.intro PL PN)))))))))))
  clear hb hT hbel NA NB NC NQ NR NS NT NL NN hTn hbn PA PB PC PQ PR PS PT PL PN  S11
  clear HS
  have HX := S12.out
  obtain ⟨hT, hbel, NA, NB, NC, NQ, NR, NS, NT, NL, NN⟩ := HX
  have HS := hid (aw_same _ _ _ _ _ _ [4294967295, 4294967295] NB awwB (by decide))
  clear hT hbel NA NB NC NQ NR NS NT NL NN
  go_wp2_with fail
  refine (Calls.mono HS.out) ?_
  rintro r W13 ⟨rfl, hb⟩
  obtain ⟨hT, hbel, NA, NB, NC, NQ, NR, NS, NT, NL, NN⟩ := S12.out
  have hTn := hT.belows hb
  have hbn := hbel.trans (hb.mono hbel.size)
  have PA := NA.below hb
  have PB := NB.below hb
  have PC := NC.below hb
  have PQ := NQ.below hb
  have PR := NR.below hb
  have PS := NS.below hb
  have PT := NT.below hb
  have PL := NL.below hb
  have PN := NN.below hb
  have S13 := (Aside.intro (And.intro hTn (And.intro hbn (And.intro PA (And.intro PB (And.intro PC (And.intro PQ (And.intro PR (And.intro PS (And.intro PT (And.intro PL PN)))))))))))
  clear hb hT hbel NA NB NC NQ NR NS NT NL NN hTn hbn PA PB PC PQ PR PS PT PL PN  S12
  clear HS
  have HX := S13.out
  obtain ⟨hT, hbel, NA, NB, NC, NQ, NR, NS, NT, NL, NN⟩ := HX
  have HS := hid (aw_same _ _ _ _ _ _ [1, 4294967292, 3] NC awwC (by decide))
  clear hT hbel NA NB NC NQ NR NS NT NL NN
  go_wp2_with fail
  refine (Calls.mono HS.out) ?_
  rintro r W14 ⟨rfl, hb⟩
  obtain ⟨hT, hbel, NA, NB, NC, NQ, NR, NS, NT, NL, NN⟩ := S13.out
  have hTn := hT.belows hb
  have hbn := hbel.trans (hb.mono hbel.size)
  have PA := NA.below hb
  have PB := NB.below hb
  have PC := NC.below hb
  have PQ := NQ.below hb
  have PR := NR.below hb
  have PS := NS.below hb
  have PT := NT.below hb
  have PL := NL.below hb
  have PN := NN.below hb
  have S14 := (Aside.intro (And.intro hTn (And.intro hbn (And.intro PA (And.intro PB (And.intro PC (And.intro PQ (And.intro PR (And.intro PS (And.intro PT (And.intro PL PN)))))))))))
  clear hb hT hbel NA NB NC NQ NR NS NT NL NN hTn hbn PA PB PC PQ PR PS PT PL PN  S13
  clear HS
  go_wp2_with fail
  refine (Calls.mono (aw_norm _)) ?_
  rintro r W15 ⟨aM, cM, rfl, hN1, hb⟩
  obtain ⟨hT, hbel, NA, NB, NC, NQ, NR, NS, NT, NL, NN⟩ := S14.out
  have hTn := hT.belows hb
  have hbn := hbel.trans (hb.mono hbel.size)
  have PA := NA.below hb
  have PB := NB.below hb
  have PC := NC.below hb
  have PQ := NQ.below hb
  have PR := NR.below hb
  have PS := NS.below hb
  have PT := NT.below hb
  have PL := NL.below hb
  have PN := NN.below hb
  have PM := Nt.mono hN1 hbel.size
  have S15 := (Aside.intro (And.intro hTn (And.intro hbn (And.intro PA (And.intro PB (And.intro PC (And.intro PQ (And.intro PR (And.intro PS (And.intro PT (And.intro PL (And.intro PN PM))))))))))))
  clear hb hT hbel NA NB NC NQ NR NS NT NL NN hTn hbn PA PB PC PQ PR PS PT PL PN PM hN1 S14
  have HX := S15.out
  obtain ⟨hT, hbel, NA, NB, NC, NQ, NR, NS, NT, NL, NN, NM⟩ := HX
  have HS := hid (aw_same _ _ _ _ _ _ [5] NM awwM (by decide))
  clear hT hbel NA NB NC NQ NR NS NT NL NN NM
  go_wp2_with fail
  refine (Calls.mono HS.out) ?_
  rintro r W16 ⟨rfl, hb⟩
  obtain ⟨hT, hbel, NA, NB, NC, NQ, NR, NS, NT, NL, NN, NM⟩ := S15.out
  have hTn := hT.belows hb
  have hbn := hbel.trans (hb.mono hbel.size)
  have PA := NA.below hb
  have PB := NB.below hb
  have PC := NC.below hb
  have PQ := NQ.below hb
  have PR := NR.below hb
  have PS := NS.below hb
  have PT := NT.below hb
  have PL := NL.below hb
  have PN := NN.below hb
  have PM := NM.below hb
  have S16 := (Aside.intro (And.intro hTn (And.intro hbn (And.intro PA (And.intro PB (And.intro PC (And.intro PQ (And.intro PR (And.intro PS (And.intro PT (And.intro PL (And.intro PN PM))))))))))))
  clear hb hT hbel NA NB NC NQ NR NS NT NL NN NM hTn hbn PA PB PC PQ PR PS PT PL PN PM  S15
  clear HS
  have HX := S16.out
  obtain ⟨hT, hbel, NA, NB, NC, NQ, NR, NS, NT, NL, NN, NM⟩ := HX
  have HS := hid (aw_same _ _ _ _ _ _ [0, 10] NS awwS (by decide))
  clear hT hbel NA NB NC NQ NR NS NT NL NN NM
  go_wp2_with fail
  refine (Calls.mono HS.out) ?_
  rintro r W17 ⟨rfl, hb⟩
  obtain ⟨hT, hbel, NA, NB, NC, NQ, NR, NS, NT, NL, NN, NM⟩ := S16.out
  have hTn := hT.belows hb
  have hbn := hbel.trans (hb.mono hbel.size)
  have PA := NA.below hb
  have PB := NB.below hb
  have PC := NC.below hb
  have PQ := NQ.below hb
  have PR := NR.below hb
  have PS := NS.below hb
  have PT := NT.below hb
  have PL := NL.below hb
  have PN := NN.below hb
  have PM := NM.below hb
  have S17 := (Aside.intro (And.intro hTn (And.intro hbn (And.intro PA (And.intro PB (And.intro PC (And.intro PQ (And.intro PR (And.intro PS (And.intro PT (And.intro PL (And.intro PN PM))))))))))))
  clear hb hT hbel NA NB NC NQ NR NS NT NL NN NM hTn hbn PA PB PC PQ PR PS PT PL PN PM  S16
  clear HS
  have HQ := S17.out
  have HX : Hid (Calls Tryd.prog 11 #[.slice aQ 2 cQ] W17 fun r w' => r = .returned (.string awQ) ∧ Below W17.heap.size W17 w') := by
    obtain ⟨hT, hbel, NA, NB, NC, NQ, NR, NS, NT, NL, NN, NM⟩ := HQ
    obtain ⟨_, h1, h2, hR⟩ := NQ.lit awwQ
    have C := text_any [850994322, 3326152052] aQ 2 cQ W17.heap.size W17 rfl h1 (by omega) (by intro x hx; simp at hx; omega) hR (Nat.le_refl _) (by rw [show val [850994322, 3326152052] = 14285714285714285714 by decide, awwQ]; decide)
    rw [show val [850994322, 3326152052] = 14285714285714285714 by decide, awQ_tx] at C
    exact C
  clear HQ
  go_wp2_with fail
  refine (Calls.mono HX.out) ?_
  rintro r W18 ⟨rfl, hb⟩
  obtain ⟨hT, hbel, NA, NB, NC, NQ, NR, NS, NT, NL, NN, NM⟩ := S17.out
  have hTn := hT.belows hb
  have hbn := hbel.trans (hb.mono hbel.size)
  have PA := NA.below hb
  have PB := NB.below hb
  have PC := NC.below hb
  have PQ := NQ.below hb
  have PR := NR.below hb
  have PS := NS.below hb
  have PT := NT.below hb
  have PL := NL.below hb
  have PN := NN.below hb
  have PM := NM.below hb
  have S18 := (Aside.intro (And.intro hTn (And.intro hbn (And.intro PA (And.intro PB (And.intro PC (And.intro PQ (And.intro PR (And.intro PS (And.intro PT (And.intro PL (And.intro PN PM))))))))))))
  clear hb hT hbel NA NB NC NQ NR NS NT NL NN NM hTn hbn PA PB PC PQ PR PS PT PL PN PM  S17
  clear HX
  go_wp2_with fail
  refine (Calls.mono (aw_of _)) ?_
  rintro r W19 ⟨aO, cO, rfl, hN1, hb⟩
  obtain ⟨hT, hbel, NA, NB, NC, NQ, NR, NS, NT, NL, NN, NM⟩ := S18.out
  have hTn := hT.belows hb
  have hbn := hbel.trans (hb.mono hbel.size)
  have PA := NA.below hb
  have PB := NB.below hb
  have PC := NC.below hb
  have PQ := NQ.below hb
  have PR := NR.below hb
  have PS := NS.below hb
  have PT := NT.below hb
  have PL := NL.below hb
  have PN := NN.below hb
  have PM := NM.below hb
  have PO := Nt.mono hN1 hbel.size
  have S19 := (Aside.intro (And.intro hTn (And.intro hbn (And.intro PA (And.intro PB (And.intro PC (And.intro PQ (And.intro PR (And.intro PS (And.intro PT (And.intro PL (And.intro PN (And.intro PM PO)))))))))))))
  clear hb hT hbel NA NB NC NQ NR NS NT NL NN NM hTn hbn PA PB PC PQ PR PS PT PL PN PM PO hN1 S18
  have HX := S19.out
  obtain ⟨hT, hbel, NA, NB, NC, NQ, NR, NS, NT, NL, NN, NM, NO⟩ := HX
  have HS := hid (aw_same _ _ _ _ _ _ [7, 1] NO awwO (by decide))
  clear hT hbel NA NB NC NQ NR NS NT NL NN NM NO
  go_wp2_with fail
  refine (Calls.mono HS.out) ?_
  rintro r W20 ⟨rfl, hb⟩
  obtain ⟨hT, hbel, NA, NB, NC, NQ, NR, NS, NT, NL, NN, NM, NO⟩ := S19.out
  have hTn := hT.belows hb
  have hbn := hbel.trans (hb.mono hbel.size)
  have PA := NA.below hb
  have PB := NB.below hb
  have PC := NC.below hb
  have PQ := NQ.below hb
  have PR := NR.below hb
  have PS := NS.below hb
  have PT := NT.below hb
  have PL := NL.below hb
  have PN := NN.below hb
  have PM := NM.below hb
  have PO := NO.below hb
  have S20 := (Aside.intro (And.intro hTn (And.intro hbn (And.intro PA (And.intro PB (And.intro PC (And.intro PQ (And.intro PR (And.intro PS (And.intro PT (And.intro PL (And.intro PN (And.intro PM PO)))))))))))))
  clear hb hT hbel NA NB NC NQ NR NS NT NL NN NM NO hTn hbn PA PB PC PQ PR PS PT PL PN PM PO  S19
  clear HS
  have HX := S20.out
  obtain ⟨hT, hbel, NA, NB, NC, NQ, NR, NS, NT, NL, NN, NM, NO⟩ := HX
  obtain ⟨bR, oR, rfl, cR1⟩ := NR.litcell awwR
  obtain ⟨bT, oT, rfl, cT1⟩ := NT.litcell awwT
  obtain ⟨bL, oL, rfl, cL1⟩ := NL.litcell awwL
  clear hT hbel NA NB NC NQ NR NS NT NL NN NM NO
  have HX : Hid (Calls Tryd.prog 54 #[.slice aQ 2 cQ, .slice aN 3 cN] W20 fun r w' => r = .returned (.int .i64 (-1)) ∧ Below W20.heap.size W20 w') := by
    obtain ⟨hT, hbel, NA, NB, NC, NQ, NR, NS, NT, NL, NN, NM, NO⟩ := S20.out
    obtain ⟨_, h1, h2, hR⟩ := NQ.lit awwQ
    obtain ⟨_, k1, k2, kR⟩ := NN.lit awwN
    have C := cmp_any [850994322, 3326152052] [0, 0, 1] aQ aN 2 cQ 3 cN W20.heap.size W20 rfl rfl h1 k1 (by omega) (by omega) (by intro x hx; simp at hx; omega) (by intro x hx; simp at hx; omega) hR kR
    rw [show cmpI (val [850994322, 3326152052]) (val [0, 0, 1]) = -1 by decide] at C
    exact C
  go_wp2_with fail
  refine (Calls.mono HX.out) ?_
  rintro r W21 ⟨rfl, hb⟩
  obtain ⟨hT, hbel, NA, NB, NC, NQ, NR, NS, NT, NL, NN, NM, NO⟩ := S20.out
  have hTn := hT.belows hb
  have hbn := hbel.trans (hb.mono hbel.size)
  have PA := NA.below hb
  have PB := NB.below hb
  have PC := NC.below hb
  have PQ := NQ.below hb
  have PR := NR.below hb
  have PS := NS.below hb
  have PT := NT.below hb
  have PL := NL.below hb
  have PN := NN.below hb
  have PM := NM.below hb
  have PO := NO.below hb
  have S21 := (Aside.intro (And.intro hTn (And.intro hbn (And.intro PA (And.intro PB (And.intro PC (And.intro PQ (And.intro PR (And.intro PS (And.intro PT (And.intro PL (And.intro PN (And.intro PM PO)))))))))))))
  clear hb hT hbel NA NB NC NQ NR NS NT NL NN NM NO hTn hbn PA PB PC PQ PR PS PT PL PN PM PO  S20
  clear HX
  have HX : Hid (Calls Tryd.prog 55 #[.slice aN 3 cN] W21 fun r w' => r = .returned (.int .i64 65) ∧ Below W21.heap.size W21 w') := by
    obtain ⟨hT, hbel, NA, NB, NC, NQ, NR, NS, NT, NL, NN, NM, NO⟩ := S21.out
    obtain ⟨_, k1, k2, kR⟩ := NN.lit awwN
    have C := len_any [0, 0, 1] aN 3 cN W21.heap.size W21 rfl k1 (by omega) (by intro x hx; simp at hx; omega) kR
    rw [show bl (val [0, 0, 1]) = 65 by decide] at C
    exact C.mono (fun r w' ⟨h, e⟩ => ⟨h, by rw [e]; exact Below.refl _ _⟩)
  go_wp2_with fail
  refine (Calls.mono HX.out) ?_
  rintro r W22 ⟨rfl, hb⟩
  obtain ⟨hT, hbel, NA, NB, NC, NQ, NR, NS, NT, NL, NN, NM, NO⟩ := S21.out
  have hTn := hT.belows hb
  have hbn := hbel.trans (hb.mono hbel.size)
  have PA := NA.below hb
  have PB := NB.below hb
  have PC := NC.below hb
  have PQ := NQ.below hb
  have PR := NR.below hb
  have PS := NS.below hb
  have PT := NT.below hb
  have PL := NL.below hb
  have PN := NN.below hb
  have PM := NM.below hb
  have PO := NO.below hb
  have S22 := (Aside.intro (And.intro hTn (And.intro hbn (And.intro PA (And.intro PB (And.intro PC (And.intro PQ (And.intro PR (And.intro PS (And.intro PT (And.intro PL (And.intro PN (And.intro PM PO)))))))))))))
  clear hb hT hbel NA NB NC NQ NR NS NT NL NN NM NO hTn hbn PA PB PC PQ PR PS PT PL PN PM PO  S21
  clear HX
  have HX : Hid (Calls Tryd.prog 56 #[.slice aN 3 cN] W22 fun r w' => r = .returned (.int .i64 64) ∧ Below W22.heap.size W22 w') := by
    obtain ⟨hT, hbel, NA, NB, NC, NQ, NR, NS, NT, NL, NN, NM, NO⟩ := S22.out
    obtain ⟨_, k1, k2, kR⟩ := NN.lit awwN
    have C := low_any [0, 0, 1] aN 3 cN W22.heap.size W22 rfl (by omega) (by intro x hx; simp at hx; omega) kR hT
    rw [show val [0, 0, 1] = 2 ^ 64 * (2 * 0 + 1) by decide, lo_eq] at C
    exact C.mono (fun r w' ⟨h, e⟩ => ⟨h, by rw [e]; exact Below.refl _ _⟩)
  go_wp2_with fail
  refine (Calls.mono HX.out) ?_
  rintro r W23 ⟨rfl, hb⟩
  obtain ⟨hT, hbel, NA, NB, NC, NQ, NR, NS, NT, NL, NN, NM, NO⟩ := S22.out
  have hTn := hT.belows hb
  have hbn := hbel.trans (hb.mono hbel.size)
  have PA := NA.below hb
  have PB := NB.below hb
  have PC := NC.below hb
  have PQ := NQ.below hb
  have PR := NR.below hb
  have PS := NS.below hb
  have PT := NT.below hb
  have PL := NL.below hb
  have PN := NN.below hb
  have PM := NM.below hb
  have PO := NO.below hb
  have S23 := (Aside.intro (And.intro hTn (And.intro hbn (And.intro PA (And.intro PB (And.intro PC (And.intro PQ (And.intro PR (And.intro PS (And.intro PT (And.intro PL (And.intro PN (And.intro PM PO)))))))))))))
  clear hb hT hbel NA NB NC NQ NR NS NT NL NN NM NO hTn hbn PA PB PC PQ PR PS PT PL PN PM PO  S22
  clear HX
  have HX : Hid (Calls Tryd.prog 57 #[.slice aN 3 cN, .int .i64 64] W23 fun r w' => r = .returned (.bool true) ∧ Below W23.heap.size W23 w') := by
    obtain ⟨hT, hbel, NA, NB, NC, NQ, NR, NS, NT, NL, NN, NM, NO⟩ := S23.out
    obtain ⟨_, k1, k2, kR⟩ := NN.lit awwN
    have C := bit_any [0, 0, 1] aN 3 cN W23.heap.size 64 W23 rfl (by intro x hx; simp at hx; omega) kR (by omega)
    rw [show decide (val [0, 0, 1] / 2 ^ 64 % 2 = 1) = true by decide] at C
    exact C.mono (fun r w' ⟨h, e⟩ => ⟨h, by rw [e]; exact Below.refl _ _⟩)
  go_wp2_with fail
  refine (Calls.mono HX.out) ?_
  rintro r W24 ⟨rfl, hb⟩
  obtain ⟨hT, hbel, NA, NB, NC, NQ, NR, NS, NT, NL, NN, NM, NO⟩ := S23.out
  have hTn := hT.belows hb
  have hbn := hbel.trans (hb.mono hbel.size)
  have PA := NA.below hb
  have PB := NB.below hb
  have PC := NC.below hb
  have PQ := NQ.below hb
  have PR := NR.below hb
  have PS := NS.below hb
  have PT := NT.below hb
  have PL := NL.below hb
  have PN := NN.below hb
  have PM := NM.below hb
  have PO := NO.below hb
  have S24 := (Aside.intro (And.intro hTn (And.intro hbn (And.intro PA (And.intro PB (And.intro PC (And.intro PQ (And.intro PR (And.intro PS (And.intro PT (And.intro PL (And.intro PN (And.intro PM PO)))))))))))))
  clear hb hT hbel NA NB NC NQ NR NS NT NL NN NM NO hTn hbn PA PB PC PQ PR PS PT PL PN PM PO  S23
  clear HX
  go_wp2
  go_ret
  exact ⟨rfl, S24.out.2.1⟩
end Go.Proofs.YtonhahbmdekkdaaDoor
