/- The document's Lent, AsLent. -/
import Derived.Test.YtonhahbmdekkdaaDoorW33
import Derived.BigQuiet
namespace Go.Proofs.YtonhahbmdekkdaaDoor
open Go.RowKit
set_option linter.unusedVariables false
set_option maxRecDepth 20000

theorem But.drewN {g : Nat} {a w : World} (h : But g a w) (n : Nat) : But g a (w.drewN n) := ⟨h.os, h.tape, h.output, h.size, h.block⟩

theorem lent_zeros (xs : List Nat) (n : Nat) (hn : n = xs.length) : xs ++ (List.replicate (n + 2) 0).drop n = xs ++ [0, 0] := by
  rw [List.drop_replicate, show n + 2 - n = 2 by omega]; rfl

theorem lent_marks (xs : List Nat) (n : Nat) (hn : n = xs.length) : ((xs ++ [0, 0]).set n 71).set (n + 1) 72 = xs ++ [71, 72] := by
  subst hn
  simp

set_option maxHeartbeats 1000000 in
theorem lent_any (xs : List Nat) (ao : Option Addr) (n cap B : Nat) (w : World) (hn : n = xs.length) (hc : n ≤ cap) (hm : n ≤ 35184372087808) (hR : Rd B w ao xs) (hB : B ≤ w.heap.size) :
    Calls Tryd.prog 10 #[.slice ao n cap] w fun r w' => r = .returned (.slice (some ⟨w.heap.size, 0, none⟩) n (n + 2)) ∧ Own w' w.heap.size (xs ++ [71, 72]) ∧ Below w.heap.size w w' := by
  have hmk := make_words ((n + 2 : Nat) : Int) (n + 2) rfl (by omega)
  have hmk2 := make_words ((n : Int) + 2) (n + 2) (by omega) (by omega)
  have HO2 : Hid (Own (w.alloc (.cells (madeCells #[.int .u32 0] (n + 2)) 63)) w.heap.size (List.replicate (n + 2) 0)) := Own.made w (n + 2)
  obtain ⟨w2, hcp, hO2, hbut⟩ := copy_words _ w.heap.size (n + 2) (n + 2) ao n cap B 3 (List.replicate (n + 2) 0) xs HO2.out (by simp) hn (hR.below ((Below.refl _ _).alloc hB _)) (by omega)
  rw [lent_zeros xs n hn] at hO2
  have hg1 := hO2.frozen n
  have hg2 := hO2.frozen (n + 1)
  have hc1 := hO2.cell n (by simp; omega)
  have hc2 := hO2.cell (n + 1) (by simp; omega)
  have HX := (Aside.intro (And.intro hO2 (And.intro hbut hn)))
  clear hO2 hbut HO2 hn hR
  go_enter Tryd.func10, Tryd.ntmps10
  go_wp2
  go_ret
  obtain ⟨hO2, hbut, hn⟩ := HX.out
  refine ⟨rfl, ?_, ?_⟩
  · have h1 := (hO2.set n 71).set (n + 1) 72
    rw [lent_marks xs n hn] at h1
    exact h1
  · exact But.below ((Below.refl _ _).alloc (Nat.le_refl _) _) ((hbut.set _ _).set _ _) (by simp) (Nat.le_refl _)

set_option maxHeartbeats 2000000 in
theorem asLent_any (xs : List Nat) (ao : Option Addr) (n cap B g : Nat) (w : World) (hn : n = xs.length) (hc : n ≤ cap) (hm : n ≤ 35184372087808) (hx : Wf xs) (hR : Rd B w ao xs) (hB : B ≤ g) (hO : Own w g (xs ++ [71, 72])) :
    Calls Tryd.prog 12 #[.slice (some ⟨g, 0, none⟩) n (n + 2), .slice ao n cap] w fun r w' => r = .returned (.bool true) ∧ But g w w' := by
  have hgl := hO.lt
  have hc1 := hO.cell n (by simp; omega)
  have hc2 := hO.cell (n + 1) (by simp; omega)
  have e1 : (xs ++ [71, 72]).getD n 0 = 71 := by subst hn; simp
  have e2 : (xs ++ [71, 72]).getD (n + 1) 0 = 72 := by subst hn; simp
  rw [e1] at hc1
  rw [e2] at hc2
  have HX := (Aside.intro (And.intro hR (And.intro hO (And.intro hn (And.intro hB (And.intro hgl hx))))))
  clear hR hO hn hB e1 e2 hgl hx
  go_enter Tryd.func12, Tryd.ntmps12
  go_wp2
  go_loopg [6, 7] (n + 2) (fun gk gv iv wr => ∃ (k : Nat) (M : List Nat), gk + k = n + 2 ∧ gv = .bool true ∧ iv = .int .i64 (k : Nat) ∧ Hid (Own wr g M) ∧
      Aside (M.length = n + 2 ∧ (∀ j, k ≤ j → M.getD j 0 = (xs ++ [71, 72]).getD j 0) ∧ But g w wr))
  case atStart =>
    obtain ⟨hR, hO, hn, hB, hgl, hx⟩ := HX.out
    exact ⟨0, xs ++ [71, 72], by omega, rfl, rfl, hO, by simp; omega, fun _ _ => rfl, But.refl _ _⟩
  case round =>
    obtain ⟨k, M, hk, rfl, rfl, HM, HA⟩ := hrel
    by_cases hk2 : k = n + 2
    · obtain rfl : gk = 0 := by omega
      subst hk2
      go_wp2
      go_ret
      exact ⟨rfl, HA.out.2.2⟩
    · obtain ⟨hl, hM, hbut⟩ := HA.out
      have hgc := HM.out.cell k (by omega)
      have hgf := HM.out.frozen k
      have hklt : k < n + 2 := by omega
      by_cases hkn : k < n
      · obtain ⟨hR, hO, hn, hB, hgl, hx⟩ := HX.out
        obtain ⟨b, off, hlt, rfl, hcell⟩ := (hR.but hbut (by omega) hB) (by intro e; subst e; simp at hn; omega)
        have hxc := hcell k (by omega)
        have e3 : M.getD k 0 = xs.getD k 0 := by
          rw [hM k (Nat.le_refl _)]
          simp [List.getD_eq_getElem?_getD, List.getElem?_append_left (show k < xs.length by omega)]
        rw [e3] at hgc
        obtain ⟨x, hx1⟩ : ∃ x, xs.getD k 0 = x := ⟨_, rfl⟩
        rw [hx1] at hgc hxc
        have hd : decide ((n : Int) ≤ (k : Int)) = false := decide_eq_false (by omega)
        clear hl hM hbut hR hO hn hB hgl hcell e3 hx1 hx
        go_wp2
        go_quiet (fail)
        go_wp2
        go_roundg (gk - 1)
        case measure => omega
        case rel =>
          obtain ⟨hl, hM, hbut⟩ := HA.out
          refine ⟨k + 1, M.set k 83, by omega, by first | rfl | simp, by first | go_num | (congr 1; omega), (HM.out.set k 83).drew, by simp [hl], fun j hj => ?_, ((But.drewN hbut _).set k _)⟩
          rw [getD_set_ne _ _ _ _ (by omega)]
          exact hM j (by omega)
      · have hd : decide ((n : Int) ≤ (k : Int)) = true := decide_eq_true (by omega)
        clear hl hM hbut
        go_wp2
        go_quiet (fail)
        go_wp2
        go_roundg (gk - 1)
        case measure => omega
        case rel =>
          obtain ⟨hl, hM, hbut⟩ := HA.out
          refine ⟨k + 1, M.set k 83, by omega, by first | rfl | simp, by first | go_num | (congr 1; omega), (HM.out.set k 83).drew, by simp [hl], fun j hj => ?_, ((But.drewN hbut _).set k _)⟩
          rw [getD_set_ne _ _ _ _ (by omega)]
          exact hM j (by omega)
end Go.Proofs.YtonhahbmdekkdaaDoor
