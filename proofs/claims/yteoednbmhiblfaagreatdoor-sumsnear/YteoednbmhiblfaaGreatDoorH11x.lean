/- The program's Halving: its loops. -/
import Derived.Test.YteoednbmhiblfaaGreatDoorJ14x
import Derived.Test.YteoednbmhiblfaaGreatDoorD2x
import Derived.Test.YteoednbmhiblfaaGreatDoorM1x
import Derived.ProofKit
import Derived.OpenShut
import Derived.ChangeOld
import Derived.ChangeArms
import Derived.SizedLaws
import Derived.Laws.Cover2
import Derived.Test.YteoednbmhiblfaaGreatDoorH6x
import Derived.KernelRfl
import Derived.ArgAppend
import Derived.Maps.AppendAt
import Derived.WalkMore
import Derived.OwnWalk
import Derived.Test.YteoednbmhiblfaaGreatDoorD16x
import Derived.Test.YteoednbmhiblfaaGreatDoorD8x
import Derived.Test.YteoednbmhiblfaaGreatDoorD32dx
namespace Go.Proofs.YteoednbmhiblfaaGreatDoor
open Go.RowKit J
set_option linter.unusedVariables false
set_option maxRecDepth 20000
set_option linter.unusedSimpArgs false
attribute [local go_sem] st_float

/-- While a row is made: what stands ahead of i is the next row's, what stands from 2 i on is this row's. -/
structure Hv10 (w : World) (g cap p : Nat) (R : List Nat) (i : Nat) (wr : World) (C : List Value) : Prop where
  hbl : Bl wr g 25 C
  hcap : C.length = cap
  hroom : p ≤ cap
  hdone : ∀ j, j < i → ∃ z, C[j]? = some (.float .f64 z) ∧ Is z (nrm ((two R).getD j 0))
  hrest : ∀ j, 2 * i ≤ j → j < p → ∃ z, C[j]? = some (.float .f64 z) ∧ Is z (nrm (R.getD j 0))
  hbel : Below w.heap.size w wr
  hown : w.heap.size ≤ g
theorem Hv10.of {w wr : World} {g cap p : Nat} {R : List Nat} {C : List Value} (h : Rw10 wr g C p R) (hc : C.length = cap) (hb : Below w.heap.size w wr) (hg : w.heap.size ≤ g) : Hv10 w g cap p R 0 wr C :=
  ⟨h.1, hc, by have := h.2.1; omega, fun j hj => by omega, fun j _ hj => h.2.2.2 j hj, hb, hg⟩
theorem Hv10.set {w wr u : World} {g cap p : Nat} {R : List Nat} {i z : Nat} {C : List Value} (h : Hv10 w g cap p R i wr C) (hb : Below wr.heap.size wr u) (hi : i < p / 2) (hR : R.length = p) (hz : Is z (nrm ((two R).getD i 0))) : Hv10 w g cap p R (i + 1) (u.setCell ⟨g, i, none⟩ (.float .f64 z)) (C.set i (.float .f64 z)) := by
  have hb2 := h.hbel.trans (hb.mono h.hbel.size)
  have hroom := h.hroom
  have hcap := h.hcap
  refine ⟨(h.hbl.below hb h.hbl.lt).set i _, by rw [List.length_set]; exact h.hcap, h.hroom, fun j hj => ?_, fun j hj hp => ?_, But.below hb2 ((But.refl g u).set i _) hb2.size h.hown, h.hown⟩
  · by_cases e : j = i
    · subst e
      exact ⟨z, by rw [List.getElem?_set_self (by omega)], hz⟩
    · rw [List.getElem?_set_ne (by omega)]
      exact h.hdone j (by omega)
  · rw [List.getElem?_set_ne (by omega)]
    exact h.hrest j (by omega) hp

set_option maxHeartbeats 8000000 in
theorem Halving10 (xs : List Nat) (a : Option Addr) (n c : Nat) (w : World) (hn : n = xs.length) (hF : Fs w.heap.size w a xs) (hW : W64 xs) (hm : n ≤ 17592186043904) :
    Calls Tryz.prog 10 #[.slice a n c] w fun r w' => r = .returned (.float .f64 (hvF xs)) ∧ Below w.heap.size w w' := by
  have H1 := hid (clone10 xs a n c w hn hF hm)
  have HX := Aside.intro (And.intro hn hW)
  have hmb : n ≤ 4611686018427387904 := by omega
  obtain ⟨Y, hY⟩ : ∃ Y, Y = hvF xs := ⟨_, rfl⟩
  rw [← hY]
  have HY := Aside.intro hY
  clear hY
  clear hn hF hW hm
  go_enter Tryz.func10, Tryz.ntmps10
  go_wp2_with fail
  refine (H1.out).mono ?_
  rintro r w1 ⟨⟨v, rfl, hv⟩, hb1⟩
  have B1 := Aside.intro hb1
  clear H1 hb1
  rcases own_row10 hv HX.out.2 HX.out.1 with ⟨rfl, hn0⟩ | ⟨g, C, rfl, hlo, hrow, hml⟩
  · subst hn0
    have hx : xs = [] := List.eq_nil_of_length_eq_zero (by rw [← HX.out.1])
    have HR := hid (Running10 [] none 0 0 w1 rfl (Fs.nil _ _ _) (fun x hx => by cases hx) (by omega) (by omega))
    have e0 : runF [] = Y := by rw [HY.out, hx]; decide
    rw [e0] at HR
    clear hv hx e0
    go_wp2
    go_loopg [3, 4] 1 (fun gk v m wr => v = .slice none 0 0 ∧ m = .int .i64 0 ∧ wr = w1)
    case atStart => exact ⟨rfl, by simp, rfl⟩
    case round =>
      obtain ⟨rfl, rfl, rfl⟩ := hrel
      go_wp2_with fail
      refine (HR.out).mono ?_
      rintro r w2 ⟨rfl, hb2⟩
      have B2 := Aside.intro (B1.out.trans (hb2.mono B1.out.size))
      clear hb2 HR
      go_wp2
      exact bodyPost_ret (v := .float .f64 Y) (by simp [results, Tryz.results10, go_sem]) rfl ⟨rfl, B2.out⟩
  · obtain ⟨cap, hcap⟩ : ∃ cap, cap = C.length := ⟨_, rfl⟩
    have H0 : Aside (Rw10 w1 g C n xs ∧ C.length = cap ∧ w.heap.size ≤ g) := ⟨hrow, hcap.symm, hlo⟩
    rw [← hcap]
    clear hv hrow hlo hcap hml
    go_wp2
    go_loopg [3, 4] n (fun gk v m wr => ∃ p : Nat, p ≤ gk ∧ p ≤ n ∧ v = .slice (some ⟨g, 0, none⟩) p cap ∧ m = .int .i64 (p : Nat) ∧ Aside (∃ r C, Rw10 wr g C p (twos r xs) ∧ C.length = cap ∧ Below w.heap.size w wr))
    case atStart => exact ⟨n, by omega, by omega, rfl, by simp, 0, C, H0.out.1, H0.out.2.1, B1.out⟩
    case round =>
      obtain ⟨p, hpg, hpn, rfl, rfl, HA⟩ := hrel
      obtain ⟨G, rfl⟩ : ∃ G, G = gk := ⟨_, rfl⟩
      by_cases hp : 1 < p
      · obtain ⟨h, hh⟩ : ∃ h, h = p / 2 := ⟨_, rfl⟩
        have hq1 : Int.tdiv (p : Int) 2 = (h : Int) := by rw [hh]; rfl
        have hhb : h < p ∧ 2 * h ≤ p ∧ p ≤ 2 * h + 1 := by omega
        obtain ⟨r, C0, hrw, hc0, hb0⟩ := HA.out
        have HV := Aside.intro (And.intro (Hv10.of (cap := cap) hrw hc0 hb0 H0.out.2.2) (And.intro hrw.2.2.1 (W64_twos r xs HX.out.2)))
        have HR := Aside.intro (twos_out r xs)
        obtain ⟨R, hR⟩ : ∃ R, R = twos r xs := ⟨_, rfl⟩
        rw [← hR] at HV HR
        have HH := Aside.intro (And.intro hh (And.intro hhb hR))
        clear hrw hc0 hb0 hR HA hh
        have hd1 : decide ((1 : Int) < (p : Int)) = true := by simp; omega
        go_wp2
        go_loopg [16] h (fun gk i wr => ∃ i' : Nat, gk + i' = h ∧ i = .int .i64 (i' : Nat) ∧ Aside (∃ C, Hv10 w g cap p R i' wr C))
        case atStart => exact ⟨0, by omega, by simp, C0, HV.out.1⟩
        case round =>
          obtain ⟨i, hgi, rfl, HI⟩ := hrel
          by_cases hi : i < h
          · obtain ⟨C1, hC1⟩ := HI.out
            obtain ⟨z1, hz1, hs1⟩ := hC1.hrest (2 * i) (Nat.le_refl _) (by omega)
            obtain ⟨z2, hz2, hs2⟩ := hC1.hrest (2 * i + 1) (by omega) (by omega)
            have HP : Hid (∀ u : World, Calls Tryz.prog 33 #[.float .f64 z1, .float .f64 z2] u fun r w' => ∃ z', r = .returned (.float .f64 z') ∧ Is z' (nrm ((two R).getD i 0)) ∧ Below u.heap.size u w') := fun u => by
              have h := plus10 hs1 hs2 u
              have e := add_nrm (getD_lt HV.out.2.2 (2 * i)) (getD_lt HV.out.2.2 (2 * i + 1))
              rw [two_get R i (by rw [HV.out.2.1]; have := HH.out.1; omega), plF_nrm]
              rw [show plF (nrm (R.getD (2 * i) 0)) (nrm (R.getD (2 * i + 1) 0)) = plF (R.getD (2 * i) 0) (R.getD (2 * i + 1) 0) from e] at h
              exact h
            have kS := Aside.intro (And.intro (hC1.hbl.drew.cell (2 * i) _ hz1) (hC1.hbl.drew.cell (2 * i + 1) _ hz2))
            have hx1 : IntKind.i64.wrap (2 * (i : Int)) = 2 * (i : Int) := by rw [IntKind.wrap_i64]; omega
            have hx2 : IntKind.i64.wrap (2 * (i : Int) + 1) = 2 * (i : Int) + 1 := by rw [IntKind.wrap_i64]; omega
            have ht1 : (2 * (i : Int)).toNat = 2 * i := by omega
            have ht2 : (2 * (i : Int) + 1).toNat = 2 * i + 1 := by omega
            have hb1 : 0 ≤ 2 * (i : Int) := by omega
            have hb2 : 2 * (i : Int) < (p : Int) := by omega
            have hb3 : 0 ≤ 2 * (i : Int) + 1 := by omega
            have hb4 : 2 * (i : Int) + 1 < (p : Int) := by omega
            have hi1 : i < p := by omega
            have hcl : ∃ v, C1[i]? = some v := ⟨_, List.getElem?_eq_getElem (by rw [hC1.hcap]; have := hC1.hroom; omega)⟩
            have HC1 := Aside.intro (And.intro hC1 hcl)
            clear hC1 hs1 hs2 hcl
            go_wp2_with fail
            refine until_region (fun u => u.cell? ⟨g, 2 * i, none⟩ = some (.float .f64 z1) ∧ u.cell? ⟨g, 2 * i + 1, none⟩ = some (.float .f64 z2)) 15 (by kernel_rfl) ?_
            refine until_take (i := 0) [14] (v := ?_) rfl (by kernel_rfl) (by kernel_rfl) (by kernel_rfl) (by kernel_rfl) (by kernel_rfl) (fun _ _ _ h => h) (Or.inl ⟨by rfl, ?_⟩) kS.out ?_
            rotate_left
            · intro u hSu
              try dsimp only at hSu
              first | (go_simp; done) | (go_simp; with_reducible rfl)
            try simp only [Act.put, List.setIfInBounds_toArray, List.set_cons_zero, List.set_cons_succ]
            refine until_take (i := 1) [14] (v := ?_) rfl (by kernel_rfl) (by kernel_rfl) (by kernel_rfl) (by kernel_rfl) (by kernel_rfl) (fun _ _ _ h => h) (Or.inl ⟨by rfl, ?_⟩) kS.out ?_
            rotate_left
            · intro u hSu
              try dsimp only at hSu
              first | (go_simp; done) | (go_simp; with_reducible rfl)
            try simp only [Act.put, List.setIfInBounds_toArray, List.set_cons_zero, List.set_cons_succ]
            refine until_take (i := 2) [5, 6, 13] (v := ?_) rfl (by kernel_rfl) (by kernel_rfl) (by kernel_rfl) (by kernel_rfl) (by kernel_rfl) (fun _ _ _ h => h) (Or.inl ⟨by rfl, ?_⟩) kS.out ?_
            rotate_left
            · intro u hSu
              try dsimp only at hSu
              first | (go_simp; done) | (go_simp; with_reducible rfl)
            try simp only [Act.put, List.setIfInBounds_toArray, List.set_cons_zero, List.set_cons_succ]
            refine until_take (i := 3) [4, 5, 6, 13] (v := ?_) rfl (by kernel_rfl) (by kernel_rfl) (by kernel_rfl) (by kernel_rfl) (by kernel_rfl) (fun _ _ _ h => h) (Or.inl ⟨by rfl, ?_⟩) kS.out ?_
            rotate_left
            · intro u hSu
              try dsimp only at hSu
              first | (go_simp; done) | (go_simp; with_reducible rfl)
            try simp only [Act.put, List.setIfInBounds_toArray, List.set_cons_zero, List.set_cons_succ]
            refine until_take (i := 4) [5, 6, 13] (v := ?_) rfl (by kernel_rfl) (by kernel_rfl) (by kernel_rfl) (by kernel_rfl) (by kernel_rfl) (fun _ _ _ h => h) (Or.inl ⟨by rfl, ?_⟩) kS.out ?_
            rotate_left
            · intro u hSu
              try dsimp only at hSu
              first | (go_simp; done) | (go_simp; with_reducible rfl)
            try simp only [Act.put, List.setIfInBounds_toArray, List.set_cons_zero, List.set_cons_succ]
            refine until_take (i := 5) [6, 13] (v := ?_) rfl (by kernel_rfl) (by kernel_rfl) (by kernel_rfl) (by kernel_rfl) (by kernel_rfl) (fun _ _ _ h => h) (Or.inl ⟨by rfl, ?_⟩) kS.out ?_
            rotate_left
            · intro u hSu
              try dsimp only at hSu
              first | (go_simp; done) | (go_simp; with_reducible rfl)
            try simp only [Act.put, List.setIfInBounds_toArray, List.set_cons_zero, List.set_cons_succ]
            refine until_take (i := 6) [13] (v := ?_) rfl (by kernel_rfl) (by kernel_rfl) (by kernel_rfl) (by kernel_rfl) (by kernel_rfl) (fun _ _ _ h => h) (Or.inl ⟨by rfl, ?_⟩) kS.out ?_
            rotate_left
            · intro u hSu
              try dsimp only at hSu
              first | (go_simp; done) | (go_simp; with_reducible rfl)
            try simp only [Act.put, List.setIfInBounds_toArray, List.set_cons_zero, List.set_cons_succ]
            refine until_take (i := 7) [11, 12, 13] (v := ?_) rfl (by kernel_rfl) (by kernel_rfl) (by kernel_rfl) (by kernel_rfl) (by kernel_rfl) (fun _ _ _ h => h) (Or.inl ⟨by rfl, ?_⟩) kS.out ?_
            rotate_left
            · intro u hSu
              try dsimp only at hSu
              first | (go_simp; done) | (go_simp; with_reducible rfl)
            try simp only [Act.put, List.setIfInBounds_toArray, List.set_cons_zero, List.set_cons_succ]
            refine until_take (i := 8) [9, 10, 11, 12, 13] (v := ?_) rfl (by kernel_rfl) (by kernel_rfl) (by kernel_rfl) (by kernel_rfl) (by kernel_rfl) (fun _ _ _ h => h) (Or.inl ⟨by rfl, ?_⟩) kS.out ?_
            rotate_left
            · intro u hSu
              try dsimp only at hSu
              first | (go_simp; done) | (go_simp; with_reducible rfl)
            try simp only [Act.put, List.setIfInBounds_toArray, List.set_cons_zero, List.set_cons_succ]
            refine until_take (i := 9) [10, 11, 12, 13] (v := ?_) rfl (by kernel_rfl) (by kernel_rfl) (by kernel_rfl) (by kernel_rfl) (by kernel_rfl) (fun _ _ _ h => h) (Or.inl ⟨by rfl, ?_⟩) kS.out ?_
            rotate_left
            · intro u hSu
              try dsimp only at hSu
              first | (go_simp; done) | (go_simp; with_reducible rfl)
            try simp only [Act.put, List.setIfInBounds_toArray, List.set_cons_zero, List.set_cons_succ]
            refine until_take (i := 10) [11, 12, 13] (v := ?_) rfl (by kernel_rfl) (by kernel_rfl) (by kernel_rfl) (by kernel_rfl) (by kernel_rfl) (fun _ _ _ h => h) (Or.inl ⟨by rfl, ?_⟩) kS.out ?_
            rotate_left
            · intro u hSu
              try dsimp only at hSu
              first | (go_simp; done) | (go_simp; with_reducible rfl)
            try simp only [Act.put, List.setIfInBounds_toArray, List.set_cons_zero, List.set_cons_succ]
            refine until_take (i := 11) [12, 13] (v := ?_) rfl (by kernel_rfl) (by kernel_rfl) (by kernel_rfl) (by kernel_rfl) (by kernel_rfl) (fun _ _ _ h => h) (Or.inl ⟨by rfl, ?_⟩) kS.out ?_
            rotate_left
            · intro u hSu
              try dsimp only at hSu
              first | (go_simp; done) | (go_simp; with_reducible rfl)
            try simp only [Act.put, List.setIfInBounds_toArray, List.set_cons_zero, List.set_cons_succ]
            refine until_take (i := 12) [13] (v := ?_) rfl (by kernel_rfl) (by kernel_rfl) (by kernel_rfl) (by kernel_rfl) (by kernel_rfl) (fun _ _ _ h => h) (Or.inl ⟨by rfl, ?_⟩) kS.out ?_
            rotate_left
            · intro u hSu
              try dsimp only at hSu
              first | (go_simp; done) | (go_simp; with_reducible rfl)
            try simp only [Act.put, List.setIfInBounds_toArray, List.set_cons_zero, List.set_cons_succ]
            refine until_one (i := 13) (by kernel_rfl) rfl (fun K' hK => ?_)
            go_simp
            refine (HP.out _).mono ?_
            rintro r u ⟨z, rfl, hz, hb⟩
            have HZ := Aside.intro (And.intro hz hb)
            have kS := Aside.intro (And.intro ((HC1.out.1.hbl.drew.below hb HC1.out.1.hbl.lt).cell (2 * i) _ hz1) ((HC1.out.1.hbl.drew.below hb HC1.out.1.hbl.lt).cell (2 * i + 1) _ hz2))
            clear hz hb
            dsimp only
            refine hK.out _ _ (fun _ => kS.out) ?_
            clear hK K'
            try simp only [Act.put, List.setIfInBounds_toArray, List.set_cons_zero, List.set_cons_succ]
            refine until_one (i := 14) (by kernel_rfl) rfl (fun K' hK => ?_)
            go_simp
            refine hK.out _ _ (fun _ => kS.out) ?_
            clear hK K'
            try simp only [Act.put, List.setIfInBounds_toArray, List.set_cons_zero, List.set_cons_succ]
            obtain ⟨vi, hvi⟩ := HC1.out.2
            have hcc := (HC1.out.1.hbl.drew.below HZ.out.2 HC1.out.1.hbl.lt).cell i _ hvi
            have hfz := (HC1.out.1.hbl.drew.below HZ.out.2 HC1.out.1.hbl.lt).frozen i
            refine until_one (i := 15) (by kernel_rfl) rfl (fun K' hK => ?_)
            go_simp
            refine hK.out _ _ (fun h => absurd h (by decide)) ?_
            clear hK K' kS hz1 hz2 hcc hfz hvi
            refine until_done (by kernel_rfl) ?_ _
            go_wp2
            go_roundg (gk - 1)
            case measure => omega
            case rel => exact ⟨i + 1, by omega, by first | rfl | simp, _, HC1.out.1.set ((Below.refl _ _).drew.trans HZ.out.2) (by have := HH.out.1; omega) HV.out.2.1 HZ.out.1⟩
          · have hdi : decide ((i : Int) < (h : Int)) = false := by simp; omega
            obtain rfl : h = i := by omega
            obtain ⟨C1, hC1⟩ := HI.out
            have HC1 := Aside.intro hC1
            have hlen : (two R).length = p - h := by rw [two_len, HV.out.2.1, ← HH.out.1]
            have HN := Aside.intro hlen
            clear hC1 hlen
            have hqs : IntKind.i64.wrap ((p : Int) - (h : Int)) = ((p - h : Nat) : Int) := by rw [IntKind.wrap_i64]; omega
            have hq4 : (((p : Int) - (h : Int))).toNat = p - h := by omega
            have hqc : p - h ≤ cap := by have := HC1.out.hroom; omega
            have hq5 : IntKind.i64.wrap ((p : Int) - 1) = (p : Int) - 1 := by rw [IntKind.wrap_i64]; omega
            have hq6 : ((p : Int) - 1).toNat = p - 1 := by omega
            by_cases ho : p % 2 = 1
            · obtain ⟨z, hz, hs⟩ := HC1.out.hrest (p - 1) (by have := HH.out.1; omega) (by omega)
              have c1 := HC1.out.hbl.cell (p - 1) _ hz
              have hlt2 : h < C1.length := by rw [HC1.out.hcap]; have := HC1.out.hroom; omega
              have c2 := HC1.out.hbl.cell h _ (List.getElem?_eq_getElem hlt2)
              obtain ⟨vi, hvi⟩ : ∃ vi, vi = C1[h] := ⟨_, rfl⟩
              rw [← hvi] at c2
              have f2 := HC1.out.hbl.frozen h
              have hrem : Int.tmod (p : Int) 2 = 1 := by rw [show Int.tmod (p : Int) 2 = ((p % 2 : Nat) : Int) from rfl, ho]; rfl
              have HNX : Aside (Rw10 (wr.setCell ⟨g, h, none⟩ (.float .f64 z)) g (C1.set h (.float .f64 z)) (p - h) (two R) ∧ (C1.set h (.float .f64 z)).length = cap ∧ Below w.heap.size w (wr.setCell ⟨g, h, none⟩ (.float .f64 z))) := by
                refine ⟨⟨HC1.out.hbl.set h _, by rw [List.length_set, HC1.out.hcap]; omega, HN.out, fun j hj => ?_⟩, by rw [List.length_set]; exact HC1.out.hcap, But.below HC1.out.hbel ((But.refl g wr).set h _) HC1.out.hbel.size HC1.out.hown⟩
                by_cases e : j = h
                · subst e
                  refine ⟨z, by rw [List.getElem?_set_self hlt2], ?_⟩
                  have e2 := two_last R (by rw [HV.out.2.1]; exact ho)
                  rw [HV.out.2.1, ← HH.out.1] at e2
                  rw [e2]
                  exact hs
                · rw [List.getElem?_set_ne (by omega)]
                  exact HC1.out.hdone j (by omega)
              clear hz hs hvi hlt2
              go_wp2
              go_roundg (G - 1)
              case measure => omega
              case rel => exact ⟨p - h, by omega, by omega, rfl, rfl, r + 1, _, by rw [HR.out]; exact HNX.out.1, HNX.out.2.1, HNX.out.2.2⟩
            · have hrem : Int.tmod (p : Int) 2 = 0 := by rw [show Int.tmod (p : Int) 2 = ((p % 2 : Nat) : Int) from rfl, show p % 2 = 0 by omega]; rfl
              have HNX : Aside (Rw10 wr g C1 (p - h) (two R) ∧ C1.length = cap ∧ Below w.heap.size w wr) :=
                ⟨⟨HC1.out.hbl, by rw [HC1.out.hcap]; omega, HN.out, fun j hj => HC1.out.hdone j (by omega)⟩, HC1.out.hcap, HC1.out.hbel⟩
              go_wp2
              go_roundg (G - 1)
              case measure => omega
              case rel => exact ⟨p - h, by omega, by omega, rfl, rfl, r + 1, _, by rw [HR.out]; exact HNX.out.1, HNX.out.2.1, HNX.out.2.2⟩
      · obtain ⟨r, C0, hrw, hc0, hb0⟩ := HA.out
        have hd1 : decide ((1 : Int) < (p : Int)) = false := by simp; omega
        have HE := hv_any r xs (by rw [hrw.2.2.1]; omega)
        have HR : Hid (Calls Tryz.prog 9 #[.slice (some ⟨g, 0, none⟩) p cap] wr fun r w' => r = .returned (.float .f64 Y) ∧ Below wr.heap.size wr w') := by
          by_cases h0 : p = 0
          · subst h0
            have h := Running10 [] (some ⟨g, 0, none⟩) 0 cap wr rfl (Fs.nil _ _ _) (fun x hx => by cases hx) (by omega) (by omega)
            have e : runF [] = Y := by
              rw [HY.out, HE, List.eq_nil_of_length_eq_zero hrw.2.2.1]; rfl
            rw [e] at h
            exact h
          · obtain rfl : p = 1 := by omega
            obtain ⟨z, hz, hs⟩ := hrw.2.2.2 0 (by omega)
            have h := Running10 [z] (some ⟨g, 0, none⟩) 1 cap wr rfl (fun _ => ⟨g, 0, hrw.1.lt, rfl, fun i hi => by
              have : i = 0 := by simp at hi; omega
              subst this
              rw [hrw.1.cell 0 _ hz]; rfl⟩) (fun x hx => by
              have : x = z := by simpa using hx
              rw [this]; exact hs.1) (by have := hrw.2.1; omega) (by omega)
            have e : runF [z] = Y := by
              rw [HY.out, HE]; exact hs.2
            rw [e] at h
            exact h
        have HB := Aside.intro hb0
        clear hrw hc0 hb0 HE HA
        go_wp2_with fail
        refine (HR.out).mono ?_
        rintro r w2 ⟨rfl, hb2⟩
        have B2 := Aside.intro (HB.out.trans (hb2.mono HB.out.size))
        clear hb2 HR
        go_wp2
        exact bodyPost_ret (v := .float .f64 Y) (by simp [results, Tryz.results10, go_sem]) rfl ⟨rfl, B2.out⟩
end Go.Proofs.YteoednbmhiblfaaGreatDoor

/- Blocked, both sides. -/
namespace Go.Proofs.YteoednbmhiblfaaGreatDoor
open Go.RowKit J
set_option linter.unusedVariables false
set_option maxRecDepth 20000
set_option linter.unusedSimpArgs false
attribute [local go_sem] st_float

theorem wrN (m : Nat) (h : m ≤ 1000000) : Go.RowKit.wrap64 (m : Int) = (m : Int) := by
  unfold Go.RowKit.wrap64
  omega
theorem wrS (n s : Nat) (h : n ≤ 65536) (h1 : 1 ≤ s) (h2 : s ≤ 65536) : Go.RowKit.wrap64 ((n : Int) + (s : Int) - 1) = (n : Int) + (s : Int) - 1 := by
  unfold Go.RowKit.wrap64
  omega
theorem tdS (n s : Nat) (h1 : 1 ≤ s) : Int.tdiv ((n : Int) + (s : Int) - 1) (s : Int) = (((n + s - 1) / s : Nat) : Int) := by
  rw [show (n : Int) + (s : Int) - 1 = ((n + s - 1 : Nat) : Int) by omega]; rfl
/-- The blocks' sums, the first k of them. -/
def bkL (s : Nat) (xs : List Nat) (k : Nat) : List Nat := (List.range k).map fun i => runF (pc s xs i)
theorem bkL_succ (s : Nat) (xs : List Nat) (k : Nat) : bkL s xs (k + 1) = bkL s xs k ++ [runF (pc s xs k)] := by unfold bkL; rw [List.range_succ, List.map_append]; rfl
theorem bkL_len (s : Nat) (xs : List Nat) (k : Nat) : (bkL s xs k).length = k := by simp [bkL]
theorem bkL_wf {s : Nat} {xs : List Nat} (h : W64 xs) (k : Nat) : W64 (bkL s xs k) := fun x hx => by
  obtain ⟨i, _, rfl⟩ := List.mem_map.1 hx
  exact (runF_ok _ (h.piece (i * s) s)).1
theorem bkL_set (s : Nat) (xs : List Nat) (nb k : Nat) (hk : k < nb) : (bkL s xs k ++ List.replicate (nb - k) 0).set k (runF (pc s xs k)) = bkL s xs (k + 1) ++ List.replicate (nb - (k + 1)) 0 := by
  rw [List.set_append_right _ _ (by rw [bkL_len]; omega), bkL_len, Nat.sub_self, bkL_succ, show nb - k = (nb - (k + 1)) + 1 by omega, List.replicate_succ, List.set_cons_zero, List.append_assoc]
  rfl
/-- Where a block ends. -/
theorem blk_end {n s nb i : Nat} (hs : 1 ≤ s) (hnb : nb = (n + s - 1) / s) (hi : i < nb) : i * s < n := by
  have h1 : (i + 1) * s ≤ nb * s := Nat.mul_le_mul_right _ hi
  have h2 := Nat.div_mul_le_self (n + s - 1) s
  rw [← hnb] at h2
  rw [Nat.add_mul, Nat.one_mul] at h1
  omega

set_option maxHeartbeats 4000000 in
theorem Blocked10 (xs : List Nat) (a : Option Addr) (n c s : Nat) (w : World) (hn : n = xs.length) (hF : Fs w.heap.size w a xs) (hW : W64 xs) (hc : n ≤ c) (hm : n ≤ 65536) (hs1 : 1 ≤ s) (hs2 : s ≤ 65536) :
    Calls Tryz.prog 19 #[.slice a n c, .int .i64 (s : Nat)] w fun r w' => r = .returned (.tuple #[.float .f64 (blF s xs), .int .i64 0]) ∧ Below w.heap.size w w' := by
  obtain ⟨nb, hnb⟩ : ∃ nb, nb = (n + s - 1) / s := ⟨_, rfl⟩
  have hnb2 : nb ≤ n + s := by rw [hnb]; exact Nat.le_trans (Nat.div_le_self _ _) (by omega)
  have HY := Aside.intro (show blF s xs = runF (bkL s xs nb) by unfold blF bkL; rw [hnb, hn])
  obtain ⟨Y, hY⟩ : ∃ Y, Y = blF s xs := ⟨_, rfl⟩
  rw [← hY] at HY ⊢
  have hmk := make_floats (nb : Int) nb rfl (Nat.le_trans hnb2 (Nat.le_trans (Nat.add_le_add hm hs2) (by decide)))
  have HO : Aside (OwnF (w.alloc (.cells (madeCells #[.float .f64 0] nb) 25)) w.heap.size (List.replicate nb 0)) := OwnF.made w nb
  have HX := Aside.intro (And.intro hn (And.intro hF (And.intro hW (And.intro hnb (And.intro hc (And.intro hm (And.intro hs1 hs2)))))))
  have hd1 : decide ((s : Int) < 1) = false := by simp; omega
  have hd2 : decide ((65536 : Int) < (s : Int)) = false := by simp; omega
  have hd3 : decide ((65536 : Int) < (n : Int)) = false := by simp; omega
  have hs0 : (s : Int) ≠ 0 := by omega
  have hnbb : nb < 4611686018427387904 := by omega
  have hnbn : nb ≤ 17592186044416 := by omega
  have hw1 : IntKind.i64.wrap ((n : Int) + (s : Int)) = (n : Int) + (s : Int) := by rw [IntKind.wrap_i64]; omega
  have hq := tdS n s hs1
  rw [← hnb] at hq
  have hw2 := wrS n s hm hs1 hs2
  have hw3 := wrN nb (Nat.le_trans hnb2 (Nat.le_trans (Nat.add_le_add hm hs2) (by decide)))
  clear hn hF hW hc hm hs1 hs2 hY hnb hnb2
  go_enter Tryz.func19, Tryz.ntmps19
  go_wp2
  go_loopg [30] nb (fun gk i wr => ∃ k : Nat, gk + k = nb ∧ i = .int .i64 (k : Nat) ∧ Aside (OwnF wr w.heap.size (bkL s xs k ++ List.replicate (nb - k) 0) ∧ Below w.heap.size w wr ∧ w.heap.size < wr.heap.size))
  case atStart => clear hw1 hw2 hw3 hq; exact ⟨0, by omega, by simp, HO.out, (Below.refl _ _).alloc (Nat.le_refl _) _, by simp⟩
  case round =>
    obtain ⟨k, hgk, rfl, HA⟩ := hrel
    clear hw1 hw2 hw3 hq hmk
    by_cases hk : k < nb
    · obtain ⟨hn, hF, hW, hnb, hc, hm, hs1, hs2⟩ := HX.out
      have hend := blk_end hs1 hnb hk
      obtain ⟨b, off, rfl, _⟩ := hF.at (Below.refl _ _) (k * s) (by omega)
      obtain ⟨p, hp⟩ : ∃ p, p = k * s := ⟨_, rfl⟩
      obtain ⟨M, hM⟩ : ∃ M, M = min (p + s) n := ⟨_, rfl⟩
      have hks : k * s ≤ 4295098368 := Nat.le_of_lt (by have := Nat.mul_le_mul (show k ≤ 65536 by have h3 : k * 1 ≤ k * s := Nat.mul_le_mul_left _ hs1; omega) hs2; omega)
      have e1 : IntKind.i64.wrap ((k : Int) * (s : Int)) = (p : Int) := by rw [show (k : Int) * (s : Int) = ((k * s : Nat) : Int) from rfl, ← hp, IntKind.wrap_i64]; omega
      have e2 : IntKind.i64.wrap (((k : Int) + 1) * (s : Int)) = (p : Int) + (s : Int) := by rw [show ((k : Int) + 1) * (s : Int) = ((k * s : Nat) : Int) + (s : Int) by rw [Int.add_mul, Int.one_mul]; rfl, ← hp, IntKind.wrap_i64]; omega
      have m1 : (if (p : Int) + (s : Int) ≤ (n : Int) then (p : Int) + (s : Int) else (n : Int)) = (M : Int) := by split <;> omega
      have m2 : (if (n : Int) < (p : Int) + (s : Int) then (n : Int) else (p : Int) + (s : Int)) = (M : Int) := by split <;> omega
      have HP := hid (fun (u : World) (hb : Below w.heap.size w u) => Running10 (pc s xs k) (some ⟨b, off + p, none⟩) (M - p) (c - p) u (by unfold pc; rw [List.length_take, List.length_drop]; omega) (by
        have h := ((hF.piece p (M - p) (by omega)).below hb).mono hb.size
        have e : (xs.drop p).take (M - p) = pc s xs k := by
          unfold pc
          rw [← hp]
          by_cases hle : p + s ≤ n
          · rw [show M - p = s by omega]
          · rw [List.take_of_length_le (by rw [List.length_drop]; omega), List.take_of_length_le (by rw [List.length_drop]; omega)]
        rw [e] at h
        exact h) (hW.piece (k * s) s) (by omega) (by omega))
      obtain ⟨z, hz⟩ : ∃ z, z = runF (pc s xs k) := ⟨_, rfl⟩
      rw [← hz] at HP
      have HZ := Aside.intro hz
      have eM : (min ((k : Int) * (s : Int) + (s : Int)) (n : Int)).toNat = M := by
        rw [show (k : Int) * (s : Int) = (p : Int) by rw [hp]; rfl]; omega
      rw [hp, ← eM] at HP
      clear eM
      have hcp : c ≠ p := by omega
      have hpM : p ≤ M := by omega
      have hMc : M ≤ c := by omega
      have hkb : k < 4611686018427387904 := by omega
      have hcl := HA.out.1.cell k (by rw [List.length_append, bkL_len, List.length_replicate]; omega)
      have hfz := HA.out.1.frozen k
      clear hn hF hW hnb hc hm hs1 hs2 hend hM hks hz
      go_wp2_with fail
      refine (HP.out _ HA.out.2.1).mono ?_
      rintro r w2 ⟨rfl, hb2⟩
      have H2 := Aside.intro (And.intro (HA.out.1.below hb2 HA.out.1.lt) (And.intro (HA.out.2.1.trans (hb2.mono HA.out.2.1.size)) (Nat.lt_of_lt_of_le HA.out.2.2 hb2.size)))
      have hcl := H2.out.1.cell k (by rw [List.length_append, bkL_len, List.length_replicate]; omega)
      have hfz := H2.out.1.frozen k
      clear hb2 HP
      go_wp2
      go_roundg (gk - 1)
      case measure => omega
      case rel =>
        refine ⟨k + 1, by omega, by first | rfl | simp, ?_, But.below H2.out.2.1 ((But.refl w.heap.size w2).set k _) H2.out.2.1.size (Nat.le_refl _), by simpa using H2.out.2.2⟩
        rw [← bkL_set s xs nb k hk, ← HZ.out]
        exact H2.out.1.set k z
    · have hd : decide ((k : Int) < (nb : Int)) = false := by simp; omega
      obtain rfl : nb = k := by omega
      have HR := hid (Running10 (bkL s xs nb) (some ⟨w.heap.size, 0, none⟩) nb nb wr (bkL_len s xs nb).symm (by
        have h := HA.out.1.fs HA.out.1.lt nb
        rw [List.take_append_of_le_length (by rw [bkL_len]; exact Nat.le_refl _), List.take_of_length_le (by rw [bkL_len]; exact Nat.le_refl _)] at h
        exact h) (bkL_wf HX.out.2.2.1 nb) (Nat.le_refl _) (by omega))
      rw [← HY.out] at HR
      go_wp2_with fail
      refine (HR.out).mono ?_
      rintro r w2 ⟨rfl, hb2⟩
      have B2 := Aside.intro (HA.out.2.1.trans (hb2.mono HA.out.2.1.size))
      clear hb2 HR
      go_wp2
      go_ret2
      exact ⟨rfl, B2.out⟩
theorem Blocked10_arg (a : Option Addr) (n c : Nat) (s : Int) (w : World) (h : s < 1 ∨ 65536 < s) :
    Calls Tryz.prog 19 #[.slice a n c, .int .i64 s] w fun r w' => r = .returned (.tuple #[.float .f64 0, .int .i64 1]) ∧ Below w.heap.size w w' := by
  rcases h with h | h
  · have hd : decide (s < 1) = true := by simpa using h
    clear h
    go_enter Tryz.func19, Tryz.ntmps19
    go_wp2
    go_ret2
    exact ⟨rfl, Below.refl _ _⟩
  · have hd : decide (s < 1) = false := by simp; omega
    have hd2 : decide (65536 < s) = true := by simpa using h
    clear h
    go_enter Tryz.func19, Tryz.ntmps19
    go_wp2
    go_ret2
    exact ⟨rfl, Below.refl _ _⟩
theorem Blocked10_long (a : Option Addr) (n c : Nat) (s : Int) (w : World) (h1 : 1 ≤ s) (h2 : s ≤ 65536) (hl : 65536 < n) :
    Calls Tryz.prog 19 #[.slice a n c, .int .i64 s] w fun r w' => r = .returned (.tuple #[.float .f64 0, .int .i64 2]) ∧ Below w.heap.size w w' := by
  have hd : decide (s < 1) = false := by simp; omega
  have hd2 : decide (65536 < s) = false := by simp; omega
  have hd3 : decide ((65536 : Int) < (n : Int)) = true := by simp; omega
  clear h1 h2 hl
  go_enter Tryz.func19, Tryz.ntmps19
  go_wp2
  go_ret2
  exact ⟨rfl, Below.refl _ _⟩
end Go.Proofs.YteoednbmhiblfaaGreatDoor

/- Lists that came in. -/
namespace Go.Proofs.YteoednbmhiblfaaGreatDoor
open Go.ChangeShapes Go.WideShapes Go.ChangeAt Go.RowKit
set_option linter.unusedVariables false
set_option maxRecDepth 20000
set_option linter.unusedSimpArgs false

theorem trodF {H : Type} {enc : TypeId × Value → H} {P : Program} {w : World} {base : Nat} {spare : Nat → Bool} {held : Bool} {fuel : Nat} {t : TypeId} {cs : List Value} {x : DataW H × List MemPlace} {k : FloatKind} (ht : P.underlying t = some (.float k)) (h : DataW.trod enc P w base spare held fuel t cs = some x) : ∃ n, cs = [.float k n] ∧ x = (.lit (.float k n), []) ∧ (Lit.float k n).wf = true := by
  cases fuel with
  | zero => simp [DataW.trod] at h
  | succ m =>
    simp only [DataW.trod, ht] at h
    split at h <;> simp_all

/-- A list that came in: its numbers, its room. -/
structure CameF (w : World) (a : Option Addr) (n c : Nat) (xs : List Nat) : Prop where
  len : n = xs.length
  cap : n ≤ c
  wf : W64 xs
  rd : Fs w.heap.size w a xs
  nil : a = none → c = 0

theorem add_noneF (b off i : Nat) : (⟨b, off, none⟩ : Addr).add i = ⟨b, off + i, none⟩ := by unfold Addr.add; split <;> simp_all

def numF {H : Type} (y : DataW H × List MemPlace) : Nat := match y.1 with | .lit (.float _ n) => n | _ => 0

theorem Tryz.cellsF : Tryz.prog.cellsOf 25 = 1 := by kernel_rfl
theorem Tryz.bytesF : Tryz.prog.bytesOf 25 = 8 := by kernel_rfl

theorem cameF_of {H : Type} {enc : TypeId × Value → H} {W : World} {a : Option Addr} {n c : Nat} {d : DataW H} {p : List MemPlace} (h : DataW.Trod enc Tryz.prog W 0 (fun _ => true) true 22 (.slice a n c) d p) :
    ∃ xs, CameF W a n c xs ∧ ((d = .nil ∧ c = 0) ∨ ∃ elems spare : List (DataW H), d = .slice elems spare ∧ elems.length + spare.length = c) := by
  obtain ⟨fuel, hf⟩ := h
  rcases DataW.trod_slice Tryz.underlying22 hf with ⟨hcs, hx⟩ | ⟨x, l, cp, elems, rest, m, _, hcs, hx, hb, hl, hm, hlen, hel, hsp, hns⟩
  · simp [Value.cells] at hcs
    obtain ⟨rfl, rfl, rfl⟩ := hcs
    exact ⟨[], ⟨rfl, Nat.le_refl _, (fun x hx => by cases hx), (fun h => absurd rfl h), fun _ => rfl⟩, .inl ⟨(Prod.mk.inj hx).1, rfl⟩⟩
  · simp [Value.cells] at hcs
    obtain ⟨rfl, rfl, rfl⟩ := hcs
    have each : ∀ i y, i < n → elems[i]? = some y → y = (.lit (.float .f64 (numF y)), []) ∧ (Lit.float .f64 (numF y)).wf = true ∧ W.cell? (x.add i) = some (.float .f64 (numF y)) := by
      intro i y hi hy
      have hb' := hel i hi
      rw [hy, Tryz.cellsF, Nat.mul_one, Option.bind_eq_some_iff] at hb'
      obtain ⟨cs', hcs, hy'⟩ := hb'
      obtain ⟨k, rfl, rfl, hw⟩ := trodF Tryz.underlying25 hy'
      exact ⟨rfl, hw, cell_of_cells?_one hcs⟩
    refine ⟨elems.map numF, ⟨by simp [hlen], hl, ?_, ?_, fun e => by cases e⟩, .inr ⟨_, _, (Prod.mk.inj hx).1, ?_⟩⟩
    · intro y hy
      obtain ⟨z, hz, rfl⟩ := List.mem_map.1 hy
      obtain ⟨i, hi⟩ := List.getElem?_of_mem hz
      have hil := (List.getElem?_eq_some_iff.1 hi).1
      have := (each i z (by omega) hi).2.1
      exact of_decide_eq_true this
    · intro hne
      obtain ⟨b, off, spot⟩ := x
      have hn0 : 0 < n := by
        rcases Nat.eq_zero_or_pos n with h0 | h0
        · rw [h0] at hlen; have := List.eq_nil_of_length_eq_zero hlen; subst this; simp at hne
        · exact h0
      have hc0 := (each 0 (elems[0]'(by omega)) hn0 (List.getElem?_eq_getElem _)).2.2
      have hspot : spot = none := by simpa [Addr.add] using World.cell?_spot hc0
      subst hspot
      refine ⟨b, off, World.block_lt_of_cell? W _ (by simpa [Addr.add] using hc0), rfl, fun i hi => ?_⟩
      rw [List.length_map] at hi
      have hadd := add_noneF b off i
      have := (each i (elems[i]'hi) (by omega) (List.getElem?_eq_getElem _)).2.2
      rw [hadd] at this
      rw [this]
      simp [List.getD_eq_getElem?_getD, hi]
    · have hr := (hsp rfl).1
      simp only [List.length_map]
      omega

/-- The form's own reach. -/
theorem cameF_reach {H : Type} {ts : List TypeId} {ds : List (DataW H)} (h : (DataW.weightsEach Tryz.prog ts ds).all (· ≤ reachBytes) = true) {j : Nat} {d : DataW H} {c n : Nat} (ht : ts[j]? = some 22) (hd : ds[j]? = some d) (hn : n ≤ c)
    (hc : (d = .nil ∧ c = 0) ∨ ∃ elems spare : List (DataW H), d = .slice elems spare ∧ elems.length + spare.length = c) : n ≤ 17592186043904 := by
  rcases hc with ⟨_, rfl⟩ | ⟨elems, spare, rfl, hl⟩
  · omega
  · have := sized_slice h ht hd Tryz.underlying22
    rw [Tryz.bytesF, hl] at this
    simp only [reachBytes] at this
    omega

end Go.Proofs.YteoednbmhiblfaaGreatDoor

/- The document's Times: whole. -/
namespace Go.Proofs.YteoednbmhiblfaaGreatDoor
open Go.RowKit J
set_option linter.unusedVariables false
set_option maxRecDepth 20000
set_option linter.unusedSimpArgs false

theorem absSg (s : Bool) (v : Nat) : (B.sg s v).natAbs = v := by unfold B.sg; cases s <;> simp
end Go.Proofs.YteoednbmhiblfaaGreatDoor

/- What each call of the package and of the document answers, as a plain function of the numbers' bits. -/
namespace Go.Proofs.YteoednbmhiblfaaGreatDoor
open Go.RowKit J
set_option linter.unusedVariables false
set_option maxRecDepth 20000

abbrev Wd (x : Nat) : Prop := x < 18446744073709551616
theorem odd_wd : Wd oddW := by unfold Wd oddW; decide
theorem ar_wd (op : BinOp) (ho : op = .add ∨ op = .sub ∨ op = .mul) (x y : Nat) : Wd (arW op x y) := by
  unfold arW
  cases h : floatBits op .f64 x y with
  | none => exact odd_wd
  | some z => exact (bits_fin ho h).2
def plW (x y : Nat) : Nat := arW .add x y
def miW (x y : Nat) : Nat := arW .sub x y
theorem pl_wd (x y : Nat) : Wd (plW x y) := ar_wd .add (.inl rfl) x y
theorem mi_wd (x y : Nat) : Wd (miW x y) := ar_wd .sub (.inr (.inl rfl)) x y
def sumP (a b : Nat) : Nat × Nat := (plW a b, plW (miW a (miW (plW a b) (miW (plW a b) a))) (miW b (miW (plW a b) a)))
end Go.Proofs.YteoednbmhiblfaaGreatDoor

/- Steps of finite numbers by their values (whole numbers of units of 2^-1074): what is rounded is the nearest. -/
namespace Go.Proofs.YteoednbmhiblfaaGreatDoor
open Go.RowKit J
set_option linter.unusedVariables false
set_option maxRecDepth 20000

/-- A finite word; its value. -/
abbrev finW (x : Nat) : Prop := magW x < 9218868437227405312
def fvW (x : Nat) : Int := B.sg (negW x) (vK (magW x))
/-- TwoP to the power of 1022, in those units: 2^2096. -/
def EQ : Nat := 2096
theorem exQ : ∃ q : Nat, q = 2 ^ EQ := ⟨_, rfl⟩
noncomputable def QQ : Nat := Classical.choose exQ
theorem Q_eq : QQ = 2 ^ EQ := Classical.choose_spec exQ
theorem Q_pos : 0 < QQ := by rw [Q_eq]; exact Nat.two_pow_pos _

theorem sg_abs (s : Bool) (v : Nat) : (B.sg s v).natAbs = v := absSg s v
theorem vK_F (K : Nat) : ∃ m k : Nat, vK K = m * 2 ^ k ∧ m ≤ 9007199254740992 := by
  show ∃ m k, B.val Ieee.double K = m * 2 ^ k ∧ m ≤ 9007199254740992
  unfold B.val
  rw [B.dBin]
  split
  · exact ⟨K, 0, by simp, by omega⟩
  · exact ⟨_, _, rfl, by omega⟩
theorem fv_F (x : Nat) : IsF (fvW x) := by
  obtain ⟨m, k, h1, h2⟩ := vK_F (magW x)
  unfold fvW B.sg
  rw [h1]
  cases negW x
  · exact ⟨(m : Int), k, by simp, by omega, by omega⟩
  · exact ⟨-(m : Int), k, by simp [Int.neg_mul], by omega, by omega⟩
theorem F_vK {f : Int} (h : IsF f) : ∃ L, vK L = f.natAbs := by
  by_cases hs : f.natAbs ≤ 9007199254740992
  · refine ⟨f.natAbs, ?_⟩
    have := vK_word 0 f.natAbs (.inl rfl) hs
    simpa using this
  · obtain ⟨k, h1, h2, h3⟩ := h.placed
    have h2' : 2 ^ (52 + k) ≤ f.natAbs := by
      rcases h2 with rfl | h2
      · omega
      · exact h2
    obtain ⟨q, hq⟩ := h3
    have hf : f.natAbs = q.natAbs * 2 ^ k := by rw [hq, Int.natAbs_mul, natAbs_p2, Nat.mul_comm]
    rw [hf] at h1 h2' ⊢
    rw [Nat.pow_add] at h1 h2'
    have a1 := Nat.lt_of_mul_lt_mul_right h1
    have a2 := Nat.le_of_mul_le_mul_right h2' (Nat.two_pow_pos _)
    exact ⟨_, vK_word k q.natAbs (.inr (by omega)) (by omega)⟩

/-- The nearest rung is the nearest. -/
theorem ne_near {R V L : Nat} (h : NE R V 1) : ((vK R : Int) - V).natAbs ≤ ((vK L : Int) - V).natAbs := by
  have u : 2 * V ≤ vK R + vK (R + 1) := by have := h.up; rw [Nat.mul_one] at this; exact this
  rcases Nat.lt_trichotomy L R with c | c | c
  · have d : vK (R - 1) + vK R ≤ 2 * V := by have := h.dn (by omega); rw [Nat.mul_one] at this; exact this
    have m1 : vK L ≤ vK (R - 1) := vmono (by omega)
    have m2 : vK (R - 1) < vK R := vK_lt.2 (by omega)
    omega
  · rw [c]; omega
  · have m1 : vK (R + 1) ≤ vK L := vmono (by omega)
    have m2 : vK R < vK (R + 1) := vK_lt.2 (by omega)
    omega
theorem ne_rn {R : Nat} {T : Int} (h : NE R T.natAbs 1) {s : Bool} (hs : T ≠ 0 → s = decide (T < 0)) : IsRn T (B.sg s (vK R)) := by
  have hF : IsF (B.sg s (vK R)) := by
    obtain ⟨m, k, h1, h2⟩ := vK_F R
    unfold B.sg
    rw [h1]
    cases s
    · exact ⟨(m : Int), k, by simp, by omega, by omega⟩
    · exact ⟨-(m : Int), k, by simp [Int.neg_mul], by omega, by omega⟩
  refine ⟨hF, fun f hf => ?_⟩
  obtain ⟨L, hL⟩ := F_vK hf
  have n := ne_near (L := L) h
  by_cases hT : T = 0
  · subst hT
    have : NE 0 (0 : Int).natAbs 1 := NEf.own (by decide) (by rw [B.val_zero]; rfl)
    rw [h.one this (by decide), show vK 0 = 0 from B.val_zero _]
    unfold B.sg
    cases s <;> simp
  · have e := hs hT
    unfold B.sg
    by_cases hn : T < 0
    · rw [decide_eq_true hn] at e; subst e
      simp only [if_true]
      omega
    · rw [decide_eq_false hn] at e; subst e
      simp only [Bool.false_eq_true, if_false]
      omega
theorem top_half (K : Nat) (h : 9218868437227405311 ≤ K) : 2 * QQ < vK K := by
  obtain ⟨c, hc⟩ : ∃ c : Nat, c = 2045 := ⟨_, rfl⟩
  have h1 := vK_word c 4503599627370496 (.inr (by omega)) (by omega)
  have h2 : c * 4503599627370496 + 4503599627370496 < K := by rw [hc]; omega
  have h3 := vK_lt.2 h2
  rw [h1] at h3
  have h4 : 2 * QQ = 4503599627370496 * 2 ^ c := by
    have a1 : EQ + 1 = 52 + c := by rw [hc]; unfold EQ; rfl
    have a2 : 2 * 2 ^ EQ = 2 ^ (EQ + 1) := by rw [Nat.pow_succ, Nat.mul_comm]
    rw [Q_eq, a2, a1, Nat.pow_add]
  omega
theorem ne_fin {R V : Nat} (h : NE R V 1) (hV : V ≤ 3 * QQ) : R < 9218868437227405312 := by
  apply Nat.lt_of_not_le; intro hh
  have d : vK (R - 1) + vK R ≤ 2 * V := by have := h.dn (by omega); rw [Nat.mul_one] at this; exact this
  have a1 := top_half (R - 1) (by omega)
  obtain ⟨c, hc⟩ : ∃ c : Nat, c = 2045 := ⟨_, rfl⟩
  have h1 := vK_word c 9007199254740992 (.inr (by omega)) (by omega)
  have h2 : c * 4503599627370496 + 9007199254740992 ≤ R := by rw [hc]; omega
  have h3 : vK (c * 4503599627370496 + 9007199254740992) ≤ vK R := vmono h2
  rw [h1] at h3
  have h4 : 4 * QQ = 9007199254740992 * 2 ^ c := by
    have a1 : EQ + 2 = 53 + c := by rw [hc]; unfold EQ; rfl
    have a2 : 4 * 2 ^ EQ = 2 ^ (EQ + 2) := by rw [Nat.pow_add, Nat.mul_comm]
    rw [Q_eq, a2, a1, Nat.pow_add]
  omega

theorem fv_wd (s : Bool) (K : Nat) (h : K < 9218868437227405312) : finW (wd64 s K) ∧ fvW (wd64 s K) = B.sg s (vK K) := by
  obtain ⟨h1, h2, _⟩ := magW_wd s K (by omega)
  unfold fvW
  rw [h1, h2]
  exact ⟨by unfold finW; rw [h1]; exact h, rfl⟩
/-- A sum. -/
theorem pl_fin {x y : Nat} (hx : Wd x) (hy : Wd y) (fx : finW x) (fy : finW y) (hT : (fvW x + fvW y).natAbs ≤ 3 * QQ) : finW (plW x y) ∧ IsRn (fvW x + fvW y) (fvW (plW x y)) := by
  obtain ⟨R, hR, hA⟩ := add_wd (negW x) (negW y) (magW x) (magW y) fx fy
  rw [← wd_of x hx, ← wd_of y hy] at hA
  have e : plW x y = wd64 (if fvW x + fvW y = 0 then negW x && negW y else decide (fvW x + fvW y < 0)) (min R 9218868437227405312) := by
    show (Ieee.double.add x y).getD oddW = _
    rw [hA]; rfl
  have hf := ne_fin hR hT
  rw [Nat.min_eq_left (by omega)] at e
  obtain ⟨k1, k2⟩ := fv_wd (if fvW x + fvW y = 0 then negW x && negW y else decide (fvW x + fvW y < 0)) R hf
  rw [e]
  refine ⟨k1, ?_⟩
  rw [k2]
  exact ne_rn (T := fvW x + fvW y) hR (fun h => if_neg h)
theorem fv_turn {y : Nat} (hy : Wd y) (fy : finW y) : finW (turnW y) ∧ fvW (turnW y) = -fvW y := by
  have hm : magW y < 9223372036854775808 := Nat.mod_lt _ (by decide)
  have e : turnW y = wd64 (!negW y) (magW y) := by rw [← turn_wd _ _ hm, ← wd_of y hy]
  rw [e]
  obtain ⟨k1, k2⟩ := fv_wd (!negW y) (magW y) fy
  refine ⟨k1, ?_⟩
  rw [k2]
  unfold fvW B.sg
  cases negW y <;> simp
/-- A difference. -/
theorem mi_fin {x y : Nat} (hx : Wd x) (hy : Wd y) (fx : finW x) (fy : finW y) (hT : (fvW x - fvW y).natAbs ≤ 3 * QQ) : finW (miW x y) ∧ IsRn (fvW x - fvW y) (fvW (miW x y)) := by
  obtain ⟨k1, k2⟩ := fv_turn hy fy
  have e : miW x y = plW x (turnW y) := sub_turn x y hy
  have := pl_fin hx (turn_lt y hy) fx k1 (by rw [k2]; rwa [Int.sub_eq_add_neg] at hT)
  rw [e, Int.sub_eq_add_neg, ← k2]
  exact this
end Go.Proofs.YteoednbmhiblfaaGreatDoor

/- P5.6 by words: Sum, Quick, Halves, Product of finite numbers. -/
namespace Go.Proofs.YteoednbmhiblfaaGreatDoor
open Go.RowKit J
set_option linter.unusedVariables false
set_option maxRecDepth 20000

theorem two_Q : 2 * QQ = 2 ^ (EQ + 1) := by rw [Q_eq, Nat.pow_succ, Nat.mul_comm]
theorem rn_2Q {V s : Int} (h : IsRn V s) (hV : V.natAbs ≤ 2 * QQ) : s.natAbs ≤ 2 * QQ := by
  rw [two_Q] at hV ⊢; exact h.abs_le hV

/-- What came of a call: two finite numbers, and their sum. -/
structure TwoP (p : Nat × Nat) (V : Int) : Prop where
  w1 : Wd p.1
  w2 : Wd p.2
  f1 : finW p.1
  f2 : finW p.2
  val : fvW p.1 + fvW p.2 = V

theorem tiny {V s : Int} {Q : Nat} (h : 4503599627370496 * 2 * (s - V).natAbs ≤ V.natAbs) (hV : V.natAbs ≤ 4 * Q) : -(Q : Int) ≤ 64 * (s - V) ∧ 64 * (s - V) ≤ Q := by omega
theorem sum_bound {A C H T G V X : Int} {Q : Nat} (t1 : -(Q : Int) ≤ 64 * (H - (A + C)) ∧ 64 * (H - (A + C)) ≤ Q) (t2 : -(Q : Int) ≤ 64 * (T - (H - A)) ∧ 64 * (T - (H - A)) ≤ Q) (t3 : -(Q : Int) ≤ 64 * (G - (H - T)) ∧ 64 * (G - (H - T)) ≤ Q)
    (e4 : 4503599627370496 * 2 * (V - (A - G)).natAbs ≤ (A - G).natAbs) (e5 : 4503599627370496 * 2 * (X - (C - T)).natAbs ≤ (C - T).natAbs) : (V + X).natAbs ≤ 3 * Q := by
  have k3 : (A - G).natAbs ≤ 4 * Q := by omega
  have k4 : (C - T).natAbs ≤ 4 * Q := by omega
  have t4 := tiny e4 k3
  have t5 := tiny e5 k4
  clear e4 e5 k3 k4
  omega
theorem sum_two {a b : Nat} (ha : Wd a) (hb : Wd b) (fa : finW a) (fb : finW b) (la : (fvW a).natAbs ≤ QQ) (lb : (fvW b).natAbs ≤ QQ) : TwoP (sumP a b) (fvW a + fvW b) := by
  have hQ := Q_pos
  obtain ⟨f1, r1⟩ := pl_fin ha hb fa fb (by omega)
  have n1 := r1.near _ (fv_F a)
  have s1 := rn_2Q r1 (by omega)
  have t1 := Aside.intro (tiny (Q := QQ) r1.rel (by omega))
  obtain ⟨f2, r2⟩ := mi_fin (pl_wd a b) ha f1 fa (by omega)
  have s2 := rn_2Q r2 (by omega)
  have t2 := Aside.intro (tiny (Q := QQ) r2.rel (by omega))
  have n2 := r2.near _ (fv_F (plW a b))
  clear n1
  obtain ⟨f3, r3⟩ := mi_fin (pl_wd a b) (mi_wd (plW a b) a) f1 f2 (by omega)
  have s3 := rn_2Q r3 (by omega)
  have t3 := Aside.intro (tiny (Q := QQ) r3.rel (by omega))
  clear n2
  obtain ⟨f4, r4⟩ := mi_fin ha (mi_wd (plW a b) (miW (plW a b) a)) fa f3 (by omega)
  obtain ⟨f5, r5⟩ := mi_fin hb (mi_wd (plW a b) a) fb f2 (by omega)
  obtain ⟨f6, r6⟩ := pl_fin (mi_wd a (miW (plW a b) (miW (plW a b) a))) (mi_wd b (miW (plW a b) a)) f4 f5 (sum_bound t1.out t2.out t3.out r4.rel r5.rel)
  exact ⟨pl_wd _ _, pl_wd _ _, f1, f6, sum_just (fv_F a) (fv_F b) r1 r2 r3 r4 r5 r6⟩

end Go.Proofs.YteoednbmhiblfaaGreatDoor

/- Rows of numbers: what with and merged do to a row, in plain terms. -/
namespace Go.Proofs.YteoednbmhiblfaaGreatDoor
open Go.RowKit
set_option linter.unusedVariables false
set_option maxRecDepth 20000
set_option linter.unusedSimpArgs false

/-- Is it a nought? -/
def noW (x : Nat) : Bool := magW x == 0
def andN (x : Nat) : List Nat := if noW x then [] else [x]
/-- The row with x in its sum. -/
def withL : List Nat → Nat → List Nat
  | [], x => andN x
  | y :: ys, x => andN (sumP x y).2 ++ withL ys (sumP x y).1
/-- The row with all of another one's in its sum. -/
def mergeL : List Nat → List Nat → List Nat
  | A, [] => A
  | A, x :: xs => mergeL (withL A x) xs
def fvL : List Nat → Int
  | [] => 0
  | x :: xs => fvW x + fvL xs
def avL : List Nat → Nat
  | [] => 0
  | x :: xs => (fvW x).natAbs + avL xs
def FinL (L : List Nat) : Prop := ∀ x ∈ L, Wd x ∧ finW x

theorem FinL.nil : FinL [] := fun x h => by simp at h
theorem FinL.head {x : Nat} {L : List Nat} (h : FinL (x :: L)) : Wd x ∧ finW x := h x (by simp)
theorem FinL.tail {x : Nat} {L : List Nat} (h : FinL (x :: L)) : FinL L := fun y hy => h y (by simp [hy])
theorem FinL.append {A B : List Nat} (h : FinL A) (k : FinL B) : FinL (A ++ B) := fun x hx => by
  rcases List.mem_append.1 hx with q | q
  · exact h x q
  · exact k x q
theorem fvL_append (A B : List Nat) : fvL (A ++ B) = fvL A + fvL B := by
  induction A with
  | nil => simp [fvL]
  | cons x A ih => simp only [List.cons_append, fvL, ih]; omega
theorem avL_append (A B : List Nat) : avL (A ++ B) = avL A + avL B := by
  induction A with
  | nil => simp [avL]
  | cons x A ih => simp only [List.cons_append, avL, ih]; omega
theorem vK_zero : vK 0 = 0 := by
  have := vK_word 0 0 (.inl rfl) (by omega)
  simpa using this
theorem fv_no {x : Nat} (h : noW x = true) : fvW x = 0 := by
  have e : magW x = 0 := by simpa [noW] using h
  unfold fvW
  rw [e, vK_zero]
  cases negW x <;> rfl
theorem andN_ok (x : Nat) (h : Wd x ∧ finW x) : FinL (andN x) ∧ fvL (andN x) = fvW x ∧ avL (andN x) ≤ (fvW x).natAbs ∧ (andN x).length ≤ 1 := by
  unfold andN
  cases hn : noW x
  · rw [if_neg (by decide)]
    refine ⟨fun y hy => ?_, by simp [fvL], by simp [avL], by simp⟩
    simp at hy; subst hy; exact h
  · rw [if_pos rfl]
    exact ⟨FinL.nil, by rw [fv_no hn]; rfl, by simp [avL], by simp⟩

/-- A step's growth: both together are at most a little greater than what was put together. -/
theorem sum_grows {a b : Nat} (ha : Wd a ∧ finW a) (hb : Wd b ∧ finW b) {G : Nat} (hab : (fvW a).natAbs + (fvW b).natAbs ≤ 4503599627370496 * G) (hG : 4503599627370496 * G ≤ QQ) :
    TwoP (sumP a b) (fvW a + fvW b) ∧ (fvW (sumP a b).1).natAbs + (fvW (sumP a b).2).natAbs ≤ (fvW a).natAbs + (fvW b).natAbs + G := by
  have t := sum_two ha.1 hb.1 ha.2 hb.2 (by omega) (by omega)
  refine ⟨t, ?_⟩
  have r := (pl_fin ha.1 hb.1 ha.2 hb.2 (by have := Q_pos; omega)).2.rel
  have e := t.val
  have e1 : (sumP a b).1 = plW a b := rfl
  rw [e1] at e ⊢
  generalize fvW (plW a b) = s at *
  generalize fvW (sumP a b).2 = l at *
  generalize fvW a = x at *
  generalize fvW b = y at *
  have e2 : s - (x + y) = -l := by omega
  rw [e2] at r
  have e3 : (-l).natAbs = l.natAbs := Int.natAbs_neg l
  rw [e3] at r
  omega

theorem with_ok (G : Nat) (hG : 4503599627370496 * G ≤ QQ) : ∀ (L : List Nat) (x : Nat), FinL L → Wd x ∧ finW x → avL L + (fvW x).natAbs + L.length * G ≤ 4503599627370496 * G →
    FinL (withL L x) ∧ fvL (withL L x) = fvL L + fvW x ∧ avL (withL L x) ≤ avL L + (fvW x).natAbs + L.length * G ∧ (withL L x).length ≤ L.length + 1 := by
  intro L
  induction L with
  | nil =>
    intro x _ hx _
    obtain ⟨h1, h2, h3, h4⟩ := andN_ok x hx
    refine ⟨h1, ?_, ?_, ?_⟩
    · show fvL (andN x) = _
      rw [h2]; simp [fvL]
    · show avL (andN x) ≤ _
      simp [avL]; omega
    · show (andN x).length ≤ _
      simp; omega
  | cons y ys ih =>
    intro x hL hx hb
    have hy := hL.head
    simp only [avL, List.length_cons] at hb
    rw [Nat.add_mul, Nat.one_mul] at hb
    obtain ⟨t, hg⟩ := sum_grows hx hy (G := G) (by omega) hG
    obtain ⟨h1, h2, h3, h4⟩ := ih (sumP x y).1 hL.tail ⟨t.w1, t.f1⟩ (by omega)
    obtain ⟨k1, k2, k3, k4⟩ := andN_ok (sumP x y).2 ⟨t.w2, t.f2⟩
    show FinL (andN (sumP x y).2 ++ withL ys (sumP x y).1) ∧ fvL (andN (sumP x y).2 ++ withL ys (sumP x y).1) = _ ∧ avL (andN (sumP x y).2 ++ withL ys (sumP x y).1) ≤ _ ∧ (andN (sumP x y).2 ++ withL ys (sumP x y).1).length ≤ _
    refine ⟨k1.append h1, ?_, ?_, ?_⟩
    · rw [fvL_append, k2, h2]
      have := t.val
      simp only [fvL]
      omega
    · rw [avL_append]
      simp only [avL, List.length_cons]
      rw [Nat.add_mul, Nat.one_mul]
      omega
    · rw [List.length_append, List.length_cons]
      omega

/-- The unit of growth: 2^926. -/
def EG : Nat := 2000
theorem exG : ∃ q : Nat, q = 2 ^ EG := ⟨_, rfl⟩
noncomputable def GG : Nat := Classical.choose exG
theorem G_eq : GG = 2 ^ EG := Classical.choose_spec exG
theorem G_Q : 4503599627370496 * GG ≤ QQ := by
  rw [G_eq, Q_eq, show (4503599627370496 : Nat) = 2 ^ 52 by decide, ← Nat.pow_add]
  exact Nat.pow_le_pow_right (by decide) (by decide)

theorem dist4 (a b c d G : Nat) : (a + b + c + d) * G = (a + c) * G + b * G + d * G := by
  rw [Nat.add_mul, Nat.add_mul, Nat.add_mul, Nat.add_mul]; omega
/-- What a row is: its sum; at most n numbers; c steps that it grew by. -/
structure Rk (L : List Nat) (V : Int) (n c : Nat) : Prop where
  fin : FinL L
  val : fvL L = V
  len : L.length ≤ n
  size : avL L ≤ (n * 17179869184 + c) * GG
theorem Rk.nil : Rk [] 0 0 0 := ⟨FinL.nil, rfl, by simp, by simp [avL]⟩
theorem Rk.with {L : List Nat} {V : Int} {n c : Nat} (h : Rk L V n c) {x : Nat} (hx : Wd x ∧ finW x) (hs : (fvW x).natAbs ≤ 17179869184 * GG) (hb : n * 17179869184 + 17179869184 + c + n ≤ 4503599627370496) :
    Rk (withL L x) (V + fvW x) (n + 1) (c + n) := by
  have e1 : L.length * GG ≤ n * GG := Nat.mul_le_mul_right _ h.len
  have e2 : (n * 17179869184 + 17179869184 + c + n) * GG ≤ 4503599627370496 * GG := Nat.mul_le_mul_right _ hb
  have e3 : (n * 17179869184 + 17179869184 + c + n) * GG = (n * 17179869184 + c) * GG + 17179869184 * GG + n * GG := dist4 _ _ _ _ _
  have hsz := h.size
  obtain ⟨h1, h2, h3, h4⟩ := with_ok GG G_Q L x h.fin hx (by omega)
  refine ⟨h1, by rw [h2, h.val], by have := h.len; omega, ?_⟩
  have e4 : ((n + 1) * 17179869184 + (c + n)) * GG = (n * 17179869184 + c) * GG + 17179869184 * GG + n * GG := by rw [Nat.add_mul n 1, Nat.one_mul, ← Nat.add_assoc]; exact dist4 _ _ _ _ _
  rw [e4]
  omega
end Go.Proofs.YteoednbmhiblfaaGreatDoor

/- The program's row: and, with. -/
namespace Go.Proofs.YteoednbmhiblfaaGreatDoor
open Go.RowKit
set_option linter.unusedVariables false
set_option maxRecDepth 20000
set_option linter.unusedSimpArgs false

def Fw (n : Nat) : Value := .float .f64 n
/-- A block of numbers. -/
def Fb (w : World) (g : Nat) (C : List Value) : Prop := w.heap[g]? = some (.cells C.toArray 25 (0, 0))
theorem Fb.lt {w : World} {g : Nat} {C : List Value} (h : Fb w g C) : g < w.heap.size := (Array.getElem?_eq_some_iff.1 h).1
theorem Fb.cell {w : World} {g : Nat} {C : List Value} (h : Fb w g C) (i : Nat) (v : Value) (hi : C[i]? = some v) : w.cell? ⟨g, i, none⟩ = some v := by
  unfold World.cell?
  rw [h]
  simpa using hi
theorem Fb.of_block {w w' : World} {g : Nat} {C : List Value} (h : Fb w g C) (hb : w'.heap[g]? = w.heap[g]?) : Fb w' g C := by unfold Fb at h ⊢; rw [hb]; exact h
theorem Fb.below {w w' : World} {g : Nat} {C : List Value} (h : Fb w g C) (hb : Below w.heap.size w w') : Fb w' g C := h.of_block (hb.block g h.lt)
theorem Fb.alloc {w : World} {g : Nat} {C : List Value} (h : Fb w g C) (o : Obj) : Fb (w.alloc o) g C := h.of_block (Below.heap_alloc _ _ _ h.lt)
/-- A row of numbers of one's own. -/
def Fr (lo : Nat) (w : World) (v : Value) (L : List Nat) : Prop := w.ownsRow lo 25 1 v L.length (L.map Fw)
theorem Fr.nil (lo : Nat) (w : World) : Fr lo w (.slice none 0 0) [] := World.ownsRow_nil w lo 25 1
theorem Fr.of_block {lo : Nat} {w : World} {g : Nat} {C : List Value} (h : Fb w g C) (hlo : lo ≤ g) (hm : C.length ≤ maxLen) (K : List Nat) (hk : K.length ≤ C.length) (hK : C.take K.length = K.map Fw) : Fr lo w (.slice (some ⟨g, 0, none⟩) K.length C.length) K := by
  refine ⟨by simp, .inr ⟨g, C.length, _, rfl, hlo, h, hk, hm, by simp, ?_⟩⟩
  simpa using hK
theorem eqz8 {x : Nat} (h : Wd x ∧ finW x) : (FloatKind.f64.format.order x 0 == some .eq) = noW x := by
  have e := eq64 (negW x) false (magW x) 0 (Nat.le_of_lt h.2) (by decide)
  rw [← wd_of x h.1, show wd64 false 0 = 0 from rfl] at e
  rw [e]
  unfold noW sK
  rw [Bool.eq_iff_iff]
  simp only [decide_eq_true_eq, beq_iff_eq]
  cases negW x <;> simp <;> omega

/-- What comes of a block when a number is put at a place in it. -/
def putAt (C : List Value) (k x : Nat) : List Value := C.take k ++ (andN x).map Fw ++ C.drop (k + (andN x).length)
theorem putAt_len (C : List Value) (k x : Nat) (hk : k < C.length) : (putAt C k x).length = C.length := by
  unfold putAt andN
  split <;> simp <;> omega

end Go.Proofs.YteoednbmhiblfaaGreatDoor

/- The program's row: with. -/
namespace Go.Proofs.YteoednbmhiblfaaGreatDoor
open Go.RowKit
set_option linter.unusedVariables false
set_option maxRecDepth 20000
set_option linter.unusedSimpArgs false
attribute [local go_sem] st_float
/-- What stands while with walks. -/
structure Wi (g n cap : Nat) (A : List Nat) (x0 : Nat) (w : World) (i k x : Nat) (C : List Value) (wr : World) : Prop where
  blk : Fb wr g C
  len : C.length = cap
  ki : k ≤ i
  same : ∀ j, i ≤ j → j < n → C[j]? = some (Fw (A.getD j 0))
  done : ∃ K : List Nat, K.length = k ∧ C.take k = K.map Fw ∧ K ++ withL (A.drop i) x = withL A x0
  xok : Wd x ∧ finW x
  bound : avL (A.drop i) + (fvW x).natAbs + (A.drop i).length * GG ≤ 4503599627370496 * GG
  but : But g w wr
theorem get_putAt (C : List Value) (k x j : Nat) (hk : k < C.length) (hj : k + (andN x).length ≤ j) : (putAt C k x)[j]? = C[j]? := by
  unfold putAt
  have e : (C.take k ++ (andN x).map Fw).length = k + (andN x).length := by simp; omega
  rw [List.getElem?_append_right (by omega), e, List.getElem?_drop]
  congr 1
  omega
theorem drop_cons8 (A : List Nat) (i : Nat) (hi : i < A.length) : A.drop i = A.getD i 0 :: A.drop (i + 1) := by
  rw [List.getD_eq_getElem?_getD, List.getElem?_eq_getElem hi]
  exact List.drop_eq_getElem_cons hi
theorem FinL.drop {A : List Nat} (h : FinL A) (i : Nat) : FinL (A.drop i) := fun x hx => h x (List.mem_of_mem_drop hx)
theorem FinL.get {A : List Nat} (h : FinL A) (i : Nat) (hi : i < A.length) : Wd (A.getD i 0) ∧ finW (A.getD i 0) := by
  rw [List.getD_eq_getElem?_getD, List.getElem?_eq_getElem hi]
  exact h _ (List.getElem_mem hi)
theorem Wi.two {g n cap : Nat} {A : List Nat} {x0 : Nat} {w : World} {i k x : Nat} {C : List Value} {wr : World} (h : Wi g n cap A x0 w i k x C wr) (hA : FinL A) (hn : n = A.length) (hi : i < n) :
    TwoP (sumP x (A.getD i 0)) (fvW x + fvW (A.getD i 0)) ∧ avL (A.drop (i + 1)) + (fvW (sumP x (A.getD i 0)).1).natAbs + (A.drop (i + 1)).length * GG ≤ 4503599627370496 * GG := by
  have hb := h.bound
  rw [drop_cons8 A i (by omega)] at hb
  simp only [avL, List.length_cons] at hb
  rw [Nat.add_mul, Nat.one_mul] at hb
  obtain ⟨t, hg⟩ := sum_grows h.xok (hA.get i (by omega)) (G := GG) (by omega) G_Q
  exact ⟨t, by omega⟩
theorem Wi.next {g n cap : Nat} {A : List Nat} {x0 : Nat} {w : World} {i k x : Nat} {C : List Value} {wr w' : World} (h : Wi g n cap A x0 w i k x C wr) (hA : FinL A) (hn : n = A.length) (hnc : n ≤ cap) (hi : i < n)
    (h1 : Fb w' g (putAt C k (sumP x (A.getD i 0)).2)) (h2 : But g w w') :
    Wi g n cap A x0 w (i + 1) (k + (andN (sumP x (A.getD i 0)).2).length) (sumP x (A.getD i 0)).1 (putAt C k (sumP x (A.getD i 0)).2) w' := by
  obtain ⟨t, hb⟩ := h.two hA hn hi
  have hl := (andN_ok (sumP x (A.getD i 0)).2 ⟨t.w2, t.f2⟩).2.2.2
  have hk := h.ki
  have hlen := h.len
  refine ⟨h1, by rw [putAt_len _ _ _ (by omega)]; exact h.len, by omega, fun j hj hjn => ?_, ?_, ⟨t.w1, t.f1⟩, hb, h2⟩
  · rw [get_putAt _ _ _ _ (by omega) (by omega)]
    exact h.same j (by omega) hjn
  · obtain ⟨K, k1, k2, k3⟩ := h.done
    refine ⟨K ++ andN (sumP x (A.getD i 0)).2, by rw [List.length_append, k1], ?_, ?_⟩
    · unfold putAt
      have e : (C.take k ++ (andN (sumP x (A.getD i 0)).2).map Fw).length = k + (andN (sumP x (A.getD i 0)).2).length := by simp; omega
      rw [← e, List.take_left, List.map_append, k2]
    · rw [← k3, drop_cons8 A i (by omega)]
      show _ = K ++ (andN (sumP x (A.getD i 0)).2 ++ withL (A.drop (i + 1)) (sumP x (A.getD i 0)).1)
      rw [List.append_assoc]

end Go.Proofs.YteoednbmhiblfaaGreatDoor

/- The program's row: slices.Clone, merged. -/
namespace Go.Proofs.YteoednbmhiblfaaGreatDoor
open Go.RowKit
set_option linter.unusedVariables false
set_option maxRecDepth 20000
set_option linter.unusedSimpArgs false

theorem Fr.keep {lo : Nat} {w w' : World} {v : Value} {L : List Nat} {row : Option Nat} (h : Fr lo w v L) (hg : w.grownBy w' row) (hr : ∀ g, v.ownBlock = some g → row ≠ some g) : Fr lo w' v L := by
  refine ⟨h.1, ?_⟩
  rcases h.2 with hn | ⟨g, cap, cur, rfl, hlo, hgc, rest⟩
  · exact .inl hn
  · refine .inr ⟨g, cap, cur, rfl, hlo, ?_, rest⟩
    rw [hg.block g (Array.getElem?_eq_some_iff.1 hgc).1 (fun e => hr g rfl e.symm)]; exact hgc
theorem Fr.below {lo : Nat} {w w' : World} {v : Value} {L : List Nat} (h : Fr lo w v L) (hb : Below w.heap.size w w') : Fr lo w' v L := by
  refine ⟨h.1, ?_⟩
  rcases h.2 with hn | ⟨g, cap, cur, rfl, hlo, hgc, rest⟩
  · exact .inl hn
  · refine .inr ⟨g, cap, cur, rfl, hlo, ?_, rest⟩
    rw [hb.block g (Array.getElem?_eq_some_iff.1 hgc).1]; exact hgc
theorem Fr.lt {lo : Nat} {w : World} {v : Value} {L : List Nat} (h : Fr lo w v L) {g : Nat} (hv : v.ownBlock = some g) : lo ≤ g ∧ g < w.heap.size := by
  rcases h.2 with ⟨rfl, hn⟩ | ⟨g', cap, cur, rfl, hlo, hgc, rest⟩
  · simp [Value.ownBlock] at hv
  · simp [Value.ownBlock] at hv
    subst hv
    exact ⟨hlo, (Array.getElem?_eq_some_iff.1 hgc).1⟩
theorem Fr.mono {lo lo' : Nat} {w : World} {v : Value} {L : List Nat} (h : Fr lo w v L) (hl : lo' ≤ lo) : Fr lo' w v L := by
  refine ⟨h.1, ?_⟩
  rcases h.2 with hn | ⟨g, cap, cur, rfl, hlo, rest⟩
  · exact .inl hn
  · exact .inr ⟨g, cap, cur, rfl, by omega, rest⟩
theorem Fr.shape {lo : Nat} {w : World} {v : Value} {L : List Nat} (h : Fr lo w v L) : (v = .slice none 0 0 ∧ L = []) ∨ ∃ g cap, v = .slice (some ⟨g, 0, none⟩) L.length cap ∧ lo ≤ g ∧ g < w.heap.size ∧ L.length ≤ cap ∧ cap ≤ maxLen ∧ ∀ i, i < L.length → w.cell? ⟨g, i, none⟩ = some (.float .f64 (L.getD i 0)) := by
  have h' := h
  rcases h.2 with ⟨rfl, hn⟩ | ⟨g, cap, cur, rfl, hlo, hg, hn, hm, hs, ht⟩
  · exact .inl ⟨rfl, List.eq_nil_of_length_eq_zero hn⟩
  · refine .inr ⟨g, cap, rfl, hlo, (Array.getElem?_eq_some_iff.1 hg).1, hn, hm, fun i hi => ?_⟩
    have := World.ownsRow.cellAt h' i (by omega)
    rw [this, List.getElem?_map, List.getElem?_eq_getElem hi, List.getD_eq_getElem?_getD, List.getElem?_eq_getElem hi]
    rfl

/-- What stands while merged walks. -/
structure Mi (lo : Nat) (w : World) (v cv rv : Value) (A B : List Nat) (i : Nat) (R : List Nat) (wr : World) : Prop where
  row : Fr lo wr rv R
  copy : Fr w.heap.size wr cv B
  apart : ∀ g, cv.ownBlock = some g → rv.ownBlock ≠ some g
  own : rv.ownBlock = v.ownBlock ∨ ∃ g, rv.ownBlock = some g ∧ w.heap.size ≤ g
  grown : w.grownBy wr v.ownBlock
  val : mergeL R (B.drop i) = mergeL A B
  fin : FinL R
  len : R.length + (B.drop i).length ≤ A.length + B.length
  bound : avL R + avL (B.drop i) + (B.drop i).length * (R.length + (B.drop i).length) * GG ≤ 4503599627370496 * GG
theorem Mi.room {lo : Nat} {w : World} {v cv rv : Value} {A B : List Nat} {i : Nat} {R : List Nat} {wr : World} (h : Mi lo w v cv rv A B i R wr) (hi : i < B.length) : avL R + (fvW (B.getD i 0)).natAbs + R.length * GG ≤ 4503599627370496 * GG := by
  have hb := h.bound
  rw [drop_cons8 B i hi] at hb
  simp only [avL, List.length_cons] at hb
  have e : ((B.drop (i + 1)).length + 1) * (R.length + ((B.drop (i + 1)).length + 1)) * GG = R.length * GG + (B.drop (i + 1)).length * (R.length + 1 + (B.drop (i + 1)).length) * GG + ((B.drop (i + 1)).length + 1) * GG := by
    rw [← Nat.add_mul, ← Nat.add_mul]; congr 1; grind
  rw [e] at hb
  omega
theorem Mi.next {lo : Nat} {w : World} {v cv rv rv' : Value} {A B : List Nat} {i : Nat} {R : List Nat} {wr w' : World} (h : Mi lo w v cv rv A B i R wr) (hB : FinL B) (hi : i < B.length)
    (h1 : Fr lo w' rv' (withL R (B.getD i 0))) (h2 : wr.grownBy w' rv.ownBlock) (h3 : rv'.ownBlock = rv.ownBlock ∨ ∃ g, rv'.ownBlock = some g ∧ wr.heap.size ≤ g) :
    Mi lo w v cv rv' A B (i + 1) (withL R (B.getD i 0)) w' := by
  have hr := h.room hi
  obtain ⟨k1, k2, k3, k4⟩ := with_ok GG G_Q R (B.getD i 0) h.fin (hB.get i hi) hr
  have hb := h.bound
  have hl := h.len
  have hval := h.val
  rw [drop_cons8 B i hi] at hb hl hval
  simp only [avL, List.length_cons] at hb hl
  refine ⟨h1, h.copy.keep h2 (fun g hg => h.apart g hg), fun g hg => ?_, ?_, ?_, hval, k1, by omega, ?_⟩
  · rcases h3 with e | ⟨g', e, hg'⟩
    · rw [e]; exact h.apart g hg
    · rw [e]
      intro e2
      have := (h.copy.lt hg).2
      injection e2 with e3
      omega
  · rcases h3 with e | ⟨g', e, hg'⟩
    · rw [e]; exact h.own
    · exact .inr ⟨g', e, Nat.le_trans h.grown.size hg'⟩
  · refine ⟨h2.os.trans h.grown.os, h2.tape.trans h.grown.tape, h2.output.trans h.grown.output, Nat.le_trans h.grown.size h2.size, fun k hk hne => ?_⟩
    rw [h2.block k (Nat.lt_of_lt_of_le hk h.grown.size) ?_]
    · exact h.grown.block k hk hne
    · rcases h.own with e | ⟨g', e, hg'⟩
      · rw [e]; exact hne
      · rw [e]; intro e2; injection e2 with e3; omega
  · have e : ((B.drop (i + 1)).length + 1) * (R.length + ((B.drop (i + 1)).length + 1)) * GG = R.length * GG + (B.drop (i + 1)).length * (R.length + 1 + (B.drop (i + 1)).length) * GG + ((B.drop (i + 1)).length + 1) * GG := by
      rw [← Nat.add_mul, ← Nat.add_mul]; congr 1; grind
    rw [e] at hb
    have e2 : (B.drop (i + 1)).length * ((withL R (B.getD i 0)).length + (B.drop (i + 1)).length) * GG ≤ (B.drop (i + 1)).length * (R.length + 1 + (B.drop (i + 1)).length) * GG := Nat.mul_le_mul_right _ (Nat.mul_le_mul_left _ (by omega))
    omega

end Go.Proofs.YteoednbmhiblfaaGreatDoor

/- Numbers' forms against powers of two, and against one another. -/
namespace Go.Proofs.YteoednbmhiblfaaGreatDoor
open Go.RowKit J
set_option linter.unusedVariables false
set_option maxRecDepth 20000
set_option linter.unusedSimpArgs false

/-- A value's size. -/
theorem fo_abs {n : Bool} {X : Nat} {e z L H : Int} (h : Fo (some (n, X, e)) z L H) : X * 2 ^ (e - -2097152).toNat = z.natAbs * SS := by
  obtain ⟨F, hv, _⟩ := h.frm
  unfold zv at hv
  simp only at hv
  have := congrArg Int.natAbs hv
  rw [Int.natAbs_mul, Int.natAbs_mul, Int.natAbs_natCast, Int.natAbs_natCast] at this
  rw [← this]
  unfold sg1; cases n <;> simp
theorem fo_zero {n : Bool} {X : Nat} {e z L H : Int} (h : Fo (some (n, X, e)) z L H) : X = 0 ↔ z = 0 := by
  have a := fo_abs h
  have hS := S_pos
  constructor
  · intro hX
    rw [hX, Nat.zero_mul] at a
    rcases Nat.mul_eq_zero.1 a.symm with q | q <;> omega
  · intro hz
    rw [hz, Int.natAbs_zero, Nat.zero_mul] at a
    rcases Nat.mul_eq_zero.1 a with q | q
    · exact q
    · have := Nat.two_pow_pos (e - -2097152).toNat; omega
theorem cmpZ_scale (x y : Int) (k : Nat) (hk : 0 < k) : cmpZ (x * (k : Int)) (y * (k : Int)) = cmpZ x y := by
  have hlt : ∀ a b : Int, a * (k : Int) < b * (k : Int) ↔ a < b := fun a b => ⟨fun h => Int.lt_of_mul_lt_mul_right h (by omega), fun h => Int.mul_lt_mul_of_pos_right h (by omega)⟩
  unfold cmpZ
  simp only [hlt]
/-- TwoP forms. -/
theorem cmp_fo {n m : Bool} {X Y : Nat} {e f x y L H L' H' : Int} (h1 : Fo (some (n, X, e)) x L H) (h2 : Fo (some (m, Y, f)) y L' H') : cmpV n X e m Y f = cmpZ x y := by
  obtain ⟨F, hv, _⟩ := h1.frm
  obtain ⟨G, hw, _⟩ := h2.frm
  have d1 := F.down
  have d2 := G.down
  rw [cmpV_z n X e m Y f (-2097152) (by omega) (by omega)]
  have a1 : sg1 n * ((X * 2 ^ (e - -2097152).toNat : Nat) : Int) = x * (SS : Int) := hv
  have a2 : sg1 m * ((Y * 2 ^ (f - -2097152).toNat : Nat) : Int) = y * (SS : Int) := hw
  rw [a1, a2, cmpZ_scale x y SS S_pos]
end Go.Proofs.YteoednbmhiblfaaGreatDoor

/- Exact sums as dyads, by value. -/
namespace Go.Proofs.YteoednbmhiblfaaGreatDoor
open Go.RowKit
set_option linter.unusedVariables false
set_option maxRecDepth 20000
set_option linter.unusedSimpArgs false

/-- The form of V times 2^-1074. -/
def fo8 (V : Int) : Option (Bool × Nat × Int) := mkS (decide (V < 0)) V.natAbs (-1074)
theorem sg1_abs (V : Int) : sg1 (decide (V < 0)) * (V.natAbs : Int) = V := by
  unfold sg1
  by_cases h : V < 0
  · rw [decide_eq_true h, if_pos rfl]; omega
  · rw [decide_eq_false h, if_neg (by decide)]; omega
theorem fo8_fo (V : Int) (m : Nat) (hm : m ≤ 200000) (hV : V.natAbs < 2 ^ m) : Fo (fo8 V) (V * (UU : Int)) (-1074) ((m : Int) - 1074) := by
  by_cases h0 : V = 0
  · subst h0
    refine ⟨⟨false, 0, 0, ?_, ?_, ?_, .inl rfl⟩⟩
    · unfold fo8; exact mkS_zero _ _
    · exact mkS_frm (mkS_zero false 0)
    · rw [zv_zero _ rfl]; simp
  · obtain ⟨X, e, h1, h2, h3, h4⟩ := mkS_sz (decide (V < 0)) V.natAbs (-1074) (-1074) ((m : Int) - 1074) (by omega) (by omega) (by have := blLe hV; omega) (by omega) (by omega) (by omega)
    refine ⟨⟨_, X, e, h1, mkS_frm h1, ?_, .inr ⟨h3, h4⟩⟩⟩
    rw [zv_mkS h1 (-2097152) (.inr (by omega))]
    have e1 : (2 : Nat) ^ ((-1074 : Int) - -2097152).toNat = UU * SS := US _ (by decide)
    rw [e1, Int.natCast_mul, Int.natCast_mul, ← Int.mul_assoc, sg1_abs, Int.mul_assoc]
theorem fo8_one {o : Option (Bool × Nat × Int)} {V L H : Int} (h : Fo o (V * (UU : Int)) L H) (m : Nat) (hm : m ≤ 200000) (hV : V.natAbs < 2 ^ m) : o = fo8 V := by
  obtain ⟨n, X, e, rfl, F1, z1, _⟩ := h.ex
  obtain ⟨n', X', e', h2, F2, z2, _⟩ := (fo8_fo V m hm hV).ex
  rw [h2]
  obtain ⟨rfl, rfl, rfl⟩ := zv_inj F1 F2 (-2097152) (by omega) (by rw [z1, z2])
  rfl
theorem fo8_frm (V : Int) (m : Nat) (hm : m ≤ 200000) (hV : V.natAbs < 2 ^ m) : ∃ n X e, fo8 V = some (n, X, e) ∧ Frm n X e ∧ (X = 0 ↔ V = 0) ∧ (V ≠ 0 → n = decide (V < 0)) ∧ -1074 ≤ e ∧ e ≤ 200000 := by
  have h := fo8_fo V m hm hV
  obtain ⟨n, X, e, h1, F, z, hb⟩ := h.ex
  have hz := fo_zero (h1 ▸ h)
  have hU := U_pos
  have hz2 : X = 0 ↔ V = 0 := by
    rw [hz]
    constructor
    · intro q
      rcases Int.mul_eq_zero.1 q with q | q
      · exact q
      · omega
    · intro q; rw [q]; simp
  refine ⟨n, X, e, h1, F, hz2, fun hV0 => ?_, ?_⟩
  · have := (round_fo (h1 ▸ h) (fun q => by rcases Int.mul_eq_zero.1 q with q | q; exact hV0 q; omega)).2.1
    rw [this, decide_eq_decide]
    constructor
    · intro q
      by_cases q2 : V < 0
      · exact q2
      · have := Int.mul_nonneg (show 0 ≤ V by omega) (show (0 : Int) ≤ UU by omega); omega
    · intro q; exact Int.mul_neg_of_neg_of_pos q (by omega)
  · rcases hb with q | ⟨q1, q2⟩
    · rcases F.odd with q3 | ⟨_, _, q3⟩
      · omega
      · omega
    · constructor
      · exact q1
      · omega
/-- Sums of forms. -/
theorem fo8_add (V U : Int) (m : Nat) (hm : m ≤ 100000) (hV : V.natAbs < 2 ^ m) (hU : U.natAbs < 2 ^ m) : addD (fo8 V) (fo8 U) = fo8 (V + U) := by
  have h1 := fo8_fo V m (by omega) hV
  have h2 := fo8_fo U m (by omega) hU
  have h3 := h1.add h2 (by omega) (by omega) (by omega)
  rw [← Int.add_mul] at h3
  have : 2 ^ (m + 1) = 2 * 2 ^ m := by rw [Nat.pow_succ, Nat.mul_comm]
  exact fo8_one h3 (m + 1) (by omega) (by omega)
theorem fo8_self (V : Int) (m : Nat) (hm : m ≤ 200000) (hV : V.natAbs < 2 ^ m) : mkS (dN (fo8 V)) (dX (fo8 V)) (dE (fo8 V)) = fo8 V := by
  obtain ⟨n, X, e, h1, F, _⟩ := fo8_frm V m hm hV
  rw [h1]
  exact mkS_idem F
theorem fo8_er (V : Int) (m : Nat) (hm : m ≤ 200000) (hV : V.natAbs < 2 ^ m) : erS (fo8 V) = 0 := by
  obtain ⟨n, X, e, h1, F, _⟩ := fo8_frm V m hm hV
  rw [h1]
  rfl
theorem fo8_neg (V : Int) (m : Nat) (hm : m ≤ 200000) (hV : V.natAbs < 2 ^ m) : mkS (!(dN (fo8 V))) (dX (fo8 V)) (dE (fo8 V)) = fo8 (-V) := by
  obtain ⟨n, X, e, h1, F, h2, h3, h4⟩ := fo8_frm V m hm hV
  have h := fo8_fo V m hm hV
  rw [h1] at h ⊢
  obtain ⟨_, hz, hb⟩ := h.frm
  show mkS (!n) X e = _
  by_cases hX : X = 0
  · have : V = 0 := h2.1 hX
    subst this
    rw [hX]
    unfold fo8
    simp only [Int.neg_zero, Int.natAbs_zero]
    rw [mkS_zero, mkS_zero]
  · have ho : X % 2 = 1 := by rcases F.odd with q | q; exact q; exact absurd q.1 hX
    have hs : mkS (!n) X e = some (!n, X, e) := by
      rw [mkS_odd _ _ _ ho, if_neg (by have := F.size; have := F.up; have := F.down; omega)]
    refine fo8_one (L := -1074) (H := (m : Int) - 1074) ⟨⟨!n, X, e, hs, mkS_frm hs, ?_, hb⟩⟩ m hm (by rw [Int.natAbs_neg]; exact hV)
    have : zv (-2097152) (!n, X, e) = -zv (-2097152) (n, X, e) := by
      unfold zv
      simp only
      rw [sg1_not, Int.neg_mul]
    rw [this, hz, Int.neg_mul, Int.neg_mul]
/-- What Of says of a number. -/
theorem top_fv {x : Nat} (hx : Wd x) (fx : finW x) (m : Nat) (hm : m = 2098) : (fvW x).natAbs < 2 ^ m := by
  unfold fvW
  rw [sg_abs]
  have := top_v (magW x) fx 2045 rfl
  obtain ⟨a, ha⟩ : ∃ a, a = 2045 := ⟨_, rfl⟩
  have h2 := top_v (magW x) fx a ha
  rw [show m = 53 + a by omega, Nat.pow_add]
  exact h2
theorem of_fo8 {x : Nat} (hx : Wd x) (fx : finW x) : ofK (negW x) (magW x) = fo8 (fvW x) := by
  obtain ⟨n, X, e, h1, h2, _⟩ := of_fo (negW x) (magW x) fx
  rw [h1]
  exact fo8_one h2 2098 (by omega) (top_fv hx fx 2098 rfl)
end Go.Proofs.YteoednbmhiblfaaGreatDoor

/- The program's row: exact. -/
namespace Go.Proofs.YteoednbmhiblfaaGreatDoor
open Go.RowKit
set_option linter.unusedVariables false
set_option maxRecDepth 20000
set_option linter.unusedSimpArgs false

theorem fo8_len (V : Int) (m : Nat) (hm : m ≤ 200000) (hV : V.natAbs < 2 ^ m) : (ws (dX (fo8 V))).length ≤ 8192 ∧ -9223372036854775808 ≤ dE (fo8 V) ∧ dE (fo8 V) ≤ 9223372036854775807 ∧ -1074 ≤ dE (fo8 V) ∧ dE (fo8 V) ≤ 200000 := by
  obtain ⟨n, X, e, h1, F, _, _, h4, h5⟩ := fo8_frm V m hm hV
  rw [h1]
  exact ⟨frmLen F, by show -9223372036854775808 ≤ e; omega, by show e ≤ 9223372036854775807; omega, h4, h5⟩
/-- Of, of a number that is finite. -/
theorem of_any8 (x : Nat) (hx : Wd x ∧ finW x) (w : World) (hT : Tab w) :
    Calls Tryz.prog 21 #[.float .f64 x] w fun r w' => (∃ v, r = .returned (.tuple #[.agg #[.bool (dN (fo8 (fvW x))), v, .int .i64 (dE (fo8 (fvW x)))], .int .i64 0]) ∧ Nt w.heap.size w' v (dX (fo8 (fvW x)))) ∧ Below w.heap.size w w' := by
  obtain ⟨h1, h2, h3, _⟩ := wd64_bw (negW x) (magW x) (Nat.le_of_lt hx.2)
  have := Of_any (negW x) (magW x / 4503599627370496) (magW x % 4503599627370496) h2 h3 w hT
  rw [← h1, ← wd_of x hx.1] at this
  refine this.mono ?_
  rintro r w' ⟨⟨v, rfl, hN⟩, hb⟩
  have e := of_fo8 hx.1 hx.2
  unfold ofK at e
  rw [e] at hN ⊢
  have he : ofE (magW x / 4503599627370496) = 0 := by unfold ofE; rw [if_neg (by have := hx.2; omega)]
  rw [he]
  exact ⟨⟨v, rfl, hN⟩, hb⟩
/-- Add, of two forms by value. -/
theorem add_any8 (V U : Int) (m : Nat) (hm : m ≤ 100000) (hV : V.natAbs < 2 ^ m) (hU : U.natAbs < 2 ^ m) (e : Int) (he0 : -9223372036854775808 ≤ e) (he1 : e ≤ 9223372036854775807) (n : Bool) (X : Nat) (hX : mkS n X e = fo8 U)
    (w : World) (a b : Option Addr) (c d : Nat) (hT : Tab w) (h1 : Arg w a (ws (dX (fo8 V))).length c (ws (dX (fo8 V)))) (h2 : Arg w b (ws X).length d (ws X)) :
    Calls Tryz.prog 22 #[.agg #[.bool (dN (fo8 V)), .slice a (ws (dX (fo8 V))).length c, .int .i64 (dE (fo8 V))], .agg #[.bool n, .slice b (ws X).length d, .int .i64 e]] w fun r w' =>
      (∃ v, r = .returned (.tuple #[.agg #[.bool (dN (fo8 (V + U))), v, .int .i64 (dE (fo8 (V + U)))], .int .i64 0]) ∧ Nt w.heap.size w' v (dX (fo8 (V + U)))) ∧ Below w.heap.size w w' := by
  obtain ⟨l1, l2, l3, _⟩ := fo8_len V m (by omega) hV
  have := Add_any3 h1 h2 hT (dN (fo8 V)) n (dE (fo8 V)) e l2 l3 he0 he1
  rw [val_ws, val_ws, fo8_self V m (by omega) hV, hX, fo8_add V U m hm hV hU] at this
  refine this.mono ?_
  rintro r w' ⟨⟨v, rfl, hN⟩, hb⟩
  have e2 : 2 ^ (m + 1) = 2 * 2 ^ m := by rw [Nat.pow_succ, Nat.mul_comm]
  rw [fo8_er (V + U) (m + 1) (by omega) (by omega)]
  exact ⟨⟨v, rfl, hN⟩, hb⟩

end Go.Proofs.YteoednbmhiblfaaGreatDoor

