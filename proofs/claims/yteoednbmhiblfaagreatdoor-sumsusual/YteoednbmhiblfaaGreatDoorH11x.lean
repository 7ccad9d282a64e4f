/- The program's Halving: its loops. -/
import Derived.Test.YteoednbmhiblfaaGreatDoorJ14x
import Derived.Test.YteoednbmhiblfaaGreatDoorD2x
import Derived.Test.YteoednbmhiblfaaGreatDoorM1x
import Derived.ProofKit
import Derived.OpenShut
import Derived.ChangeOld
import Derived.ChangeArms
import Derived.SizedLaws
import Derived.Laws.Cover2
namespace Go.Proofs.YteoednbmhiblfaaGreatDoor
open Go.RowKit J
set_option linter.unusedVariables false
set_option maxRecDepth 20000
set_option linter.unusedSimpArgs false
attribute [local go_sem] st_float

/-- While a row is made: what stands ahead of i is the next row's, what stands from 2 i on is this row's. -/
structure Hv10 (w : World) (g cap p : Nat) (R : List Nat) (i : Nat) (wr : World) (C : List Value) : Prop where
  hbl : Bl wr g 25 C
  hcap : C.length = cap
  hroom : p ≤ cap
  hdone : ∀ j, j < i → ∃ z, C[j]? = some (.float .f64 z) ∧ Is z (nrm ((two R).getD j 0))
  hrest : ∀ j, 2 * i ≤ j → j < p → ∃ z, C[j]? = some (.float .f64 z) ∧ Is z (nrm (R.getD j 0))
  hbel : Below w.heap.size w wr
  hown : w.heap.size ≤ g
theorem Hv10.of {w wr : World} {g cap p : Nat} {R : List Nat} {C : List Value} (h : Rw10 wr g C p R) (hc : C.length = cap) (hb : Below w.heap.size w wr) (hg : w.heap.size ≤ g) : Hv10 w g cap p R 0 wr C :=
  ⟨h.1, hc, by have := h.2.1; omega, fun j hj => by omega, fun j _ hj => h.2.2.2 j hj, hb, hg⟩
theorem Hv10.set {w wr u : World} {g cap p : Nat} {R : List Nat} {i z : Nat} {C : List Value} (h : Hv10 w g cap p R i wr C) (hb : Below wr.heap.size wr u) (hi : i < p / 2) (hR : R.length = p) (hz : Is z (nrm ((two R).getD i 0))) : Hv10 w g cap p R (i + 1) (u.setCell ⟨g, i, none⟩ (.float .f64 z)) (C.set i (.float .f64 z)) := by
  have hb2 := h.hbel.trans (hb.mono h.hbel.size)
  have hroom := h.hroom
  have hcap := h.hcap
  refine ⟨(h.hbl.below hb h.hbl.lt).set i _, by rw [List.length_set]; exact h.hcap, h.hroom, fun j hj => ?_, fun j hj hp => ?_, But.below hb2 ((But.refl g u).set i _) hb2.size h.hown, h.hown⟩
  · by_cases e : j = i
    · subst e
      exact ⟨z, by rw [List.getElem?_set_self (by omega)], hz⟩
    · rw [List.getElem?_set_ne (by omega)]
      exact h.hdone j (by omega)
  · rw [List.getElem?_set_ne (by omega)]
    exact h.hrest j (by omega) hp

set_option maxHeartbeats 8000000 in
theorem Halving10 (xs : List Nat) (a : Option Addr) (n c : Nat) (w : World) (hn : n = xs.length) (hF : Fs w.heap.size w a xs) (hW : W64 xs) (hm : n ≤ 17592186043904) :
    Calls Tryz.prog 10 #[.slice a n c] w fun r w' => r = .returned (.float .f64 (hvF xs)) ∧ Below w.heap.size w w' := by
  have H1 := hid (clone10 xs a n c w hn hF hm)
  have HX := Aside.intro (And.intro hn hW)
  have hmb : n ≤ 4611686018427387904 := by omega
  obtain ⟨Y, hY⟩ : ∃ Y, Y = hvF xs := ⟨_, rfl⟩
  rw [← hY]
  have HY := Aside.intro hY
  clear hY
  clear hn hF hW hm
  go_enter Tryz.func10, Tryz.ntmps10
  go_wp2_with fail
  refine (H1.out).mono ?_
  rintro r w1 ⟨⟨v, rfl, hv⟩, hb1⟩
  have B1 := Aside.intro hb1
  clear H1 hb1
  rcases own_row10 hv HX.out.2 HX.out.1 with ⟨rfl, hn0⟩ | ⟨g, C, rfl, hlo, hrow, hml⟩
  · subst hn0
    have hx : xs = [] := List.eq_nil_of_length_eq_zero (by rw [← HX.out.1])
    have HR := hid (Running10 [] none 0 0 w1 rfl (Fs.nil _ _ _) (fun x hx => by cases hx) (by omega) (by omega))
    have e0 : runF [] = Y := by rw [HY.out, hx]; decide
    rw [e0] at HR
    clear hv hx e0
    go_wp2
    go_loopg [3, 4] 1 (fun gk v m wr => v = .slice none 0 0 ∧ m = .int .i64 0 ∧ wr = w1)
    case atStart => exact ⟨rfl, by simp, rfl⟩
    case round =>
      obtain ⟨rfl, rfl, rfl⟩ := hrel
      go_wp2_with fail
      refine (HR.out).mono ?_
      rintro r w2 ⟨rfl, hb2⟩
      have B2 := Aside.intro (B1.out.trans (hb2.mono B1.out.size))
      clear hb2 HR
      go_wp2
      exact bodyPost_ret (v := .float .f64 Y) (by simp [results, Tryz.results10, go_sem]) rfl ⟨rfl, B2.out⟩
  · obtain ⟨cap, hcap⟩ : ∃ cap, cap = C.length := ⟨_, rfl⟩
    have H0 : Aside (Rw10 w1 g C n xs ∧ C.length = cap ∧ w.heap.size ≤ g) := ⟨hrow, hcap.symm, hlo⟩
    rw [← hcap]
    clear hv hrow hlo hcap hml
    go_wp2
    go_loopg [3, 4] n (fun gk v m wr => ∃ p : Nat, p ≤ gk ∧ p ≤ n ∧ v = .slice (some ⟨g, 0, none⟩) p cap ∧ m = .int .i64 (p : Nat) ∧ Aside (∃ r C, Rw10 wr g C p (twos r xs) ∧ C.length = cap ∧ Below w.heap.size w wr))
    case atStart => exact ⟨n, by omega, by omega, rfl, by simp, 0, C, H0.out.1, H0.out.2.1, B1.out⟩
    case round =>
      obtain ⟨p, hpg, hpn, rfl, rfl, HA⟩ := hrel
      obtain ⟨G, rfl⟩ : ∃ G, G = gk := ⟨_, rfl⟩
      by_cases hp : 1 < p
      · obtain ⟨h, hh⟩ : ∃ h, h = p / 2 := ⟨_, rfl⟩
        have hq1 : Int.tdiv (p : Int) 2 = (h : Int) := by rw [hh]; rfl
        have hhb : h < p ∧ 2 * h ≤ p ∧ p ≤ 2 * h + 1 := by omega
        obtain ⟨r, C0, hrw, hc0, hb0⟩ := HA.out
        have HV := Aside.intro (And.intro (Hv10.of (cap := cap) hrw hc0 hb0 H0.out.2.2) (And.intro hrw.2.2.1 (W64_twos r xs HX.out.2)))
        have HR := Aside.intro (twos_out r xs)
        obtain ⟨R, hR⟩ : ∃ R, R = twos r xs := ⟨_, rfl⟩
        rw [← hR] at HV HR
        have HH := Aside.intro (And.intro hh (And.intro hhb hR))
        clear hrw hc0 hb0 hR HA hh
        have hd1 : decide ((1 : Int) < (p : Int)) = true := by simp; omega
        go_wp2
        go_loopg [16] h (fun gk i wr => ∃ i' : Nat, gk + i' = h ∧ i = .int .i64 (i' : Nat) ∧ Aside (∃ C, Hv10 w g cap p R i' wr C))
        case atStart => exact ⟨0, by omega, by simp, C0, HV.out.1⟩
        case round =>
          obtain ⟨i, hgi, rfl, HI⟩ := hrel
          by_cases hi : i < h
          · obtain ⟨C1, hC1⟩ := HI.out
            obtain ⟨z1, hz1, hs1⟩ := hC1.hrest (2 * i) (Nat.le_refl _) (by omega)
            obtain ⟨z2, hz2, hs2⟩ := hC1.hrest (2 * i + 1) (by omega) (by omega)
            have HP : Hid (∀ u : World, Calls Tryz.prog 33 #[.float .f64 z1, .float .f64 z2] u fun r w' => ∃ z', r = .returned (.float .f64 z') ∧ Is z' (nrm ((two R).getD i 0)) ∧ Below u.heap.size u w') := fun u => by
              have h := plus10 hs1 hs2 u
              have e := add_nrm (getD_lt HV.out.2.2 (2 * i)) (getD_lt HV.out.2.2 (2 * i + 1))
              rw [two_get R i (by rw [HV.out.2.1]; have := HH.out.1; omega), plF_nrm]
              rw [show plF (nrm (R.getD (2 * i) 0)) (nrm (R.getD (2 * i + 1) 0)) = plF (R.getD (2 * i) 0) (R.getD (2 * i + 1) 0) from e] at h
              exact h
            have kS := Aside.intro (And.intro (hC1.hbl.drew.cell (2 * i) _ hz1) (hC1.hbl.drew.cell (2 * i + 1) _ hz2))
            have hx1 : IntKind.i64.wrap (2 * (i : Int)) = 2 * (i : Int) := by rw [IntKind.wrap_i64]; omega
            have hx2 : IntKind.i64.wrap (2 * (i : Int) + 1) = 2 * (i : Int) + 1 := by rw [IntKind.wrap_i64]; omega
            have ht1 : (2 * (i : Int)).toNat = 2 * i := by omega
            have ht2 : (2 * (i : Int) + 1).toNat = 2 * i + 1 := by omega
            have hb1 : 0 ≤ 2 * (i : Int) := by omega
            have hb2 : 2 * (i : Int) < (p : Int) := by omega
            have hb3 : 0 ≤ 2 * (i : Int) + 1 := by omega
            have hb4 : 2 * (i : Int) + 1 < (p : Int) := by omega
            have hi1 : i < p := by omega
            have hcl : ∃ v, C1[i]? = some v := ⟨_, List.getElem?_eq_getElem (by rw [hC1.hcap]; have := hC1.hroom; omega)⟩
            have HC1 := Aside.intro (And.intro hC1 hcl)
            clear hC1 hs1 hs2 hcl
            go_wp2_with fail
            refine until_region (fun u => u.cell? ⟨g, 2 * i, none⟩ = some (.float .f64 z1) ∧ u.cell? ⟨g, 2 * i + 1, none⟩ = some (.float .f64 z2)) 15 (by kernel_rfl) ?_
            refine until_take (i := 0) [14] (v := ?_) rfl (by kernel_rfl) (by kernel_rfl) (by kernel_rfl) (by kernel_rfl) (by kernel_rfl) (fun _ _ _ h => h) (Or.inl ⟨by rfl, ?_⟩) kS.out ?_
            rotate_left
            · intro u hSu
              try dsimp only at hSu
              first | (go_simp; done) | (go_simp; with_reducible rfl)
            try simp only [Act.put, List.setIfInBounds_toArray, List.set_cons_zero, List.set_cons_succ]
            refine until_take (i := 1) [14] (v := ?_) rfl (by kernel_rfl) (by kernel_rfl) (by kernel_rfl) (by kernel_rfl) (by kernel_rfl) (fun _ _ _ h => h) (Or.inl ⟨by rfl, ?_⟩) kS.out ?_
            rotate_left
            · intro u hSu
              try dsimp only at hSu
              first | (go_simp; done) | (go_simp; with_reducible rfl)
            try simp only [Act.put, List.setIfInBounds_toArray, List.set_cons_zero, List.set_cons_succ]
            refine until_take (i := 2) [5, 6, 13] (v := ?_) rfl (by kernel_rfl) (by kernel_rfl) (by kernel_rfl) (by kernel_rfl) (by kernel_rfl) (fun _ _ _ h => h) (Or.inl ⟨by rfl, ?_⟩) kS.out ?_
            rotate_left
            · intro u hSu
              try dsimp only at hSu
              first | (go_simp; done) | (go_simp; with_reducible rfl)
            try simp only [Act.put, List.setIfInBounds_toArray, List.set_cons_zero, List.set_cons_succ]
            refine until_take (i := 3) [4, 5, 6, 13] (v := ?_) rfl (by kernel_rfl) (by kernel_rfl) (by kernel_rfl) (by kernel_rfl) (by kernel_rfl) (fun _ _ _ h => h) (Or.inl ⟨by rfl, ?_⟩) kS.out ?_
            rotate_left
            · intro u hSu
              try dsimp only at hSu
              first | (go_simp; done) | (go_simp; with_reducible rfl)
            try simp only [Act.put, List.setIfInBounds_toArray, List.set_cons_zero, List.set_cons_succ]
            refine until_take (i := 4) [5, 6, 13] (v := ?_) rfl (by kernel_rfl) (by kernel_rfl) (by kernel_rfl) (by kernel_rfl) (by kernel_rfl) (fun _ _ _ h => h) (Or.inl ⟨by rfl, ?_⟩) kS.out ?_
            rotate_left
            · intro u hSu
              try dsimp only at hSu
              first | (go_simp; done) | (go_simp; with_reducible rfl)
            try simp only [Act.put, List.setIfInBounds_toArray, List.set_cons_zero, List.set_cons_succ]
            refine until_take (i := 5) [6, 13] (v := ?_) rfl (by kernel_rfl) (by kernel_rfl) (by kernel_rfl) (by kernel_rfl) (by kernel_rfl) (fun _ _ _ h => h) (Or.inl ⟨by rfl, ?_⟩) kS.out ?_
            rotate_left
            · intro u hSu
              try dsimp only at hSu
              first | (go_simp; done) | (go_simp; with_reducible rfl)
            try simp only [Act.put, List.setIfInBounds_toArray, List.set_cons_zero, List.set_cons_succ]
            refine until_take (i := 6) [13] (v := ?_) rfl (by kernel_rfl) (by kernel_rfl) (by kernel_rfl) (by kernel_rfl) (by kernel_rfl) (fun _ _ _ h => h) (Or.inl ⟨by rfl, ?_⟩) kS.out ?_
            rotate_left
            · intro u hSu
              try dsimp only at hSu
              first | (go_simp; done) | (go_simp; with_reducible rfl)
            try simp only [Act.put, List.setIfInBounds_toArray, List.set_cons_zero, List.set_cons_succ]
            refine until_take (i := 7) [11, 12, 13] (v := ?_) rfl (by kernel_rfl) (by kernel_rfl) (by kernel_rfl) (by kernel_rfl) (by kernel_rfl) (fun _ _ _ h => h) (Or.inl ⟨by rfl, ?_⟩) kS.out ?_
            rotate_left
            · intro u hSu
              try dsimp only at hSu
              first | (go_simp; done) | (go_simp; with_reducible rfl)
            try simp only [Act.put, List.setIfInBounds_toArray, List.set_cons_zero, List.set_cons_succ]
            refine until_take (i := 8) [9, 10, 11, 12, 13] (v := ?_) rfl (by kernel_rfl) (by kernel_rfl) (by kernel_rfl) (by kernel_rfl) (by kernel_rfl) (fun _ _ _ h => h) (Or.inl ⟨by rfl, ?_⟩) kS.out ?_
            rotate_left
            · intro u hSu
              try dsimp only at hSu
              first | (go_simp; done) | (go_simp; with_reducible rfl)
            try simp only [Act.put, List.setIfInBounds_toArray, List.set_cons_zero, List.set_cons_succ]
            refine until_take (i := 9) [10, 11, 12, 13] (v := ?_) rfl (by kernel_rfl) (by kernel_rfl) (by kernel_rfl) (by kernel_rfl) (by kernel_rfl) (fun _ _ _ h => h) (Or.inl ⟨by rfl, ?_⟩) kS.out ?_
            rotate_left
            · intro u hSu
              try dsimp only at hSu
              first | (go_simp; done) | (go_simp; with_reducible rfl)
            try simp only [Act.put, List.setIfInBounds_toArray, List.set_cons_zero, List.set_cons_succ]
            refine until_take (i := 10) [11, 12, 13] (v := ?_) rfl (by kernel_rfl) (by kernel_rfl) (by kernel_rfl) (by kernel_rfl) (by kernel_rfl) (fun _ _ _ h => h) (Or.inl ⟨by rfl, ?_⟩) kS.out ?_
            rotate_left
            · intro u hSu
              try dsimp only at hSu
              first | (go_simp; done) | (go_simp; with_reducible rfl)
            try simp only [Act.put, List.setIfInBounds_toArray, List.set_cons_zero, List.set_cons_succ]
            refine until_take (i := 11) [12, 13] (v := ?_) rfl (by kernel_rfl) (by kernel_rfl) (by kernel_rfl) (by kernel_rfl) (by kernel_rfl) (fun _ _ _ h => h) (Or.inl ⟨by rfl, ?_⟩) kS.out ?_
            rotate_left
            · intro u hSu
              try dsimp only at hSu
              first | (go_simp; done) | (go_simp; with_reducible rfl)
            try simp only [Act.put, List.setIfInBounds_toArray, List.set_cons_zero, List.set_cons_succ]
            refine until_take (i := 12) [13] (v := ?_) rfl (by kernel_rfl) (by kernel_rfl) (by kernel_rfl) (by kernel_rfl) (by kernel_rfl) (fun _ _ _ h => h) (Or.inl ⟨by rfl, ?_⟩) kS.out ?_
            rotate_left
            · intro u hSu
              try dsimp only at hSu
              first | (go_simp; done) | (go_simp; with_reducible rfl)
            try simp only [Act.put, List.setIfInBounds_toArray, List.set_cons_zero, List.set_cons_succ]
            refine until_one (i := 13) (by kernel_rfl) rfl (fun K' hK => ?_)
            go_simp
            refine (HP.out _).mono ?_
            rintro r u ⟨z, rfl, hz, hb⟩
            have HZ := Aside.intro (And.intro hz hb)
            have kS := Aside.intro (And.intro ((HC1.out.1.hbl.drew.below hb HC1.out.1.hbl.lt).cell (2 * i) _ hz1) ((HC1.out.1.hbl.drew.below hb HC1.out.1.hbl.lt).cell (2 * i + 1) _ hz2))
            clear hz hb
            dsimp only
            refine hK.out _ _ (fun _ => kS.out) ?_
            clear hK K'
            try simp only [Act.put, List.setIfInBounds_toArray, List.set_cons_zero, List.set_cons_succ]
            refine until_one (i := 14) (by kernel_rfl) rfl (fun K' hK => ?_)
            go_simp
            refine hK.out _ _ (fun _ => kS.out) ?_
            clear hK K'
            try simp only [Act.put, List.setIfInBounds_toArray, List.set_cons_zero, List.set_cons_succ]
            obtain ⟨vi, hvi⟩ := HC1.out.2
            have hcc := (HC1.out.1.hbl.drew.below HZ.out.2 HC1.out.1.hbl.lt).cell i _ hvi
            have hfz := (HC1.out.1.hbl.drew.below HZ.out.2 HC1.out.1.hbl.lt).frozen i
            refine until_one (i := 15) (by kernel_rfl) rfl (fun K' hK => ?_)
            go_simp
            refine hK.out _ _ (fun h => absurd h (by decide)) ?_
            clear hK K' kS hz1 hz2 hcc hfz hvi
            refine until_done (by kernel_rfl) ?_ _
            go_wp2
            go_roundg (gk - 1)
            case measure => omega
            case rel => exact ⟨i + 1, by omega, by first | rfl | simp, _, HC1.out.1.set ((Below.refl _ _).drew.trans HZ.out.2) (by have := HH.out.1; omega) HV.out.2.1 HZ.out.1⟩
          · have hdi : decide ((i : Int) < (h : Int)) = false := by simp; omega
            obtain rfl : h = i := by omega
            obtain ⟨C1, hC1⟩ := HI.out
            have HC1 := Aside.intro hC1
            have hlen : (two R).length = p - h := by rw [two_len, HV.out.2.1, ← HH.out.1]
            have HN := Aside.intro hlen
            clear hC1 hlen
            have hqs : IntKind.i64.wrap ((p : Int) - (h : Int)) = ((p - h : Nat) : Int) := by rw [IntKind.wrap_i64]; omega
            have hq4 : (((p : Int) - (h : Int))).toNat = p - h := by omega
            have hqc : p - h ≤ cap := by have := HC1.out.hroom; omega
            have hq5 : IntKind.i64.wrap ((p : Int) - 1) = (p : Int) - 1 := by rw [IntKind.wrap_i64]; omega
            have hq6 : ((p : Int) - 1).toNat = p - 1 := by omega
            by_cases ho : p % 2 = 1
            · obtain ⟨z, hz, hs⟩ := HC1.out.hrest (p - 1) (by have := HH.out.1; omega) (by omega)
              have c1 := HC1.out.hbl.cell (p - 1) _ hz
              have hlt2 : h < C1.length := by rw [HC1.out.hcap]; have := HC1.out.hroom; omega
              have c2 := HC1.out.hbl.cell h _ (List.getElem?_eq_getElem hlt2)
              obtain ⟨vi, hvi⟩ : ∃ vi, vi = C1[h] := ⟨_, rfl⟩
              rw [← hvi] at c2
              have f2 := HC1.out.hbl.frozen h
              have hrem : Int.tmod (p : Int) 2 = 1 := by rw [show Int.tmod (p : Int) 2 = ((p % 2 : Nat) : Int) from rfl, ho]; rfl
              have HNX : Aside (Rw10 (wr.setCell ⟨g, h, none⟩ (.float .f64 z)) g (C1.set h (.float .f64 z)) (p - h) (two R) ∧ (C1.set h (.float .f64 z)).length = cap ∧ Below w.heap.size w (wr.setCell ⟨g, h, none⟩ (.float .f64 z))) := by
                refine ⟨⟨HC1.out.hbl.set h _, by rw [List.length_set, HC1.out.hcap]; omega, HN.out, fun j hj => ?_⟩, by rw [List.length_set]; exact HC1.out.hcap, But.below HC1.out.hbel ((But.refl g wr).set h _) HC1.out.hbel.size HC1.out.hown⟩
                by_cases e : j = h
                · subst e
                  refine ⟨z, by rw [List.getElem?_set_self hlt2], ?_⟩
                  have e2 := two_last R (by rw [HV.out.2.1]; exact ho)
                  rw [HV.out.2.1, ← HH.out.1] at e2
                  rw [e2]
                  exact hs
                · rw [List.getElem?_set_ne (by omega)]
                  exact HC1.out.hdone j (by omega)
              clear hz hs hvi hlt2
              go_wp2
              go_roundg (G - 1)
              case measure => omega
              case rel => exact ⟨p - h, by omega, by omega, rfl, rfl, r + 1, _, by rw [HR.out]; exact HNX.out.1, HNX.out.2.1, HNX.out.2.2⟩
            · have hrem : Int.tmod (p : Int) 2 = 0 := by rw [show Int.tmod (p : Int) 2 = ((p % 2 : Nat) : Int) from rfl, show p % 2 = 0 by omega]; rfl
              have HNX : Aside (Rw10 wr g C1 (p - h) (two R) ∧ C1.length = cap ∧ Below w.heap.size w wr) :=
                ⟨⟨HC1.out.hbl, by rw [HC1.out.hcap]; omega, HN.out, fun j hj => HC1.out.hdone j (by omega)⟩, HC1.out.hcap, HC1.out.hbel⟩
              go_wp2
              go_roundg (G - 1)
              case measure => omega
              case rel => exact ⟨p - h, by omega, by omega, rfl, rfl, r + 1, _, by rw [HR.out]; exact HNX.out.1, HNX.out.2.1, HNX.out.2.2⟩
      · obtain ⟨r, C0, hrw, hc0, hb0⟩ := HA.out
        have hd1 : decide ((1 : Int) < (p : Int)) = false := by simp; omega
        have HE := hv_any r xs (by rw [hrw.2.2.1]; omega)
        have HR : Hid (Calls Tryz.prog 9 #[.slice (some ⟨g, 0, none⟩) p cap] wr fun r w' => r = .returned (.float .f64 Y) ∧ Below wr.heap.size wr w') := by
          by_cases h0 : p = 0
          · subst h0
            have h := Running10 [] (some ⟨g, 0, none⟩) 0 cap wr rfl (Fs.nil _ _ _) (fun x hx => by cases hx) (by omega) (by omega)
            have e : runF [] = Y := by
              rw [HY.out, HE, List.eq_nil_of_length_eq_zero hrw.2.2.1]; rfl
            rw [e] at h
            exact h
          · obtain rfl : p = 1 := by omega
            obtain ⟨z, hz, hs⟩ := hrw.2.2.2 0 (by omega)
            have h := Running10 [z] (some ⟨g, 0, none⟩) 1 cap wr rfl (fun _ => ⟨g, 0, hrw.1.lt, rfl, fun i hi => by
              have : i = 0 := by simp at hi; omega
              subst this
              rw [hrw.1.cell 0 _ hz]; rfl⟩) (fun x hx => by
              have : x = z := by simpa using hx
              rw [this]; exact hs.1) (by have := hrw.2.1; omega) (by omega)
            have e : runF [z] = Y := by
              rw [HY.out, HE]; exact hs.2
            rw [e] at h
            exact h
        have HB := Aside.intro hb0
        clear hrw hc0 hb0 HE HA
        go_wp2_with fail
        refine (HR.out).mono ?_
        rintro r w2 ⟨rfl, hb2⟩
        have B2 := Aside.intro (HB.out.trans (hb2.mono HB.out.size))
        clear hb2 HR
        go_wp2
        exact bodyPost_ret (v := .float .f64 Y) (by simp [results, Tryz.results10, go_sem]) rfl ⟨rfl, B2.out⟩
end Go.Proofs.YteoednbmhiblfaaGreatDoor

/- The document's Halving. -/
namespace Go.Proofs.YteoednbmhiblfaaGreatDoor
open Go.RowKit J
set_option linter.unusedVariables false
set_option maxRecDepth 20000
set_option linter.unusedSimpArgs false
attribute [local go_sem] B.f64bits B.f64frombits st_float

set_option maxHeartbeats 4000000 in
theorem rHalving10 : ∀ (m : Nat) (xs : List Nat) (a : Option Addr) (n c : Nat) (w : World) (hl : xs.length ≤ m) (hn : n = xs.length) (hF : Fs w.heap.size w a xs) (hW : W64 xs) (hc : n ≤ c) (hm : n ≤ 1152921504606846976),
    Calls Tryz.prog 16 #[.slice a n c] w fun r w' => r = .returned (.float .f64 (hvF xs)) ∧ Below w.heap.size w w' := by
  intro m
  induction m with
  | zero =>
    intro xs a n c w hl hn hF hW hc hm
    have e : xs = [] := List.eq_nil_of_length_eq_zero (by omega)
    subst e
    have H := hid (fun u : World => rOf10z u)
    have e0 : hvF [] = 0 := by decide
    simp only [List.length_nil] at hn
    subst hn
    rw [e0]
    clear hF hW hl
    go_enter Tryz.func16, Tryz.ntmps16
    go_wp2_with fail
    refine (H.out _).mono ?_
    rintro r w1 ⟨rfl, rfl⟩
    go_wp2
    exact bodyPost_ret (v := .float .f64 0) (by simp [results, Tryz.results16, go_sem]) rfl ⟨rfl, Below.refl _ _⟩
  | succ m ih =>
    intro xs a n c w hl hn hF hW hc hm
    by_cases h0 : n = 0
    · exact ih xs a n c w (by omega) hn hF hW hc hm
    · have hne : xs ≠ [] := by intro e; subst e; simp at hn; omega
      obtain ⟨b, off, hlt, rfl, hcl⟩ := hF hne
      have HR : Aside (Fs w.heap.size w (some ⟨b, off, none⟩) xs ∧ W64 xs ∧ n = xs.length) := ⟨hF, hW, hn⟩
      have hz0 : ((n : Int) == 0) = false := by simp; omega
      by_cases h1 : n = 1
      · have hc0 := hcl 0 (by omega)
        rw [Nat.add_zero] at hc0
        have e := hv_short xs (by omega)
        obtain ⟨x0, hx0⟩ : ∃ x0, x0 = xs.getD 0 0 := ⟨_, rfl⟩
        rw [← hx0] at hc0 e
        have H1 := hid (fun u : World => rone10 (x := x0) (by rw [hx0]; exact hW.get 0) u)
        rw [e]
        obtain ⟨z, hz⟩ : ∃ z, z = nrm x0 := ⟨_, rfl⟩
        rw [← hz] at H1 ⊢
        subst h1
        clear hF hW hn hcl hne hlt hx0 e hz ih HR hl
        go_enter Tryz.func16, Tryz.ntmps16
        go_wp2_with fail
        refine (H1.out _).mono ?_
        rintro r w1 ⟨rfl, rfl⟩
        go_wp2
        exact bodyPost_ret (v := .float .f64 z) (by simp [results, Tryz.results16, go_sem]) rfl ⟨rfl, Below.refl _ _⟩
      · have hz1 : ((n : Int) == 1) = false := by simp; omega
        have hn2 : 2 ≤ n := by omega
        have IH := Aside.intro (And.intro ih hl)
        clear hF hW hn hcl hne hlt ih hl h0 h1
        go_enter Tryz.func16, Tryz.ntmps16
        go_wp2
        go_loopg [3] n (fun gk i wr => ∃ K : Nat, K < n ∧ n ≤ gk + K ∧ i = .int .i64 (K : Nat) ∧ Aside ((∃ j, K = 2 ^ j) ∧ 1 ≤ K ∧ wr = w))
        case atStart => exact ⟨1, by omega, by omega, by simp, ⟨0, rfl⟩, by omega, rfl⟩
        case round =>
          obtain ⟨K, hK, hgk, rfl, HA⟩ := hrel
          have hw := HA.out.2.2
          subst hw
          have hK1 := HA.out.2.1
          by_cases h2 : 2 * K < n
          · have hd : decide (2 * (K : Int) < n) = true := by simp; omega
            go_wp2
            go_roundg (gk - 1)
            case measure => omega
            case rel => exact ⟨2 * K, h2, by omega, by first | rfl | simp, by obtain ⟨j, hj⟩ := HA.out.1; exact ⟨j + 1, by rw [hj, Nat.pow_succ, Nat.mul_comm]⟩, by omega, rfl⟩
          · have hd : decide (2 * (K : Int) < n) = false := by simp; omega
            have hcK : c ≠ K := by omega
            have C1 := hid (fun (u : World) (hb : Below wr.heap.size wr u) => IH.out.1 ((xs.drop 0).take K) (some ⟨b, off, none⟩) K c u (by rw [List.drop_zero, List.length_take]; have := IH.out.2; have := HR.out.2.2; omega) (by rw [List.drop_zero, List.length_take]; have := HR.out.2.2; omega) ((HR.out.1.piece 0 K (by have := HR.out.2.2; omega)).below hb |>.mono hb.size) (HR.out.2.1.piece 0 K) (by omega) (by omega))
            have C2 := hid (fun (u : World) (hb : Below wr.heap.size wr u) => IH.out.1 ((xs.drop K).take (n - K)) (some ⟨b, off + K, none⟩) (n - K) (c - K) u (by rw [List.length_take, List.length_drop]; have := IH.out.2; have := HR.out.2.2; omega) (by rw [List.length_take, List.length_drop]; have := HR.out.2.2; omega) ((HR.out.1.piece K (n - K) (by have := HR.out.2.2; omega)).below hb |>.mono hb.size) (HR.out.2.1.piece K (n - K)) (by omega) (by omega))
            have HV : Aside (hvF xs = plF (hvF ((xs.drop 0).take K)) (hvF ((xs.drop K).take (n - K)))) := by
              obtain ⟨j, hj⟩ := HA.out.1
              have hn' := HR.out.2.2
              have e := hv_halves xs j (by omega) (by rw [Nat.pow_succ]; omega) HR.out.2.1
              rw [← hj] at e
              rw [List.drop_zero, show (xs.drop K).take (n - K) = xs.drop K by rw [List.take_of_length_le]; rw [List.length_drop]; omega]
              exact e
            have HL : Aside (hvF ((xs.drop 0).take K) < 18446744073709551616 ∧ hvF ((xs.drop K).take (n - K)) < 18446744073709551616) := ⟨hv_lt _ (HR.out.2.1.piece 0 K), hv_lt _ (HR.out.2.1.piece K (n - K))⟩
            obtain ⟨p, hp⟩ : ∃ p, p = hvF ((xs.drop 0).take K) := ⟨_, rfl⟩
            obtain ⟨q, hq⟩ : ∃ q, q = hvF ((xs.drop K).take (n - K)) := ⟨_, rfl⟩
            rw [← hp] at C1 HV HL
            rw [← hq] at C2 HV HL
            have HP := hid (fun u : World => sPlus_any p q HL.out.1 HL.out.2 u)
            obtain ⟨z, hz⟩ : ∃ z, z = arW .add p q := ⟨_, rfl⟩
            rw [← hz] at HP
            rw [show plF p q = z from hz.symm] at HV
            clear hp hq hz IH
            go_wp2_with fail
            refine (C1.out _ (Below.refl _ _)).mono ?_
            rintro r w1 ⟨rfl, hb1⟩
            have B1 := Aside.intro hb1
            clear hb1 C1
            have hadr : (if c = K then (⟨b, off, none⟩ : Addr) else ⟨b, off + K, none⟩) = ⟨b, off + K, none⟩ := if_neg hcK
            go_wp2_with fail
            refine (C2.out _ B1.out).mono ?_
            rintro r w2 ⟨rfl, hb2⟩
            have B2 := Aside.intro (B1.out.trans (hb2.mono B1.out.size))
            clear hb2 C2
            go_wp2_with fail
            refine (HP.out _).mono ?_
            rintro r w3 ⟨rfl, hb3⟩
            have B3 := Aside.intro (B2.out.trans (hb3.mono B2.out.size))
            clear hb3 HP
            go_wp2
            exact bodyPost_ret (v := .float .f64 z) (by simp [results, Tryz.results16, go_sem]) rfl ⟨by rw [HV.out], B3.out⟩
end Go.Proofs.YteoednbmhiblfaaGreatDoor

/- The document's Kahan, Neumaier, Halving. -/
namespace Go.Proofs.YteoednbmhiblfaaGreatDoor
open Go.RowKit J
set_option linter.unusedVariables false
set_option maxRecDepth 20000
set_option linter.unusedSimpArgs false
attribute [local go_sem] B.f64bits B.f64frombits st_float

set_option maxHeartbeats 2000000 in
theorem rKahan10 (xs : List Nat) (a : Option Addr) (n c : Nat) (w : World) (hn : n = xs.length) (hF : Fs w.heap.size w a xs) (hW : W64 xs) (hm : n ≤ 4611686018427387904) :
    Calls Tryz.prog 17 #[.slice a n c] w fun r w' => r = .returned (.float .f64 (kaF xs).1) ∧ Below w.heap.size w w' := by
  have HR : Aside (Fs w.heap.size w a xs ∧ W64 xs ∧ n = xs.length) := ⟨hF, hW, hn⟩
  have H0 := hid (fun u : World => rOf10z u)
  clear hF hW hn
  go_enter Tryz.func17, Tryz.ntmps17
  go_wp2_with fail
  refine (H0.out _).mono ?_
  rintro r w1 ⟨rfl, rfl⟩
  go_wp2_with fail
  refine (H0.out _).mono ?_
  rintro r w2 ⟨rfl, rfl⟩
  go_wp2
  go_loopg [5, 3, 4] n (fun gk i s q wr => ∃ (k y z : Nat), gk + k = n ∧ i = .int .i64 (k : Nat) ∧ s = .float .f64 y ∧ q = .float .f64 z ∧ Aside ((y, z) = (xs.take k).foldl kaS (0, 0) ∧ Below w2.heap.size w2 wr))
  case atStart => exact ⟨0, 0, 0, by omega, by simp, rfl, rfl, rfl, Below.refl _ _⟩
  case round =>
    obtain ⟨k, y, z, hgk, rfl, rfl, rfl, HA⟩ := hrel
    obtain ⟨o1, o2, o3, o4⟩ := fold_ok kaS kaS_ok (xs.take k)
    rw [← HA.out.1] at o1 o2 o3 o4
    by_cases hk : k < n
    · obtain ⟨b, off, rfl, hcell⟩ := HR.out.1.at HA.out.2 k (by rw [← HR.out.2.2]; exact hk)
      obtain ⟨x, hx⟩ : ∃ x, x = xs.getD k 0 := ⟨_, rfl⟩
      rw [← hx] at hcell
      have hx64 : x < 18446744073709551616 := by rw [hx]; exact HR.out.2.1.get k
      have H1 := hid (fun u : World => sMinus_any x z hx64 o2 u)
      obtain ⟨y1, e1⟩ : ∃ y1, y1 = arW .sub x z := ⟨_, rfl⟩
      have H2 := hid (fun u : World => sPlus_any y y1 o1 (by rw [e1]; exact miF_lt _ _) u)
      obtain ⟨t, e2⟩ : ∃ t, t = arW .add y y1 := ⟨_, rfl⟩
      have H3 := hid (fun u : World => sMinus_any t y (by rw [e2]; exact plF_lt _ _) o1 u)
      obtain ⟨v, e3⟩ : ∃ v, v = arW .sub t y := ⟨_, rfl⟩
      have H4 := hid (fun u : World => sMinus_any v y1 (by rw [e3]; exact miF_lt _ _) (by rw [e1]; exact miF_lt _ _) u)
      obtain ⟨q, e4⟩ : ∃ q, q = arW .sub v y1 := ⟨_, rfl⟩
      have HE := Aside.intro (show (t, q) = (xs.take (k + 1)).foldl kaS (0, 0) by
        rw [foldl_take kaS (0, 0) xs k (by rw [← HR.out.2.2]; exact hk), ← HA.out.1, ← hx, e4, e3, e2, e1]; rfl)
      rw [← e1] at H1
      rw [← e2] at H2
      rw [← e3] at H3
      rw [← e4] at H4
      clear hx hx64 e1 e2 e3 e4 o1 o2 o3 o4
      go_wp2_with fail
      refine (H1.out _).mono ?_
      rintro r u1 ⟨rfl, hb1⟩
      have B1 := Aside.intro (HA.out.2.trans (hb1.mono HA.out.2.size))
      clear hb1 H1
      go_wp2_with fail
      refine (H2.out _).mono ?_
      rintro r u2 ⟨rfl, hb2⟩
      have B2 := Aside.intro (B1.out.trans (hb2.mono B1.out.size))
      clear hb2 H2
      go_wp2_with fail
      refine (H3.out _).mono ?_
      rintro r u3 ⟨rfl, hb3⟩
      have B3 := Aside.intro (B2.out.trans (hb3.mono B2.out.size))
      clear hb3 H3
      go_wp2_with fail
      refine (H4.out _).mono ?_
      rintro r u4 ⟨rfl, hb4⟩
      have B4 := Aside.intro (B3.out.trans (hb4.mono B3.out.size))
      clear hb4 H4
      go_wp2
      go_roundg (gk - 1)
      case measure => omega
      case rel => exact ⟨k + 1, t, q, by omega, by first | rfl | simp, rfl, rfl, HE.out, B4.out⟩
    · have hd : decide ((k : Int) < n) = false := by simp; omega
      have HK := Aside.intro (show xs.take k = xs by rw [List.take_of_length_le]; rw [← HR.out.2.2]; omega)
      have H1 := hid (fun u : World => rone10 o1 u)
      rw [show nrm y = y from o3] at H1
      clear o1 o2 o3 o4
      go_wp2_with fail
      refine (H1.out _).mono ?_
      rintro r w3 ⟨rfl, rfl⟩
      go_wp2
      refine bodyPost_ret (v := .float .f64 y) (by simp [results, Tryz.results17, go_sem]) rfl ?_
      have e := HA.out.1
      rw [HK.out] at e
      exact ⟨by unfold kaF; rw [← e], HA.out.2⟩

theorem rsize10 {x : Nat} (hx : x < 18446744073709551616) (w : World) : Calls Tryz.prog 81 #[.float .f64 x] w fun r w' => r = .returned (.tuple #[.int .u64 (magW (nrm x) : Nat), .bool (!nanW x)]) ∧ w' = w := by
  have H1 := hid (fun u : World => rBits10 hx u)
  have e1 : ((nrm x : Nat) : Int) % 9223372036854775808 = ((magW (nrm x) : Nat) : Int) := by unfold magW; omega
  have e2 : decide (((magW (nrm x) : Nat) : Int) ≤ 9218868437227405312) = !nanW x := by
    rw [← nan_nrm]
    unfold nanW magW
    rw [Bool.eq_iff_iff]
    simp
    omega
  have hlt : nrm x < 18446744073709551616 := nrm_lt hx
  obtain ⟨z, hz⟩ : ∃ z, z = nrm x := ⟨_, rfl⟩
  obtain ⟨m, hm⟩ : ∃ m, m = magW (nrm x) := ⟨_, rfl⟩
  rw [← hm] at e1 e2 ⊢
  rw [← hz] at H1 e1 hlt
  clear hx hz hm
  go_enter Tryz.func81, Tryz.ntmps81
  go_wp2_with fail
  refine (H1.out _).mono ?_
  rintro r w1 ⟨rfl, rfl⟩
  go_wp2
  exact bodyPost_ret (v := .tuple #[.int .u64 (m : Nat), .bool (!nanW x)]) (by simp [results, Tryz.results81, go_sem, e1, e2]) rfl ⟨rfl, rfl⟩
theorem rnotBelow10 {s x : Nat} (hs : s < 18446744073709551616) (hx : x < 18446744073709551616) (w : World) : Calls Tryz.prog 44 #[.float .f64 s, .float .f64 x] w fun r w' => r = .returned (.bool (nbW s x)) ∧ w' = w := by
  have H1 := hid (fun u : World => rsize10 hs u)
  have H2 := hid (fun u : World => rsize10 hx u)
  rw [← nbW_nrm s x]
  have e : nbW (nrm s) (nrm x) = (!nanW s && !nanW x && decide (magW (nrm x) ≤ magW (nrm s))) := by unfold nbW; rw [nan_nrm, nan_nrm]
  rw [e]
  have e3 : decide (((magW (nrm s) : Nat) : Int) ≥ ((magW (nrm x) : Nat) : Int)) = decide (magW (nrm x) ≤ magW (nrm s)) := by rw [decide_eq_decide]; omega
  obtain ⟨p, hp⟩ : ∃ p, p = magW (nrm s) := ⟨_, rfl⟩
  obtain ⟨q, hq⟩ : ∃ q, q = magW (nrm x) := ⟨_, rfl⟩
  obtain ⟨bs, hbs⟩ : ∃ b, b = nanW s := ⟨_, rfl⟩
  obtain ⟨bx, hbx⟩ : ∃ b, b = nanW x := ⟨_, rfl⟩
  rw [← hp, ← hbs] at H1
  rw [← hq, ← hbx] at H2
  rw [← hp, ← hq] at e3 ⊢
  rw [← hbs, ← hbx]
  clear e hs hx hp hq hbs hbx
  cases bs <;> cases bx
  all_goals (
    simp only [Bool.not_false, Bool.not_true, Bool.true_and, Bool.false_and, Bool.and_self, Bool.and_false] at H1 H2 ⊢
    go_enter Tryz.func44, Tryz.ntmps44
    go_wp2_with fail
    refine (H1.out _).mono ?_
    rintro r w1 ⟨rfl, rfl⟩
    go_wp2_with fail
    refine (H2.out _).mono ?_
    rintro r w1 ⟨rfl, rfl⟩
    go_wp2
    first
      | exact bodyPost_ret (v := .bool (decide (q ≤ p))) (by simp [results, Tryz.results44, go_sem, e3]) rfl ⟨rfl, rfl⟩
      | (go_ret; exact ⟨rfl, rfl⟩))

set_option maxHeartbeats 2000000 in
theorem rNeumaier10 (xs : List Nat) (a : Option Addr) (n c : Nat) (w : World) (hn : n = xs.length) (hF : Fs w.heap.size w a xs) (hW : W64 xs) (hm : n ≤ 4611686018427387904) :
    Calls Tryz.prog 18 #[.slice a n c] w fun r w' => r = .returned (.float .f64 (plF (neF xs).1 (neF xs).2)) ∧ Below w.heap.size w w' := by
  have HR : Aside (Fs w.heap.size w a xs ∧ W64 xs ∧ n = xs.length) := ⟨hF, hW, hn⟩
  have H0 := hid (fun u : World => rOf10z u)
  clear hF hW hn
  go_enter Tryz.func18, Tryz.ntmps18
  go_wp2_with fail
  refine (H0.out _).mono ?_
  rintro r w1 ⟨rfl, rfl⟩
  go_wp2_with fail
  refine (H0.out _).mono ?_
  rintro r w2 ⟨rfl, rfl⟩
  go_wp2
  go_loopg [5, 3, 4] n (fun gk i s q wr => ∃ (k y z : Nat), gk + k = n ∧ i = .int .i64 (k : Nat) ∧ s = .float .f64 y ∧ q = .float .f64 z ∧ Aside ((y, z) = (xs.take k).foldl neS (0, 0) ∧ Below w2.heap.size w2 wr))
  case atStart => exact ⟨0, 0, 0, by omega, by simp, rfl, rfl, rfl, Below.refl _ _⟩
  case round =>
    obtain ⟨k, y, z, hgk, rfl, rfl, rfl, HA⟩ := hrel
    obtain ⟨o1, o2, o3, o4⟩ := fold_ok neS neS_ok (xs.take k)
    rw [← HA.out.1] at o1 o2 o3 o4
    by_cases hk : k < n
    · obtain ⟨b, off, rfl, hcell⟩ := HR.out.1.at HA.out.2 k (by rw [← HR.out.2.2]; exact hk)
      obtain ⟨x, hx⟩ : ∃ x, x = xs.getD k 0 := ⟨_, rfl⟩
      rw [← hx] at hcell
      have hx64 : x < 18446744073709551616 := by rw [hx]; exact HR.out.2.1.get k
      have H1 := hid (fun u : World => sPlus_any y x o1 hx64 u)
      have HNB := hid (fun u : World => rnotBelow10 (s := y) o1 hx64 u)
      obtain ⟨t, e1⟩ : ∃ t, t = arW .add y x := ⟨_, rfl⟩
      have ht : t < 18446744073709551616 := by rw [e1]; exact plF_lt _ _
      have HE0 := Aside.intro (foldl_take neS (0, 0) xs k (by rw [← HR.out.2.2]; exact hk))
      rw [← hx, ← HA.out.1] at HE0
      rw [← e1] at H1
      cases hnb : nbW y x
      · rw [hnb] at HNB
        have H2 := hid (fun u : World => sMinus_any x t hx64 ht u)
        obtain ⟨v, e2⟩ : ∃ v, v = arW .sub x t := ⟨_, rfl⟩
        have H3 := hid (fun u : World => sPlus_any v y (by rw [e2]; exact miF_lt _ _) o1 u)
        obtain ⟨v2, e3⟩ : ∃ v2, v2 = arW .add v y := ⟨_, rfl⟩
        have H4 := hid (fun u : World => sPlus_any z v2 o2 (by rw [e3]; exact plF_lt _ _) u)
        obtain ⟨q, e4⟩ : ∃ q, q = arW .add z v2 := ⟨_, rfl⟩
        have HE := Aside.intro (show (t, q) = (xs.take (k + 1)).foldl neS (0, 0) by
          rw [HE0.out, e4, e3, e2, e1]; unfold neS neV; rw [hnb]; rfl)
        rw [← e2] at H2
        rw [← e3] at H3
        rw [← e4] at H4
        clear hx hx64 e1 e2 e3 e4 o1 o2 o3 o4 ht hnb HE0
        go_wp2_with fail
        refine (H1.out _).mono ?_
        rintro r u1 ⟨rfl, hb1⟩
        have B1 := Aside.intro (HA.out.2.trans (hb1.mono HA.out.2.size))
        clear hb1 H1
        go_wp2_with fail
        refine (H0.out _).mono ?_
        rintro r u1' ⟨rfl, rfl⟩
        go_wp2_with fail
        refine (HNB.out _).mono ?_
        rintro r u1'' ⟨rfl, rfl⟩
        clear HNB
        go_wp2_with fail
        refine (H2.out _).mono ?_
        rintro r u2 ⟨rfl, hb2⟩
        have B2 := Aside.intro (B1.out.trans (hb2.mono B1.out.size))
        clear hb2 H2
        go_wp2_with fail
        refine (H3.out _).mono ?_
        rintro r u3 ⟨rfl, hb3⟩
        have B3 := Aside.intro (B2.out.trans (hb3.mono B2.out.size))
        clear hb3 H3
        go_wp2_with fail
        refine (H4.out _).mono ?_
        rintro r u4 ⟨rfl, hb4⟩
        have B4 := Aside.intro (B3.out.trans (hb4.mono B3.out.size))
        clear hb4 H4
        go_wp2
        go_roundg (gk - 1)
        case measure => omega
        case rel => exact ⟨k + 1, t, q, by omega, by first | rfl | simp, rfl, rfl, HE.out, B4.out⟩
      · rw [hnb] at HNB
        have H2 := hid (fun u : World => sMinus_any y t o1 ht u)
        obtain ⟨v, e2⟩ : ∃ v, v = arW .sub y t := ⟨_, rfl⟩
        have H3 := hid (fun u : World => sPlus_any v x (by rw [e2]; exact miF_lt _ _) hx64 u)
        obtain ⟨v2, e3⟩ : ∃ v2, v2 = arW .add v x := ⟨_, rfl⟩
        have H4 := hid (fun u : World => sPlus_any z v2 o2 (by rw [e3]; exact plF_lt _ _) u)
        obtain ⟨q, e4⟩ : ∃ q, q = arW .add z v2 := ⟨_, rfl⟩
        have HE := Aside.intro (show (t, q) = (xs.take (k + 1)).foldl neS (0, 0) by
          rw [HE0.out, e4, e3, e2, e1]; unfold neS neV; rw [hnb]; rfl)
        rw [← e2] at H2
        rw [← e3] at H3
        rw [← e4] at H4
        clear hx hx64 e1 e2 e3 e4 o1 o2 o3 o4 ht hnb HE0
        go_wp2_with fail
        refine (H1.out _).mono ?_
        rintro r u1 ⟨rfl, hb1⟩
        have B1 := Aside.intro (HA.out.2.trans (hb1.mono HA.out.2.size))
        clear hb1 H1
        go_wp2_with fail
        refine (H0.out _).mono ?_
        rintro r u1' ⟨rfl, rfl⟩
        go_wp2_with fail
        refine (HNB.out _).mono ?_
        rintro r u1'' ⟨rfl, rfl⟩
        clear HNB
        go_wp2_with fail
        refine (H2.out _).mono ?_
        rintro r u2 ⟨rfl, hb2⟩
        have B2 := Aside.intro (B1.out.trans (hb2.mono B1.out.size))
        clear hb2 H2
        go_wp2_with fail
        refine (H3.out _).mono ?_
        rintro r u3 ⟨rfl, hb3⟩
        have B3 := Aside.intro (B2.out.trans (hb3.mono B2.out.size))
        clear hb3 H3
        go_wp2_with fail
        refine (H4.out _).mono ?_
        rintro r u4 ⟨rfl, hb4⟩
        have B4 := Aside.intro (B3.out.trans (hb4.mono B3.out.size))
        clear hb4 H4
        go_wp2
        go_roundg (gk - 1)
        case measure => omega
        case rel => exact ⟨k + 1, t, q, by omega, by first | rfl | simp, rfl, rfl, HE.out, B4.out⟩
    · have hd : decide ((k : Int) < n) = false := by simp; omega
      have HK := Aside.intro (show xs.take k = xs by rw [List.take_of_length_le]; rw [← HR.out.2.2]; omega)
      have H1 := hid (fun u : World => sPlus_any y z o1 o2 u)
      obtain ⟨t, e1⟩ : ∃ t, t = arW .add y z := ⟨_, rfl⟩
      rw [← e1] at H1
      have HE := Aside.intro e1
      clear o1 o2 o3 o4 e1
      go_wp2_with fail
      refine (H1.out _).mono ?_
      rintro r w3 ⟨rfl, hb3⟩
      have B3 := Aside.intro (HA.out.2.trans (hb3.mono HA.out.2.size))
      clear hb3 H1
      go_wp2
      refine bodyPost_ret (v := .float .f64 t) (by simp [results, Tryz.results18, go_sem]) rfl ?_
      have e := HA.out.1
      rw [HK.out] at e
      exact ⟨by rw [HE.out]; unfold neF; rw [← e], B3.out⟩
end Go.Proofs.YteoednbmhiblfaaGreatDoor

/- Lists that came in. -/
namespace Go.Proofs.YteoednbmhiblfaaGreatDoor
open Go.ChangeShapes Go.WideShapes Go.ChangeAt Go.RowKit
set_option linter.unusedVariables false
set_option maxRecDepth 20000
set_option linter.unusedSimpArgs false

theorem trodF {H : Type} {enc : TypeId × Value → H} {P : Program} {w : World} {base : Nat} {spare : Nat → Bool} {held : Bool} {fuel : Nat} {t : TypeId} {cs : List Value} {x : DataW H × List MemPlace} {k : FloatKind} (ht : P.underlying t = some (.float k)) (h : DataW.trod enc P w base spare held fuel t cs = some x) : ∃ n, cs = [.float k n] ∧ x = (.lit (.float k n), []) ∧ (Lit.float k n).wf = true := by
  cases fuel with
  | zero => simp [DataW.trod] at h
  | succ m =>
    simp only [DataW.trod, ht] at h
    split at h <;> simp_all

/-- A list that came in: its numbers, its room. -/
structure CameF (w : World) (a : Option Addr) (n c : Nat) (xs : List Nat) : Prop where
  len : n = xs.length
  cap : n ≤ c
  wf : W64 xs
  rd : Fs w.heap.size w a xs
  nil : a = none → c = 0

theorem add_noneF (b off i : Nat) : (⟨b, off, none⟩ : Addr).add i = ⟨b, off + i, none⟩ := by unfold Addr.add; split <;> simp_all

def numF {H : Type} (y : DataW H × List MemPlace) : Nat := match y.1 with | .lit (.float _ n) => n | _ => 0

theorem Tryz.cellsF : Tryz.prog.cellsOf 25 = 1 := by kernel_rfl
theorem Tryz.bytesF : Tryz.prog.bytesOf 25 = 8 := by kernel_rfl

theorem cameF_of {H : Type} {enc : TypeId × Value → H} {W : World} {a : Option Addr} {n c : Nat} {d : DataW H} {p : List MemPlace} (h : DataW.Trod enc Tryz.prog W 0 (fun _ => true) true 22 (.slice a n c) d p) :
    ∃ xs, CameF W a n c xs ∧ ((d = .nil ∧ c = 0) ∨ ∃ elems spare : List (DataW H), d = .slice elems spare ∧ elems.length + spare.length = c) := by
  obtain ⟨fuel, hf⟩ := h
  rcases DataW.trod_slice Tryz.underlying22 hf with ⟨hcs, hx⟩ | ⟨x, l, cp, elems, rest, m, _, hcs, hx, hb, hl, hm, hlen, hel, hsp, hns⟩
  · simp [Value.cells] at hcs
    obtain ⟨rfl, rfl, rfl⟩ := hcs
    exact ⟨[], ⟨rfl, Nat.le_refl _, (fun x hx => by cases hx), (fun h => absurd rfl h), fun _ => rfl⟩, .inl ⟨(Prod.mk.inj hx).1, rfl⟩⟩
  · simp [Value.cells] at hcs
    obtain ⟨rfl, rfl, rfl⟩ := hcs
    have each : ∀ i y, i < n → elems[i]? = some y → y = (.lit (.float .f64 (numF y)), []) ∧ (Lit.float .f64 (numF y)).wf = true ∧ W.cell? (x.add i) = some (.float .f64 (numF y)) := by
      intro i y hi hy
      have hb' := hel i hi
      rw [hy, Tryz.cellsF, Nat.mul_one, Option.bind_eq_some_iff] at hb'
      obtain ⟨cs', hcs, hy'⟩ := hb'
      obtain ⟨k, rfl, rfl, hw⟩ := trodF Tryz.underlying25 hy'
      exact ⟨rfl, hw, cell_of_cells?_one hcs⟩
    refine ⟨elems.map numF, ⟨by simp [hlen], hl, ?_, ?_, fun e => by cases e⟩, .inr ⟨_, _, (Prod.mk.inj hx).1, ?_⟩⟩
    · intro y hy
      obtain ⟨z, hz, rfl⟩ := List.mem_map.1 hy
      obtain ⟨i, hi⟩ := List.getElem?_of_mem hz
      have hil := (List.getElem?_eq_some_iff.1 hi).1
      have := (each i z (by omega) hi).2.1
      exact of_decide_eq_true this
    · intro hne
      obtain ⟨b, off, spot⟩ := x
      have hn0 : 0 < n := by
        rcases Nat.eq_zero_or_pos n with h0 | h0
        · rw [h0] at hlen; have := List.eq_nil_of_length_eq_zero hlen; subst this; simp at hne
        · exact h0
      have hc0 := (each 0 (elems[0]'(by omega)) hn0 (List.getElem?_eq_getElem _)).2.2
      have hspot : spot = none := by simpa [Addr.add] using World.cell?_spot hc0
      subst hspot
      refine ⟨b, off, World.block_lt_of_cell? W _ (by simpa [Addr.add] using hc0), rfl, fun i hi => ?_⟩
      rw [List.length_map] at hi
      have hadd := add_noneF b off i
      have := (each i (elems[i]'hi) (by omega) (List.getElem?_eq_getElem _)).2.2
      rw [hadd] at this
      rw [this]
      simp [List.getD_eq_getElem?_getD, hi]
    · have hr := (hsp rfl).1
      simp only [List.length_map]
      omega

/-- The form's own reach. -/
theorem cameF_reach {H : Type} {ts : List TypeId} {ds : List (DataW H)} (h : (DataW.weightsEach Tryz.prog ts ds).all (· ≤ reachBytes) = true) {j : Nat} {d : DataW H} {c n : Nat} (ht : ts[j]? = some 22) (hd : ds[j]? = some d) (hn : n ≤ c)
    (hc : (d = .nil ∧ c = 0) ∨ ∃ elems spare : List (DataW H), d = .slice elems spare ∧ elems.length + spare.length = c) : n ≤ 17592186043904 := by
  rcases hc with ⟨_, rfl⟩ | ⟨elems, spare, rfl, hl⟩
  · omega
  · have := sized_slice h ht hd Tryz.underlying22
    rw [Tryz.bytesF, hl] at this
    simp only [reachBytes] at this
    omega

end Go.Proofs.YteoednbmhiblfaaGreatDoor

/- SumsUsual: the law's walk. -/
namespace Go.Proofs.YteoednbmhiblfaaGreatDoor
open Go.RowKit J
set_option linter.unusedVariables false
set_option maxRecDepth 20000
set_option linter.unusedSimpArgs false

set_option maxHeartbeats 4000000 in
theorem walk2_SumsUsual (a : Option Addr) (n c : Nat) (xs : List Nat) (w : World) (hT : Tab w) (hC : CameF w a n c xs) (hm : n ≤ 17592186043904) :
    Calls Tryz.prog 3 #[.slice a n c] w fun r w' => r = .returned (.bool true) ∧ Below w.heap.size w w' := by
  obtain ⟨hn, hc, hW, hF, _⟩ := hC
  have H0 := hid (live10 w hT)
  have HL := hid (fun (u : World) (hb : Below w.heap.size w u) => rLent10 xs a n c u.heap.size u hn hm ((hF.below hb).mono hb.size) (Nat.le_refl _))
  have hX : ∀ (g : Nat) (u : World), OwnF u g (xs ++ List.replicate 8 mrk) → Fs u.heap.size u (some ⟨g, 0, none⟩) xs := fun g u hO => by
    have := hO.fs hO.lt n
    rw [List.take_append_of_le_length (by omega), List.take_of_length_le (by omega)] at this
    exact this
  have P1 := hid (fun (g : Nat) (u : World) (hO : OwnF u g (xs ++ List.replicate 8 mrk)) => Running10 xs (some ⟨g, 0, none⟩) n (n + 8) u hn (hX g u hO) hW (by omega) (by omega))
  have P2 := hid (fun (g : Nat) (u : World) (hO : OwnF u g (xs ++ List.replicate 8 mrk)) => Halving10 xs (some ⟨g, 0, none⟩) n (n + 8) u hn (hX g u hO) hW hm)
  have P3 := hid (fun (g : Nat) (u : World) (hO : OwnF u g (xs ++ List.replicate 8 mrk)) => Kahan10 xs (some ⟨g, 0, none⟩) n (n + 8) u hn (hX g u hO) hW (by omega))
  have P4 := hid (fun (g : Nat) (u : World) (hO : OwnF u g (xs ++ List.replicate 8 mrk)) => Neumaier10 xs (some ⟨g, 0, none⟩) n (n + 8) u hn (hX g u hO) hW (by omega))
  have HA := hid (fun (g : Nat) (u : World) (hb : Below w.heap.size w u) (hO : OwnF u g (xs ++ List.replicate 8 mrk)) => rAsLent10 xs a n c u.heap.size g u hn hm ((hF.below hb).mono hb.size) (Nat.le_refl _) hO)
  have R1 := hid (fun (u : World) (hb : Below w.heap.size w u) => rRunning10 xs a n c u hn ((hF.below hb).mono hb.size) hW (by omega))
  have R2 := hid (fun (u : World) (hb : Below w.heap.size w u) => rHalving10 n xs a n c u (by omega) hn ((hF.below hb).mono hb.size) hW hc (by omega))
  have R3 := hid (fun (u : World) (hb : Below w.heap.size w u) => rKahan10 xs a n c u hn ((hF.below hb).mono hb.size) hW (by omega))
  have R4 := hid (fun (u : World) (hb : Below w.heap.size w u) => rNeumaier10 xs a n c u hn ((hF.below hb).mono hb.size) hW (by omega))
  have E := hid (fun (x : Nat) (u : World) => exact10 x x u)
  simp only [beq_self_eq_true] at E
  obtain ⟨v1, hv1⟩ : ∃ v, v = runF xs := ⟨_, rfl⟩
  obtain ⟨v2, hv2⟩ : ∃ v, v = hvF xs := ⟨_, rfl⟩
  obtain ⟨v3, hv3⟩ : ∃ v, v = (kaF xs).1 := ⟨_, rfl⟩
  obtain ⟨v4, hv4⟩ : ∃ v, v = plF (neF xs).1 (neF xs).2 := ⟨_, rfl⟩
  rw [← hv1] at P1 R1
  rw [← hv2] at P2 R2
  rw [← hv3] at P3 R3
  rw [← hv4] at P4 R4
  clear hv1 hv2 hv3 hv4 hn hc hW hF hT hX
  go_enter Tryz.func3, Tryz.ntmps3
  go_wp2_with fail
  refine H0.out.mono ?_
  rintro r u0 ⟨rfl, hb⟩
  have B0 := Aside.intro hb
  clear hb H0
  go_wp2_with fail
  refine (HL.out _ B0.out).mono ?_
  rintro r u1 ⟨rfl, hO, hb⟩
  obtain ⟨g, hg⟩ : ∃ g, g = u0.heap.size := ⟨_, rfl⟩
  rw [← hg] at hO ⊢
  have B1 := Aside.intro (And.intro hO (B0.out.trans (hb.mono B0.out.size)))
  clear hb HL hO hg B0
  go_wp2_with fail
  refine (P1.out g _ B1.out.1).mono ?_
  rintro r u2 ⟨rfl, hb⟩
  have B2 := Aside.intro (And.intro (B1.out.1.below hb B1.out.1.lt) (B1.out.2.trans (hb.mono B1.out.2.size)))
  clear hb P1 B1
  go_wp2_with fail
  refine (P2.out g _ B2.out.1).mono ?_
  rintro r u3 ⟨rfl, hb⟩
  have B3 := Aside.intro (And.intro (B2.out.1.below hb B2.out.1.lt) (B2.out.2.trans (hb.mono B2.out.2.size)))
  clear hb P2 B2
  go_wp2_with fail
  refine (P3.out g _ B3.out.1).mono ?_
  rintro r u4 ⟨rfl, hb⟩
  have B4 := Aside.intro (And.intro (B3.out.1.below hb B3.out.1.lt) (B3.out.2.trans (hb.mono B3.out.2.size)))
  clear hb P3 B3
  go_wp2_with fail
  refine (P4.out g _ B4.out.1).mono ?_
  rintro r u5 ⟨rfl, hb⟩
  have B5 := Aside.intro (And.intro (B4.out.1.below hb B4.out.1.lt) (B4.out.2.trans (hb.mono B4.out.2.size)))
  clear hb P4 B4
  go_wp2_with fail
  refine (HA.out g _ B5.out.2 B5.out.1).mono ?_
  rintro r u6 ⟨rfl, hb⟩
  have B6 := Aside.intro (B5.out.2.trans (hb.mono B5.out.2.size))
  clear hb HA B5
  go_wp2_with fail
  refine (R1.out _ B6.out).mono ?_
  rintro r u7 ⟨rfl, hb⟩
  have B7 := Aside.intro (B6.out.trans (hb.mono B6.out.size))
  clear hb R1 B6
  go_wp2_with fail
  refine (E.out v1 _).mono ?_
  rintro r z1 ⟨rfl, rfl⟩
  go_wp2_with fail
  refine (R2.out _ B7.out).mono ?_
  rintro r u8 ⟨rfl, hb⟩
  have B8 := Aside.intro (B7.out.trans (hb.mono B7.out.size))
  clear hb R2 B7
  go_wp2_with fail
  refine (E.out v2 _).mono ?_
  rintro r z2 ⟨rfl, rfl⟩
  go_wp2_with fail
  refine (R3.out _ B8.out).mono ?_
  rintro r u9 ⟨rfl, hb⟩
  have B9 := Aside.intro (B8.out.trans (hb.mono B8.out.size))
  clear hb R3 B8
  go_wp2_with fail
  refine (E.out v3 _).mono ?_
  rintro r z3 ⟨rfl, rfl⟩
  go_wp2_with fail
  refine (R4.out _ B9.out).mono ?_
  rintro r u10 ⟨rfl, hb⟩
  have B10 := Aside.intro (B9.out.trans (hb.mono B9.out.size))
  clear hb R4 B9
  go_wp2_with fail
  refine (E.out v4 _).mono ?_
  rintro r z4 ⟨rfl, rfl⟩
  go_wp2
  go_ret
  exact ⟨rfl, B10.out⟩
end Go.Proofs.YteoednbmhiblfaaGreatDoor

