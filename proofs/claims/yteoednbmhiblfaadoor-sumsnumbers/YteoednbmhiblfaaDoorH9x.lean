/- The program's Halving. -/
import Derived.Test.YteoednbmhiblfaaDoorN2x
import Derived.Test.YteoednbmhiblfaaDoorW10x
import Derived.OwnWalk
import Derived.ArgAppend
import Derived.Maps.AppendAt
import Derived.WalkMore
import Derived.Deep.RegionHeld
import Derived.Test.YteoednbmhiblfaaDoorS11ax
import Derived.Test.YteoednbmhiblfaaDoorD24x
import Derived.Deep.RegionHeld3
namespace Go.Proofs.YteoednbmhiblfaaDoor
open Go.RowKit J
set_option linter.unusedVariables false
set_option maxRecDepth 20000
set_option linter.unusedSimpArgs false
attribute [local go_sem] st_float

set_option maxHeartbeats 2000000 in
theorem clone10 (xs : List Nat) (a : Option Addr) (n c : Nat) (w : World) (hn : n = xs.length) (hF : Fs w.heap.size w a xs) (hm : n ≤ 17592186043904) :
    Calls Tryd.prog 23 #[.slice a n c] w fun r w' => (∃ v', r = .returned v' ∧ w'.ownsRow w.heap.size 24 1 v' n (xs.map Fw10)) ∧ Below w.heap.size w w' := by
  obtain ⟨i0, hi, hz0, hz1, hz2⟩ := info_parts Tryd.info_f64
  have q25 : ∀ (w : World) (a : Option Addr) (n c n' c' : Nat), (binOp .eql 23 (.slice a n c) (.slice none n' c')).run Tryd.prog w = .ok (.bool a.isNone) w := fun w a n c n' c' => Lib.run_eql_slice_nil w _ _ a n c n' c' Tryd.und_floats
  cases a with
  | none =>
    have hx : xs = [] := by
      by_cases h : xs = []
      · exact h
      · obtain ⟨_, _, _, e, _⟩ := hF h; cases e
    subst hx
    simp only [List.length_nil] at hn
    subst hn
    clear hF hm
    go_enter Tryd.func23, Tryd.ntmps23
    go_wp2
    go_ret
    exact ⟨⟨_, rfl, World.ownsRow_nil w w.heap.size 24 1⟩, Below.refl _ _⟩
  | some ad =>
    have A := Aside.intro (And.intro hn (And.intro hF hm))
    clear hF hm hn
    go_enter Tryd.func23, Tryd.ntmps23
    go_wp2_with (at_builtin; refine wpList_append_own _ rfl _ _ 23 rfl w.heap.size 24 i0 (.float .f64 0) 1 8 Tryd.und_floats hi hz0 hz1 hz2 rfl (by decide) _ _ _ rfl (World.ownsRow_made w #[] 0 (Nat.le_refl _) (Nat.zero_le _) (by simp)) ad n c (xs.map Fw10) rfl ?qc1 ?qc2 ?qc3 ?qc4 ?qc5 ?qc6 ?_)
    case qc1 => simp [A.out.1]
    case qc2 =>
      intro j u hj
      have hj2 : j < xs.length := by have := (List.getElem?_eq_some_iff.1 hj).1; simpa using this
      obtain ⟨b, off, e, hc⟩ := A.out.2.1.at (Below.refl _ _) j hj2
      cases e
      rw [Addr.add_lit]
      refine Lib.cell?_alloc_some _ ?_
      rw [hc, ← hj, List.getElem?_map, List.getElem?_eq_getElem hj2, List.getD_eq_getElem?_getD, List.getElem?_eq_getElem hj2]
      rfl
    case qc3 => intro u hu; obtain ⟨x, _, rfl⟩ := List.mem_map.1 hu; rfl
    case qc4 => have := A.out.1; have := A.out.2.2; unfold maxLen; omega
    case qc5 => have := A.out.1; have := A.out.2.2; omega
    case qc6 => simp
    intro v' w1 hown hgrow hnil
    go_wp2
    go_ret
    refine ⟨⟨v', rfl, ?_⟩, ?_⟩
    · simpa using hown
    · exact ((Below.refl _ w).alloc (Nat.le_refl _) _).grown hgrow (by simp) (by intro k hk; simp [Value.ownBlock] at hk; omega)
/-- A row of words in a block: it reads so. -/
def Rw10 (w : World) (g : Nat) (C : List Value) (n : Nat) (R : List Nat) : Prop := Bl w g 24 C ∧ n ≤ C.length ∧ R.length = n ∧ ∀ j, j < n → ∃ z, C[j]? = some (.float .f64 z) ∧ Is z (nrm (R.getD j 0))
theorem own_row10 {w : World} {lo n : Nat} {v : Value} {xs : List Nat} (h : w.ownsRow lo 24 1 v n (xs.map Fw10)) (hW : W64 xs) (hn : n = xs.length) : (v = .slice none 0 0 ∧ n = 0) ∨ ∃ g C, v = .slice (some ⟨g, 0, none⟩) n C.length ∧ lo ≤ g ∧ Rw10 w g C n xs ∧ C.length ≤ maxLen := by
  rcases h.2 with ⟨rfl, hn0⟩ | ⟨g, cap, cur, rfl, hlo, hg, hn1, hm, hs, ht⟩
  · exact .inl ⟨rfl, by simpa using hn0⟩
  · refine .inr ⟨g, cur.toList, ?_, hlo, ⟨?_, ?_, hn.symm, fun j hj => ?_⟩, ?_⟩
    · congr 1
      simp at hs ⊢
      omega
    · unfold Bl; simpa using hg
    · simp at hs ⊢; omega
    · refine ⟨xs.getD j 0, ?_, Is.self (hW.get j)⟩
      have e : (cur.toList.take n)[j]? = some (Fw10 (xs.getD j 0)) := by
        have ht2 : cur.toList.take n = xs.map Fw10 := by simpa using ht
        rw [ht2, List.getElem?_map, List.getElem?_eq_getElem (by omega), List.getD_eq_getElem?_getD, List.getElem?_eq_getElem (by omega)]
        rfl
      rw [List.getElem?_take, if_pos hj] at e
      exact e
    · simp at hs ⊢; omega
theorem two_get : ∀ (l : List Nat) (j : Nat), j < l.length / 2 → (two l).getD j 0 = plF (l.getD (2 * j) 0) (l.getD (2 * j + 1) 0)
  | [], j, h => by simp at h
  | [a], j, h => by simp at h
  | a :: b :: l, 0, h => by simp [two]
  | a :: b :: l, j + 1, h => by
    have ih := two_get l j (by simp at h; omega)
    rw [show 2 * (j + 1) = 2 * j + 1 + 1 by omega]
    simpa [two] using ih
theorem two_last : ∀ (l : List Nat), l.length % 2 = 1 → (two l).getD (l.length / 2) 0 = l.getD (l.length - 1) 0
  | [], h => by simp at h
  | [a], h => by simp [two]
  | a :: b :: l, h => by
    have hl : l.length % 2 = 1 := by simp at h; omega
    have ih := two_last l hl
    have e1 : (a :: b :: l).length / 2 = l.length / 2 + 1 := by simp; omega
    have e2 : (a :: b :: l).length - 1 = (l.length - 1) + 1 + 1 := by simp; omega
    rw [e1, e2]
    simpa [two] using ih
end Go.Proofs.YteoednbmhiblfaaDoor

/- The program's Halving: its loops. -/
namespace Go.Proofs.YteoednbmhiblfaaDoor
open Go.RowKit J
set_option linter.unusedVariables false
set_option maxRecDepth 20000
set_option linter.unusedSimpArgs false
attribute [local go_sem] st_float

/-- While a row is made: what stands ahead of i is the next row's, what stands from 2 i on is this row's. -/
structure Hv10 (w : World) (g cap p : Nat) (R : List Nat) (i : Nat) (wr : World) (C : List Value) : Prop where
  hbl : Bl wr g 24 C
  hcap : C.length = cap
  hroom : p ≤ cap
  hdone : ∀ j, j < i → ∃ z, C[j]? = some (.float .f64 z) ∧ Is z (nrm ((two R).getD j 0))
  hrest : ∀ j, 2 * i ≤ j → j < p → ∃ z, C[j]? = some (.float .f64 z) ∧ Is z (nrm (R.getD j 0))
  hbel : Below w.heap.size w wr
  hown : w.heap.size ≤ g
theorem Hv10.of {w wr : World} {g cap p : Nat} {R : List Nat} {C : List Value} (h : Rw10 wr g C p R) (hc : C.length = cap) (hb : Below w.heap.size w wr) (hg : w.heap.size ≤ g) : Hv10 w g cap p R 0 wr C :=
  ⟨h.1, hc, by have := h.2.1; omega, fun j hj => by omega, fun j _ hj => h.2.2.2 j hj, hb, hg⟩
theorem Hv10.set {w wr u : World} {g cap p : Nat} {R : List Nat} {i z : Nat} {C : List Value} (h : Hv10 w g cap p R i wr C) (hb : Below wr.heap.size wr u) (hi : i < p / 2) (hR : R.length = p) (hz : Is z (nrm ((two R).getD i 0))) : Hv10 w g cap p R (i + 1) (u.setCell ⟨g, i, none⟩ (.float .f64 z)) (C.set i (.float .f64 z)) := by
  have hb2 := h.hbel.trans (hb.mono h.hbel.size)
  have hroom := h.hroom
  have hcap := h.hcap
  refine ⟨(h.hbl.below hb h.hbl.lt).set i _, by rw [List.length_set]; exact h.hcap, h.hroom, fun j hj => ?_, fun j hj hp => ?_, But.below hb2 ((But.refl g u).set i _) hb2.size h.hown, h.hown⟩
  · by_cases e : j = i
    · subst e
      exact ⟨z, by rw [List.getElem?_set_self (by omega)], hz⟩
    · rw [List.getElem?_set_ne (by omega)]
      exact h.hdone j (by omega)
  · rw [List.getElem?_set_ne (by omega)]
    exact h.hrest j (by omega) hp

set_option maxHeartbeats 8000000 in
theorem Halving10 (xs : List Nat) (a : Option Addr) (n c : Nat) (w : World) (hn : n = xs.length) (hF : Fs w.heap.size w a xs) (hW : W64 xs) (hm : n ≤ 17592186043904) :
    Calls Tryd.prog 10 #[.slice a n c] w fun r w' => r = .returned (.float .f64 (hvF xs)) ∧ Below w.heap.size w w' := by
  have H1 := hid (clone10 xs a n c w hn hF hm)
  have HX := Aside.intro (And.intro hn hW)
  have hmb : n ≤ 4611686018427387904 := by omega
  obtain ⟨Y, hY⟩ : ∃ Y, Y = hvF xs := ⟨_, rfl⟩
  rw [← hY]
  have HY := Aside.intro hY
  clear hY
  clear hn hF hW hm
  go_enter Tryd.func10, Tryd.ntmps10
  go_wp2_with fail
  refine (H1.out).mono ?_
  rintro r w1 ⟨⟨v, rfl, hv⟩, hb1⟩
  have B1 := Aside.intro hb1
  clear H1 hb1
  rcases own_row10 hv HX.out.2 HX.out.1 with ⟨rfl, hn0⟩ | ⟨g, C, rfl, hlo, hrow, hml⟩
  · subst hn0
    have hx : xs = [] := List.eq_nil_of_length_eq_zero (by rw [← HX.out.1])
    have HR := hid (Running10 [] none 0 0 w1 rfl (Fs.nil _ _ _) (fun x hx => by cases hx) (by omega) (by omega))
    have e0 : runF [] = Y := by rw [HY.out, hx]; decide
    rw [e0] at HR
    clear hv hx e0
    go_wp2
    go_loopg [3, 4] 1 (fun gk v m wr => v = .slice none 0 0 ∧ m = .int .i64 0 ∧ wr = w1)
    case atStart => exact ⟨rfl, by simp, rfl⟩
    case round =>
      obtain ⟨rfl, rfl, rfl⟩ := hrel
      go_wp2_with fail
      refine (HR.out).mono ?_
      rintro r w2 ⟨rfl, hb2⟩
      have B2 := Aside.intro (B1.out.trans (hb2.mono B1.out.size))
      clear hb2 HR
      go_wp2
      exact bodyPost_ret (v := .float .f64 Y) (by simp [results, Tryd.results10, go_sem]) rfl ⟨rfl, B2.out⟩
  · obtain ⟨cap, hcap⟩ : ∃ cap, cap = C.length := ⟨_, rfl⟩
    have H0 : Aside (Rw10 w1 g C n xs ∧ C.length = cap ∧ w.heap.size ≤ g) := ⟨hrow, hcap.symm, hlo⟩
    rw [← hcap]
    clear hv hrow hlo hcap hml
    go_wp2
    go_loopg [3, 4] n (fun gk v m wr => ∃ p : Nat, p ≤ gk ∧ p ≤ n ∧ v = .slice (some ⟨g, 0, none⟩) p cap ∧ m = .int .i64 (p : Nat) ∧ Aside (∃ r C, Rw10 wr g C p (twos r xs) ∧ C.length = cap ∧ Below w.heap.size w wr))
    case atStart => exact ⟨n, by omega, by omega, rfl, by simp, 0, C, H0.out.1, H0.out.2.1, B1.out⟩
    case round =>
      obtain ⟨p, hpg, hpn, rfl, rfl, HA⟩ := hrel
      obtain ⟨G, rfl⟩ : ∃ G, G = gk := ⟨_, rfl⟩
      by_cases hp : 1 < p
      · obtain ⟨h, hh⟩ : ∃ h, h = p / 2 := ⟨_, rfl⟩
        have hq1 : Int.tdiv (p : Int) 2 = (h : Int) := by rw [hh]; rfl
        have hhb : h < p ∧ 2 * h ≤ p ∧ p ≤ 2 * h + 1 := by omega
        obtain ⟨r, C0, hrw, hc0, hb0⟩ := HA.out
        have HV := Aside.intro (And.intro (Hv10.of (cap := cap) hrw hc0 hb0 H0.out.2.2) (And.intro hrw.2.2.1 (W64_twos r xs HX.out.2)))
        have HR := Aside.intro (twos_out r xs)
        obtain ⟨R, hR⟩ : ∃ R, R = twos r xs := ⟨_, rfl⟩
        rw [← hR] at HV HR
        have HH := Aside.intro (And.intro hh (And.intro hhb hR))
        clear hrw hc0 hb0 hR HA hh
        have hd1 : decide ((1 : Int) < (p : Int)) = true := by simp; omega
        go_wp2
        go_loopg [16] h (fun gk i wr => ∃ i' : Nat, gk + i' = h ∧ i = .int .i64 (i' : Nat) ∧ Aside (∃ C, Hv10 w g cap p R i' wr C))
        case atStart => exact ⟨0, by omega, by simp, C0, HV.out.1⟩
        case round =>
          obtain ⟨i, hgi, rfl, HI⟩ := hrel
          by_cases hi : i < h
          · obtain ⟨C1, hC1⟩ := HI.out
            obtain ⟨z1, hz1, hs1⟩ := hC1.hrest (2 * i) (Nat.le_refl _) (by omega)
            obtain ⟨z2, hz2, hs2⟩ := hC1.hrest (2 * i + 1) (by omega) (by omega)
            have HP : Hid (∀ u : World, Calls Tryd.prog 24 #[.float .f64 z1, .float .f64 z2] u fun r w' => ∃ z', r = .returned (.float .f64 z') ∧ Is z' (nrm ((two R).getD i 0)) ∧ Below u.heap.size u w') := fun u => by
              have h := plus10 hs1 hs2 u
              have e := add_nrm (getD_lt HV.out.2.2 (2 * i)) (getD_lt HV.out.2.2 (2 * i + 1))
              rw [two_get R i (by rw [HV.out.2.1]; have := HH.out.1; omega), plF_nrm]
              rw [show plF (nrm (R.getD (2 * i) 0)) (nrm (R.getD (2 * i + 1) 0)) = plF (R.getD (2 * i) 0) (R.getD (2 * i + 1) 0) from e] at h
              exact h
            have kS := Aside.intro (And.intro (hC1.hbl.drew.cell (2 * i) _ hz1) (hC1.hbl.drew.cell (2 * i + 1) _ hz2))
            have hx1 : IntKind.i64.wrap (2 * (i : Int)) = 2 * (i : Int) := by rw [IntKind.wrap_i64]; omega
            have hx2 : IntKind.i64.wrap (2 * (i : Int) + 1) = 2 * (i : Int) + 1 := by rw [IntKind.wrap_i64]; omega
            have ht1 : (2 * (i : Int)).toNat = 2 * i := by omega
            have ht2 : (2 * (i : Int) + 1).toNat = 2 * i + 1 := by omega
            have hb1 : 0 ≤ 2 * (i : Int) := by omega
            have hb2 : 2 * (i : Int) < (p : Int) := by omega
            have hb3 : 0 ≤ 2 * (i : Int) + 1 := by omega
            have hb4 : 2 * (i : Int) + 1 < (p : Int) := by omega
            have hi1 : i < p := by omega
            have hcl : ∃ v, C1[i]? = some v := ⟨_, List.getElem?_eq_getElem (by rw [hC1.hcap]; have := hC1.hroom; omega)⟩
            have HC1 := Aside.intro (And.intro hC1 hcl)
            clear hC1 hs1 hs2 hcl
            go_wp2_with fail
            refine until_region (fun u => u.cell? ⟨g, 2 * i, none⟩ = some (.float .f64 z1) ∧ u.cell? ⟨g, 2 * i + 1, none⟩ = some (.float .f64 z2)) 15 (by kernel_rfl) ?_
            refine until_take (i := 0) [14] (v := ?_) rfl (by kernel_rfl) (by kernel_rfl) (by kernel_rfl) (by kernel_rfl) (by kernel_rfl) (fun _ _ _ h => h) (Or.inl ⟨by rfl, ?_⟩) kS.out ?_
            rotate_left
            · intro u hSu
              try dsimp only at hSu
              first | (go_simp; done) | (go_simp; with_reducible rfl)
            try simp only [Act.put, List.setIfInBounds_toArray, List.set_cons_zero, List.set_cons_succ]
            refine until_take (i := 1) [14] (v := ?_) rfl (by kernel_rfl) (by kernel_rfl) (by kernel_rfl) (by kernel_rfl) (by kernel_rfl) (fun _ _ _ h => h) (Or.inl ⟨by rfl, ?_⟩) kS.out ?_
            rotate_left
            · intro u hSu
              try dsimp only at hSu
              first | (go_simp; done) | (go_simp; with_reducible rfl)
            try simp only [Act.put, List.setIfInBounds_toArray, List.set_cons_zero, List.set_cons_succ]
            refine until_take (i := 2) [5, 6, 13] (v := ?_) rfl (by kernel_rfl) (by kernel_rfl) (by kernel_rfl) (by kernel_rfl) (by kernel_rfl) (fun _ _ _ h => h) (Or.inl ⟨by rfl, ?_⟩) kS.out ?_
            rotate_left
            · intro u hSu
              try dsimp only at hSu
              first | (go_simp; done) | (go_simp; with_reducible rfl)
            try simp only [Act.put, List.setIfInBounds_toArray, List.set_cons_zero, List.set_cons_succ]
            refine until_take (i := 3) [4, 5, 6, 13] (v := ?_) rfl (by kernel_rfl) (by kernel_rfl) (by kernel_rfl) (by kernel_rfl) (by kernel_rfl) (fun _ _ _ h => h) (Or.inl ⟨by rfl, ?_⟩) kS.out ?_
            rotate_left
            · intro u hSu
              try dsimp only at hSu
              first | (go_simp; done) | (go_simp; with_reducible rfl)
            try simp only [Act.put, List.setIfInBounds_toArray, List.set_cons_zero, List.set_cons_succ]
            refine until_take (i := 4) [5, 6, 13] (v := ?_) rfl (by kernel_rfl) (by kernel_rfl) (by kernel_rfl) (by kernel_rfl) (by kernel_rfl) (fun _ _ _ h => h) (Or.inl ⟨by rfl, ?_⟩) kS.out ?_
            rotate_left
            · intro u hSu
              try dsimp only at hSu
              first | (go_simp; done) | (go_simp; with_reducible rfl)
            try simp only [Act.put, List.setIfInBounds_toArray, List.set_cons_zero, List.set_cons_succ]
            refine until_take (i := 5) [6, 13] (v := ?_) rfl (by kernel_rfl) (by kernel_rfl) (by kernel_rfl) (by kernel_rfl) (by kernel_rfl) (fun _ _ _ h => h) (Or.inl ⟨by rfl, ?_⟩) kS.out ?_
            rotate_left
            · intro u hSu
              try dsimp only at hSu
              first | (go_simp; done) | (go_simp; with_reducible rfl)
            try simp only [Act.put, List.setIfInBounds_toArray, List.set_cons_zero, List.set_cons_succ]
            refine until_take (i := 6) [13] (v := ?_) rfl (by kernel_rfl) (by kernel_rfl) (by kernel_rfl) (by kernel_rfl) (by kernel_rfl) (fun _ _ _ h => h) (Or.inl ⟨by rfl, ?_⟩) kS.out ?_
            rotate_left
            · intro u hSu
              try dsimp only at hSu
              first | (go_simp; done) | (go_simp; with_reducible rfl)
            try simp only [Act.put, List.setIfInBounds_toArray, List.set_cons_zero, List.set_cons_succ]
            refine until_take (i := 7) [11, 12, 13] (v := ?_) rfl (by kernel_rfl) (by kernel_rfl) (by kernel_rfl) (by kernel_rfl) (by kernel_rfl) (fun _ _ _ h => h) (Or.inl ⟨by rfl, ?_⟩) kS.out ?_
            rotate_left
            · intro u hSu
              try dsimp only at hSu
              first | (go_simp; done) | (go_simp; with_reducible rfl)
            try simp only [Act.put, List.setIfInBounds_toArray, List.set_cons_zero, List.set_cons_succ]
            refine until_take (i := 8) [9, 10, 11, 12, 13] (v := ?_) rfl (by kernel_rfl) (by kernel_rfl) (by kernel_rfl) (by kernel_rfl) (by kernel_rfl) (fun _ _ _ h => h) (Or.inl ⟨by rfl, ?_⟩) kS.out ?_
            rotate_left
            · intro u hSu
              try dsimp only at hSu
              first | (go_simp; done) | (go_simp; with_reducible rfl)
            try simp only [Act.put, List.setIfInBounds_toArray, List.set_cons_zero, List.set_cons_succ]
            refine until_take (i := 9) [10, 11, 12, 13] (v := ?_) rfl (by kernel_rfl) (by kernel_rfl) (by kernel_rfl) (by kernel_rfl) (by kernel_rfl) (fun _ _ _ h => h) (Or.inl ⟨by rfl, ?_⟩) kS.out ?_
            rotate_left
            · intro u hSu
              try dsimp only at hSu
              first | (go_simp; done) | (go_simp; with_reducible rfl)
            try simp only [Act.put, List.setIfInBounds_toArray, List.set_cons_zero, List.set_cons_succ]
            refine until_take (i := 10) [11, 12, 13] (v := ?_) rfl (by kernel_rfl) (by kernel_rfl) (by kernel_rfl) (by kernel_rfl) (by kernel_rfl) (fun _ _ _ h => h) (Or.inl ⟨by rfl, ?_⟩) kS.out ?_
            rotate_left
            · intro u hSu
              try dsimp only at hSu
              first | (go_simp; done) | (go_simp; with_reducible rfl)
            try simp only [Act.put, List.setIfInBounds_toArray, List.set_cons_zero, List.set_cons_succ]
            refine until_take (i := 11) [12, 13] (v := ?_) rfl (by kernel_rfl) (by kernel_rfl) (by kernel_rfl) (by kernel_rfl) (by kernel_rfl) (fun _ _ _ h => h) (Or.inl ⟨by rfl, ?_⟩) kS.out ?_
            rotate_left
            · intro u hSu
              try dsimp only at hSu
              first | (go_simp; done) | (go_simp; with_reducible rfl)
            try simp only [Act.put, List.setIfInBounds_toArray, List.set_cons_zero, List.set_cons_succ]
            refine until_take (i := 12) [13] (v := ?_) rfl (by kernel_rfl) (by kernel_rfl) (by kernel_rfl) (by kernel_rfl) (by kernel_rfl) (fun _ _ _ h => h) (Or.inl ⟨by rfl, ?_⟩) kS.out ?_
            rotate_left
            · intro u hSu
              try dsimp only at hSu
              first | (go_simp; done) | (go_simp; with_reducible rfl)
            try simp only [Act.put, List.setIfInBounds_toArray, List.set_cons_zero, List.set_cons_succ]
            refine until_one (i := 13) (by kernel_rfl) rfl (fun K' hK => ?_)
            go_simp
            refine (HP.out _).mono ?_
            rintro r u ⟨z, rfl, hz, hb⟩
            have HZ := Aside.intro (And.intro hz hb)
            have kS := Aside.intro (And.intro ((HC1.out.1.hbl.drew.below hb HC1.out.1.hbl.lt).cell (2 * i) _ hz1) ((HC1.out.1.hbl.drew.below hb HC1.out.1.hbl.lt).cell (2 * i + 1) _ hz2))
            clear hz hb
            dsimp only
            refine hK.out _ _ (fun _ => kS.out) ?_
            clear hK K'
            try simp only [Act.put, List.setIfInBounds_toArray, List.set_cons_zero, List.set_cons_succ]
            refine until_one (i := 14) (by kernel_rfl) rfl (fun K' hK => ?_)
            go_simp
            refine hK.out _ _ (fun _ => kS.out) ?_
            clear hK K'
            try simp only [Act.put, List.setIfInBounds_toArray, List.set_cons_zero, List.set_cons_succ]
            obtain ⟨vi, hvi⟩ := HC1.out.2
            have hcc := (HC1.out.1.hbl.drew.below HZ.out.2 HC1.out.1.hbl.lt).cell i _ hvi
            have hfz := (HC1.out.1.hbl.drew.below HZ.out.2 HC1.out.1.hbl.lt).frozen i
            refine until_one (i := 15) (by kernel_rfl) rfl (fun K' hK => ?_)
            go_simp
            refine hK.out _ _ (fun h => absurd h (by decide)) ?_
            clear hK K' kS hz1 hz2 hcc hfz hvi
            refine until_done (by kernel_rfl) ?_ _
            go_wp2
            go_roundg (gk - 1)
            case measure => omega
            case rel => exact ⟨i + 1, by omega, by first | rfl | simp, _, HC1.out.1.set ((Below.refl _ _).drew.trans HZ.out.2) (by have := HH.out.1; omega) HV.out.2.1 HZ.out.1⟩
          · have hdi : decide ((i : Int) < (h : Int)) = false := by simp; omega
            obtain rfl : h = i := by omega
            obtain ⟨C1, hC1⟩ := HI.out
            have HC1 := Aside.intro hC1
            have hlen : (two R).length = p - h := by rw [two_len, HV.out.2.1, ← HH.out.1]
            have HN := Aside.intro hlen
            clear hC1 hlen
            have hqs : IntKind.i64.wrap ((p : Int) - (h : Int)) = ((p - h : Nat) : Int) := by rw [IntKind.wrap_i64]; omega
            have hq4 : (((p : Int) - (h : Int))).toNat = p - h := by omega
            have hqc : p - h ≤ cap := by have := HC1.out.hroom; omega
            have hq5 : IntKind.i64.wrap ((p : Int) - 1) = (p : Int) - 1 := by rw [IntKind.wrap_i64]; omega
            have hq6 : ((p : Int) - 1).toNat = p - 1 := by omega
            by_cases ho : p % 2 = 1
            · obtain ⟨z, hz, hs⟩ := HC1.out.hrest (p - 1) (by have := HH.out.1; omega) (by omega)
              have c1 := HC1.out.hbl.cell (p - 1) _ hz
              have hlt2 : h < C1.length := by rw [HC1.out.hcap]; have := HC1.out.hroom; omega
              have c2 := HC1.out.hbl.cell h _ (List.getElem?_eq_getElem hlt2)
              obtain ⟨vi, hvi⟩ : ∃ vi, vi = C1[h] := ⟨_, rfl⟩
              rw [← hvi] at c2
              have f2 := HC1.out.hbl.frozen h
              have hrem : Int.tmod (p : Int) 2 = 1 := by rw [show Int.tmod (p : Int) 2 = ((p % 2 : Nat) : Int) from rfl, ho]; rfl
              have HNX : Aside (Rw10 (wr.setCell ⟨g, h, none⟩ (.float .f64 z)) g (C1.set h (.float .f64 z)) (p - h) (two R) ∧ (C1.set h (.float .f64 z)).length = cap ∧ Below w.heap.size w (wr.setCell ⟨g, h, none⟩ (.float .f64 z))) := by
                refine ⟨⟨HC1.out.hbl.set h _, by rw [List.length_set, HC1.out.hcap]; omega, HN.out, fun j hj => ?_⟩, by rw [List.length_set]; exact HC1.out.hcap, But.below HC1.out.hbel ((But.refl g wr).set h _) HC1.out.hbel.size HC1.out.hown⟩
                by_cases e : j = h
                · subst e
                  refine ⟨z, by rw [List.getElem?_set_self hlt2], ?_⟩
                  have e2 := two_last R (by rw [HV.out.2.1]; exact ho)
                  rw [HV.out.2.1, ← HH.out.1] at e2
                  rw [e2]
                  exact hs
                · rw [List.getElem?_set_ne (by omega)]
                  exact HC1.out.hdone j (by omega)
              clear hz hs hvi hlt2
              go_wp2
              go_roundg (G - 1)
              case measure => omega
              case rel => exact ⟨p - h, by omega, by omega, rfl, rfl, r + 1, _, by rw [HR.out]; exact HNX.out.1, HNX.out.2.1, HNX.out.2.2⟩
            · have hrem : Int.tmod (p : Int) 2 = 0 := by rw [show Int.tmod (p : Int) 2 = ((p % 2 : Nat) : Int) from rfl, show p % 2 = 0 by omega]; rfl
              have HNX : Aside (Rw10 wr g C1 (p - h) (two R) ∧ C1.length = cap ∧ Below w.heap.size w wr) :=
                ⟨⟨HC1.out.hbl, by rw [HC1.out.hcap]; omega, HN.out, fun j hj => HC1.out.hdone j (by omega)⟩, HC1.out.hcap, HC1.out.hbel⟩
              go_wp2
              go_roundg (G - 1)
              case measure => omega
              case rel => exact ⟨p - h, by omega, by omega, rfl, rfl, r + 1, _, by rw [HR.out]; exact HNX.out.1, HNX.out.2.1, HNX.out.2.2⟩
      · obtain ⟨r, C0, hrw, hc0, hb0⟩ := HA.out
        have hd1 : decide ((1 : Int) < (p : Int)) = false := by simp; omega
        have HE := hv_any r xs (by rw [hrw.2.2.1]; omega)
        have HR : Hid (Calls Tryd.prog 9 #[.slice (some ⟨g, 0, none⟩) p cap] wr fun r w' => r = .returned (.float .f64 Y) ∧ Below wr.heap.size wr w') := by
          by_cases h0 : p = 0
          · subst h0
            have h := Running10 [] (some ⟨g, 0, none⟩) 0 cap wr rfl (Fs.nil _ _ _) (fun x hx => by cases hx) (by omega) (by omega)
            have e : runF [] = Y := by
              rw [HY.out, HE, List.eq_nil_of_length_eq_zero hrw.2.2.1]; rfl
            rw [e] at h
            exact h
          · obtain rfl : p = 1 := by omega
            obtain ⟨z, hz, hs⟩ := hrw.2.2.2 0 (by omega)
            have h := Running10 [z] (some ⟨g, 0, none⟩) 1 cap wr rfl (fun _ => ⟨g, 0, hrw.1.lt, rfl, fun i hi => by
              have : i = 0 := by simp at hi; omega
              subst this
              rw [hrw.1.cell 0 _ hz]; rfl⟩) (fun x hx => by
              have : x = z := by simpa using hx
              rw [this]; exact hs.1) (by have := hrw.2.1; omega) (by omega)
            have e : runF [z] = Y := by
              rw [HY.out, HE]; exact hs.2
            rw [e] at h
            exact h
        have HB := Aside.intro hb0
        clear hrw hc0 hb0 HE HA
        go_wp2_with fail
        refine (HR.out).mono ?_
        rintro r w2 ⟨rfl, hb2⟩
        have B2 := Aside.intro (HB.out.trans (hb2.mono HB.out.size))
        clear hb2 HR
        go_wp2
        exact bodyPost_ret (v := .float .f64 Y) (by simp [results, Tryd.results10, go_sem]) rfl ⟨rfl, B2.out⟩
end Go.Proofs.YteoednbmhiblfaaDoor

/- SumsNumbers: errors, limits; sums of none, of -0 alone. -/
namespace Go.Proofs.YteoednbmhiblfaaDoor
open Go.RowKit J
set_option linter.unusedVariables false
set_option maxRecDepth 20000
set_option linter.unusedSimpArgs false
attribute [local go_sem] B.f64bits B.f64frombits

theorem exactd (x y : Nat) (w : World) : Calls Tryd.prog 8 #[.float .f64 x, .float .f64 y] w fun r w' => r = .returned (.bool (x == y)) ∧ w' = w := by
  have e2 : ((x : Int) == (y : Int)) = (x == y) := by rw [Bool.eq_iff_iff, beq_iff_eq, beq_iff_eq]; omega
  go_enter Tryd.func8, Tryd.ntmps8
  go_wp2
  exact bodyPost_ret (v := .bool (x == y)) (by simp [results, Tryd.results8, go_sem, e2]) rfl ⟨rfl, rfl⟩
theorem m0_run : runF [9223372036854775808] = 9223372036854775808 := by kernel_rfl
theorem m0_hv : hvF [9223372036854775808] = 9223372036854775808 := by kernel_rfl
theorem m0_ka : (kaF [9223372036854775808]).1 = 0 := by kernel_rfl
theorem m0_ne : plF (neF [9223372036854775808]).1 (neF [9223372036854775808]).2 = 0 := by kernel_rfl
theorem n_run : runF [] = 0 := by kernel_rfl
theorem n_hv : hvF [] = 0 := by kernel_rfl
theorem n_ka : (kaF []).1 = 0 := by kernel_rfl
theorem n_ne : plF (neF []).1 (neF []).2 = 0 := by kernel_rfl
theorem n_rd : rd7 (vS []) (sS []) 3 0 0 = (0, 0) := by kernel_rfl

set_option maxHeartbeats 8000000 in
theorem walk_SumsNumbers (w : World) (hT : Tab w) : Calls Tryd.prog 3 #[] w fun r w' => r = .returned (.bool true) ∧ Below w.heap.size w w' := by
  have H0 := hid (live10 w hT)
  have HT := Aside.intro hT
  have w0 : W64 [] := fun x hx => by cases hx
  have w1 : W64 [9223372036854775808] := by intro x hx; simp only [List.mem_cons, List.not_mem_nil, or_false] at hx; subst hx; decide
  have HC0 := hid (fun u : World => copy_word 0 (by decide) u)
  have X := hid (fun (u : World) (hb : Below w.heap.size w u) => Exact10 [] none 0 0 3 0 0 u rfl (Fs.nil _ _ _) w0 (HT.out.belows hb) (by decide) (by decide) (by decide) (by decide) (by decide) (by decide))
  have A1 := hid (fun u : World => Running10 [] none 0 0 u rfl (Fs.nil _ _ _) w0 (by decide) (by decide))
  have A2 := hid (fun u : World => Halving10 [] none 0 0 u rfl (Fs.nil _ _ _) w0 (by decide))
  have A3 := hid (fun u : World => Kahan10 [] none 0 0 u rfl (Fs.nil _ _ _) w0 (by decide))
  have A4 := hid (fun u : World => Neumaier10 [] none 0 0 u rfl (Fs.nil _ _ _) w0 (by decide))
  have hf : ∀ (g : Nat) (u : World), Bl u g 24 [.float .f64 9223372036854775808] → Fs u.heap.size u (some ⟨g, 0, none⟩) [9223372036854775808] := fun g u h _ => ⟨g, 0, h.lt, rfl, fun i hi => by
    have : i = 0 := by simp at hi; omega
    subst this
    exact h.cell _ _ rfl⟩
  have C1 := hid (fun (g : Nat) (u : World) (h : Bl u g 24 [.float .f64 9223372036854775808]) => Running10 [9223372036854775808] (some ⟨g, 0, none⟩) 1 1 u rfl (hf g u h) w1 (by decide) (by decide))
  have C2 := hid (fun (g : Nat) (u : World) (h : Bl u g 24 [.float .f64 9223372036854775808]) => Halving10 [9223372036854775808] (some ⟨g, 0, none⟩) 1 1 u rfl (hf g u h) w1 (by decide))
  have C3 := hid (fun (g : Nat) (u : World) (h : Bl u g 24 [.float .f64 9223372036854775808]) => Kahan10 [9223372036854775808] (some ⟨g, 0, none⟩) 1 1 u rfl (hf g u h) w1 (by decide))
  have C4 := hid (fun (g : Nat) (u : World) (h : Bl u g 24 [.float .f64 9223372036854775808]) => Neumaier10 [9223372036854775808] (some ⟨g, 0, none⟩) 1 1 u rfl (hf g u h) w1 (by decide))
  rw [n_rd] at X
  rw [n_run] at A1
  rw [n_hv] at A2
  rw [n_ka] at A3
  rw [n_ne] at A4
  rw [m0_run] at C1
  rw [m0_hv] at C2
  rw [m0_ka] at C3
  rw [m0_ne] at C4
  have E := hid (fun (x : Nat) (u : World) => exactd x x u)
  simp only [beq_self_eq_true] at E
  have HC : Hid (∀ u : World, Calls Tryd.prog 6 #[.float .f64 0, .float .f64 13830554455654793216] u fun r w' => r = .returned (.float .f64 9223372036854775808) ∧ w' = u) := fun u => HC0.out u
  clear hT hf w0 w1 HC0
  go_enter Tryd.func3, Tryd.ntmps3
  go_wp2_with fail
  refine H0.out.mono ?_
  rintro r u0 ⟨rfl, hb⟩
  have B0 := Aside.intro hb
  clear hb H0
  go_wp2_with fail
  refine (HC.out _).mono ?_
  rintro r u1 ⟨rfl, rfl⟩
  clear HC
  obtain ⟨W, hW⟩ : ∃ W, W = u1.alloc (.cells #[.float .f64 9223372036854775808] 24) := ⟨_, rfl⟩
  have HW : Aside (Bl W u1.heap.size 24 [.float .f64 9223372036854775808] ∧ Below w.heap.size w W) := by
    rw [hW]; exact ⟨Bl.new _ _ _, B0.out.trans ((bel_alloc _ _).mono B0.out.size)⟩
  have HWW := Aside.intro hW
  obtain ⟨g, hg⟩ : ∃ g, g = u1.heap.size := ⟨_, rfl⟩
  have HG := Aside.intro hg
  clear hW hg
  go_wp2_with fail
  rw [← HWW.out]
  refine (X.out _ HW.out.2).mono ?_
  rintro r v0 ⟨rfl, hb⟩
  have B := Aside.intro (And.intro (HW.out.1.below hb HW.out.1.lt) (HW.out.2.trans (hb.mono HW.out.2.size)))
  clear hb X HW HWW
  go_wp2_with fail
  refine (A1.out _).mono ?_
  rintro r v1 ⟨rfl, hb⟩
  have B1 := Aside.intro (And.intro (B.out.1.below hb B.out.1.lt) (B.out.2.trans (hb.mono B.out.2.size)))
  clear hb B
  go_wp2_with fail
  refine (E.out 0 _).mono ?_
  rintro r q ⟨rfl, rfl⟩
  go_wp2_with fail
  refine (A2.out _).mono ?_
  rintro r v2 ⟨rfl, hb⟩
  have B2 := Aside.intro (And.intro (B1.out.1.below hb B1.out.1.lt) (B1.out.2.trans (hb.mono B1.out.2.size)))
  clear hb B1
  go_wp2_with fail
  refine (E.out 0 _).mono ?_
  rintro r q ⟨rfl, rfl⟩
  go_wp2_with fail
  refine (A3.out _).mono ?_
  rintro r v3 ⟨rfl, hb⟩
  have B3 := Aside.intro (And.intro (B2.out.1.below hb B2.out.1.lt) (B2.out.2.trans (hb.mono B2.out.2.size)))
  clear hb B2
  go_wp2_with fail
  refine (E.out 0 _).mono ?_
  rintro r q ⟨rfl, rfl⟩
  go_wp2_with fail
  refine (A4.out _).mono ?_
  rintro r v4 ⟨rfl, hb⟩
  have B4 := Aside.intro (And.intro (B3.out.1.below hb B3.out.1.lt) (B3.out.2.trans (hb.mono B3.out.2.size)))
  clear hb B3
  go_wp2_with fail
  refine (E.out 0 _).mono ?_
  rintro r q ⟨rfl, rfl⟩
  go_wp2_with fail
  refine (E.out 0 _).mono ?_
  rintro r q ⟨rfl, rfl⟩
  go_upto_region 6 with fail
  clear A1 A2 A3 A4
  have BB := Aside.intro (And.intro B4.out.1.drew B4.out.2.drew)
  have kS := Aside.intro (BB.out.1.cell 0 _ rfl)
  go_region_held3 (fun w' => w'.cell? ⟨u1.heap.size, 0, none⟩ = some (.float .f64 9223372036854775808)) (with_reducible exact kS.out) (first
    | (go_at_call 9
       with_reducible refine (C1.out _ _ BB.out.1).mono ?_
       rintro r u ⟨rfl, hb⟩
       have BB := Aside.intro (And.intro (BB.out.1.below hb BB.out.1.lt) (BB.out.2.trans (hb.mono BB.out.2.size)))
       have kS := Aside.intro (BB.out.1.cell 0 _ rfl)
       clear hb)
    | (go_at_call 10
       with_reducible refine (C2.out _ _ BB.out.1).mono ?_
       rintro r u ⟨rfl, hb⟩
       have BB := Aside.intro (And.intro (BB.out.1.below hb BB.out.1.lt) (BB.out.2.trans (hb.mono BB.out.2.size)))
       have kS := Aside.intro (BB.out.1.cell 0 _ rfl)
       clear hb)
    | (go_at_call 11
       with_reducible refine (C3.out _ _ BB.out.1).mono ?_
       rintro r u ⟨rfl, hb⟩
       have BB := Aside.intro (And.intro (BB.out.1.below hb BB.out.1.lt) (BB.out.2.trans (hb.mono BB.out.2.size)))
       have kS := Aside.intro (BB.out.1.cell 0 _ rfl)
       clear hb)
    | (go_at_call 12
       with_reducible refine (C4.out _ _ BB.out.1).mono ?_
       rintro r u ⟨rfl, hb⟩
       have BB := Aside.intro (And.intro (BB.out.1.below hb BB.out.1.lt) (BB.out.2.trans (hb.mono BB.out.2.size)))
       have kS := Aside.intro (BB.out.1.cell 0 _ rfl)
       clear hb)
    | (go_at_call 8
       with_reducible refine (E.out _ _).mono ?_
       rintro r q ⟨rfl, rfl⟩))
  all_goals (
    clear kS
    go_wp2
    go_ret
    exact ⟨rfl, BB.out.2⟩)
end Go.Proofs.YteoednbmhiblfaaDoor

