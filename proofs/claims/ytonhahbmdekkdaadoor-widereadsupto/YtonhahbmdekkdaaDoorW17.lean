/- Cmp, same. -/
import Derived.Test.YtonhahbmdekkdaaDoorW15
import Derived.Deep.RegionWith
namespace Go.Proofs.YtonhahbmdekkdaaDoor
open Go.RowKit
set_option linter.unusedVariables false
set_option maxRecDepth 20000

/-- Which of two is greater, by their highest words that differ. -/
theorem cmp_words (xs ys : List Nat) (hx : Wf xs) (hy : Wf ys) (j d : Nat) (h1 : j + 1 + d ≤ xs.length) (h2 : j + 1 + d ≤ ys.length) (ht : sg xs (j + 1) d = sg ys (j + 1) d) (hlt : xs.getD j 0 < ys.getD j 0) :
    sg xs 0 (j + 1 + d) < sg ys 0 (j + 1 + d) := by
  rw [sg_add xs 0 (j + 1) d (by omega), sg_add ys 0 (j + 1) d (by omega), Nat.zero_add, ht, sg_succ xs 0 j (by omega), sg_succ ys 0 j (by omega), Nat.zero_add]
  have h3 := sg_lt xs 0 j hx (by omega)
  have h4 : pw j * (xs.getD j 0 + 1) ≤ pw j * ys.getD j 0 := Nat.mul_le_mul_left _ hlt
  rw [Nat.mul_add] at h4
  omega

theorem cmp_len (xs ys : List Nat) (hx : Wf xs) (hy : Wf ys) (h : nl xs < nl ys) : val xs < val ys := by
  rw [nl_eq_length xs hx, nl_eq_length ys hy] at h
  have h1 := ws_len_lt (val xs)
  have h2 : val ys ≠ 0 := by intro e; rw [e, ws_zero] at h; simp at h
  have h3 := ws_len_ge (val ys) h2
  have h4 := pw_mono (show (ws (val xs)).length ≤ (ws (val ys)).length - 1 by omega)
  omega

theorem cmpI_lt {x y : Nat} (h : x < y) : cmpI x y = -1 := by simp [cmpI, h]
theorem cmpI_gt {x y : Nat} (h : y < x) : cmpI x y = 1 := by simp [cmpI, h]; omega
theorem cmpI_eq {x y : Nat} (h : x = y) : cmpI x y = 0 := by simp [cmpI, h]
theorem cmpI_congr {a b x y : Nat} (h1 : a < b ↔ x < y) (h2 : b < a ↔ y < x) : cmpI a b = cmpI x y := by simp [cmpI, h1, h2]

set_option maxHeartbeats 2000000 in
theorem cmp_any (xs ys : List Nat) (ao bo : Option Addr) (n cap m capb B : Nat) (w : World) (hn : n = xs.length) (hm : m = ys.length) (hc : n ≤ cap) (hcb : m ≤ capb) (hbig : n ≤ 70368744177664) (hbig2 : m ≤ 70368744177664)
    (hx : Wf xs) (hy : Wf ys) (hR : Rd B w ao xs) (hS : Rd B w bo ys) :
    Calls Tryd.prog 54 #[.slice ao n cap, .slice bo m capb] w fun r w' => r = .returned (.int .i64 (cmpI (val xs) (val ys))) ∧ Below w.heap.size w w' := by
  have H1 := hid (trim_any xs ao n cap B w hn hc (by omega) hR)
  have H2 := hid (trim_any ys bo m capb B w hm hcb (by omega) hS)
  have hl1 := nl_le xs
  have hl2 := nl_le ys
  have f1 := val_form xs hx
  have f2 := val_form ys hy
  rw [← sg_val_take] at f1 f2
  by_cases he : nl xs = nl ys
  · obtain ⟨k0, hk0⟩ : ∃ k, nl ys = k := ⟨_, rfl⟩
    rw [he] at H1 hl1 f1
    rw [hk0] at H1 H2 hl1 hl2 f1 f2
    have HR := (Aside.intro (And.intro hR (And.intro hS (And.intro hn (And.intro hm (And.intro hx (And.intro hy (And.intro hl1 (And.intro hl2 (And.intro f1 f2))))))))))
    have HC : Hid (∀ x y w, _) := compare_u
    have hkn : k0 ≤ n := by omega
    have hkm : k0 ≤ m := by omega
    clear hR hS hn hm hx hy hl1 hl2 f1 f2 he hk0
    go_enter Tryd.func54, Tryd.ntmps54
    go_wp2_with fail
    refine (Calls.mono H1.out) ?_
    rintro r w1 ⟨rfl, rfl⟩
    go_wp2_with fail
    refine (Calls.mono H2.out) ?_
    rintro r w1 ⟨rfl, rfl⟩
    go_wp2
    go_loopg [5] k0 (fun k i wr => k ≤ k0 ∧ i = .int .i64 ((k : Int) - 1) ∧ Hid (Below w1.heap.size w1 wr) ∧ Aside (sg xs k (k0 - k) = sg ys k (k0 - k)))
    case atStart => exact ⟨Nat.le_refl _, rfl, Below.refl _ _, by rw [Nat.sub_self, sg_zero, sg_zero]; exact rfl⟩
    case round =>
      obtain ⟨hk, rfl, HB, HA⟩ := hrel
      by_cases hk0 : gk = 0
      · subst hk0
        go_wp2
        go_ret
        obtain ⟨hR, hS, hn, hm, hx, hy, hl1, hl2, f1, f2⟩ := HR.out
        have h := HA.out
        rw [Nat.sub_zero, f1, f2] at h
        rw [cmpI_eq h]
        exact ⟨rfl, HB.out⟩
      · obtain ⟨k, rfl⟩ : ∃ k, gk = k + 1 := ⟨gk - 1, by omega⟩
        obtain ⟨hR, hS, hn, hm, hx, hy, hl1, hl2, f1, f2⟩ := HR.out
        obtain ⟨b, off, hB1, rfl, hc1⟩ := hR (by intro e; subst e; simp at hl1; omega)
        obtain ⟨b2, off2, hB2, rfl, hc2⟩ := hS (by intro e; subst e; simp at hl2; omega)
        have g1 : wr.cell? ⟨b, off + k, none⟩ = some (.int .u32 ((xs.getD k 0 : Nat) : Int)) :=
          (HB.out.cell (p := ⟨b, off + k, none⟩) (World.block_lt_of_cell? w1 ⟨b, off + k, none⟩ (hc1 k (by omega)))).trans (hc1 k (by omega))
        have g2 : wr.cell? ⟨b2, off2 + k, none⟩ = some (.int .u32 ((ys.getD k 0 : Nat) : Int)) :=
          (HB.out.cell (p := ⟨b2, off2 + k, none⟩) (World.block_lt_of_cell? w1 ⟨b2, off2 + k, none⟩ (hc2 k (by omega)))).trans (hc2 k (by omega))
        obtain ⟨x, hxx⟩ : ∃ x : Nat, xs.getD k 0 = x := ⟨_, rfl⟩
        obtain ⟨y, hyy⟩ : ∃ y : Nat, ys.getD k 0 = y := ⟨_, rfl⟩
        rw [hxx] at g1
        rw [hyy] at g2
        have HX := (Aside.intro (And.intro hxx hyy))
        clear hR hS hn hm hx hy hl1 hl2 f1 f2 hc1 hc2 hxx hyy hk0
        by_cases hxy : x = y
        · subst hxy
          go_wp2
          go_region
          all_goals (
            go_wp2
            go_roundg k
            case measure => omega
            case rel =>
              obtain ⟨hR, hS, hn, hm, hx, hy, hl1, hl2, f1, f2⟩ := HR.out
              refine ⟨by omega, by first | go_num | (congr 1; omega), HB.out.drew, ?_⟩
              have h := HA.out
              obtain ⟨r, hr⟩ : ∃ r, k0 - k = r + 1 := ⟨k0 - (k + 1), by omega⟩
              rw [show k0 - (k + 1) = r by omega] at h
              rw [Aside, hr, sg_front xs k r (by omega), sg_front ys k r (by omega), h, HX.out.1, HX.out.2])
        · have hne : ((x : Int) == (y : Int)) = false := by simp; omega
          have hki : (k : Int) < (k0 : Int) := by omega
          have hki0 : 0 ≤ (k : Int) := by omega
          have hki2 : k < k0 := by omega
          go_wp2
          go_region
          all_goals (
            go_wp2
            go_region_with (go_at_call 103; refine (compare_u x y _).mono ?_; rintro r w2 ⟨rfl, rfl⟩))
          all_goals (
            go_wp2
            go_ret
            obtain ⟨hR, hS, hn, hm, hx, hy, hl1, hl2, f1, f2⟩ := HR.out
            have h := HA.out
            have e : cmpI (val xs) (val ys) = cmpI x y := by
              rw [← f1, ← f2]
              have hk2 : k + 1 + (k0 - (k + 1)) = k0 := by omega
              have t1 := cmp_words xs ys hx hy k (k0 - (k + 1)) (by omega) (by omega) h
              have t2 := cmp_words ys xs hy hx k (k0 - (k + 1)) (by omega) (by omega) h.symm
              rw [hk2, HX.out.1, HX.out.2] at t1 t2
              apply cmpI_congr <;> omega
            rw [e]
            exact ⟨rfl, by first | exact HB.out.drew.drew | exact HB.out.drew | skip⟩)
  · have e : cmpI (val xs) (val ys) = cmpI (nl xs) (nl ys) := by
      rcases Nat.lt_or_gt_of_ne he with h | h
      · rw [cmpI_lt h, cmpI_lt (cmp_len xs ys hx hy h)]
      · rw [cmpI_gt h, cmpI_gt (cmp_len ys xs hy hx h)]
    rw [e]
    obtain ⟨k1, hk1⟩ : ∃ k, nl xs = k := ⟨_, rfl⟩
    obtain ⟨k2, hk2⟩ : ∃ k, nl ys = k := ⟨_, rfl⟩
    rw [hk1] at H1 he ⊢
    rw [hk2] at H2 he ⊢
    have hne : ((k1 : Int) == (k2 : Int)) = false := by simp; omega
    have hne2 : ¬ (k1 : Int) = (k2 : Int) := by omega
    have H3 := hid (compare_i k1 k2 w)
    clear hR hS hn hm hx hy hl1 hl2 f1 f2 hk1 hk2 e he
    go_enter Tryd.func54, Tryd.ntmps54
    go_wp2_with fail
    refine (Calls.mono H1.out) ?_
    rintro r w1 ⟨rfl, rfl⟩
    go_wp2_with fail
    refine (Calls.mono H2.out) ?_
    rintro r w1 ⟨rfl, rfl⟩
    go_wp2_with fail
    refine (Calls.mono H3.out) ?_
    rintro r w1 ⟨rfl, rfl⟩
    go_wp2
    go_ret
    exact ⟨rfl, Below.refl _ _⟩

set_option maxHeartbeats 1000000 in
theorem same_any (xs : List Nat) (ao bo : Option Addr) (n cap capb B : Nat) (w : World) (hn : n = xs.length) (hbig : n ≤ 70368744177664) (hR : Rd B w ao xs) (hS : Rd B w bo xs) :
    Calls Tryd.prog 15 #[.slice ao n cap, .slice bo n capb] w fun r w' => r = .returned (.bool true) ∧ Below w.heap.size w w' := by
  have HR := (Aside.intro (And.intro hR (And.intro hS hn)))
  clear hR hS hn
  go_enter Tryd.func15, Tryd.ntmps15
  go_wp2
  go_loopg [5] n (fun gk i wr => ∃ k : Nat, gk + k = n ∧ i = .int .i64 (k : Nat) ∧ Hid (Below w.heap.size w wr))
  case atStart => exact ⟨0, by omega, rfl, Below.refl _ _⟩
  case round =>
    obtain ⟨k, hgk, rfl, HB⟩ := hrel
    by_cases hk : k < n
    · obtain ⟨hR, hS, hn⟩ := HR.out
      obtain ⟨b, off, hB1, rfl, hc1⟩ := hR (by intro e; subst e; simp at hn; omega)
      obtain ⟨b2, off2, hB2, rfl, hc2⟩ := hS (by intro e; subst e; simp at hn; omega)
      have g1 : wr.cell? ⟨b, off + k, none⟩ = some (.int .u32 ((xs.getD k 0 : Nat) : Int)) :=
        (HB.out.cell (p := ⟨b, off + k, none⟩) (World.block_lt_of_cell? w ⟨b, off + k, none⟩ (hc1 k (by omega)))).trans (hc1 k (by omega))
      have g2 : wr.cell? ⟨b2, off2 + k, none⟩ = some (.int .u32 ((xs.getD k 0 : Nat) : Int)) :=
        (HB.out.cell (p := ⟨b2, off2 + k, none⟩) (World.block_lt_of_cell? w ⟨b2, off2 + k, none⟩ (hc2 k (by omega)))).trans (hc2 k (by omega))
      obtain ⟨x, hxx⟩ : ∃ x : Nat, xs.getD k 0 = x := ⟨_, rfl⟩
      rw [hxx] at g1 g2
      clear hR hS hn hc1 hc2 hxx
      go_wp2
      go_region
      all_goals (
        go_wp2
        go_roundg (gk - 1)
        case measure => omega
        case rel => exact ⟨k + 1, by omega, by go_num, HB.out.drew⟩)
    · obtain rfl : k = n := by omega
      go_wp2
      go_ret
      exact ⟨rfl, HB.out⟩
end Go.Proofs.YtonhahbmdekkdaaDoor
