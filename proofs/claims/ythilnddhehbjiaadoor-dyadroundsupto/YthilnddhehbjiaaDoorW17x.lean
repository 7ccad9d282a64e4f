import Derived.Test.YthilnddhehbjiaaDoorW15
import Derived.Deep.RegionWith
import Derived.Test.YthilnddhehbjiaaDoorM8x
/- Cmp, same. -/
namespace Go.Proofs.YthilnddhehbjiaaDoor
open Go.RowKit
set_option linter.unusedVariables false
set_option maxRecDepth 20000

/-- Which of two is greater, by their highest words that differ. -/
theorem cmp_words (xs ys : List Nat) (hx : Wf xs) (hy : Wf ys) (j d : Nat) (h1 : j + 1 + d ≤ xs.length) (h2 : j + 1 + d ≤ ys.length) (ht : sg xs (j + 1) d = sg ys (j + 1) d) (hlt : xs.getD j 0 < ys.getD j 0) :
    sg xs 0 (j + 1 + d) < sg ys 0 (j + 1 + d) := by
  rw [sg_add xs 0 (j + 1) d (by omega), sg_add ys 0 (j + 1) d (by omega), Nat.zero_add, ht, sg_succ xs 0 j (by omega), sg_succ ys 0 j (by omega), Nat.zero_add]
  have h3 := sg_lt xs 0 j hx (by omega)
  have h4 : pw j * (xs.getD j 0 + 1) ≤ pw j * ys.getD j 0 := Nat.mul_le_mul_left _ hlt
  rw [Nat.mul_add] at h4
  omega

theorem cmp_len (xs ys : List Nat) (hx : Wf xs) (hy : Wf ys) (h : nl xs < nl ys) : val xs < val ys := by
  rw [nl_eq_length xs hx, nl_eq_length ys hy] at h
  have h1 := ws_len_lt (val xs)
  have h2 : val ys ≠ 0 := by intro e; rw [e, ws_zero] at h; simp at h
  have h3 := ws_len_ge (val ys) h2
  have h4 := pw_mono (show (ws (val xs)).length ≤ (ws (val ys)).length - 1 by omega)
  omega

theorem cmpI_lt {x y : Nat} (h : x < y) : cmpI x y = -1 := by simp [cmpI, h]
theorem cmpI_gt {x y : Nat} (h : y < x) : cmpI x y = 1 := by simp [cmpI, h]; omega
theorem cmpI_eq {x y : Nat} (h : x = y) : cmpI x y = 0 := by simp [cmpI, h]
theorem cmpI_congr {a b x y : Nat} (h1 : a < b ↔ x < y) (h2 : b < a ↔ y < x) : cmpI a b = cmpI x y := by simp [cmpI, h1, h2]

set_option maxHeartbeats 2000000 in
theorem cmp_any (xs ys : List Nat) (ao bo : Option Addr) (n cap m capb B : Nat) (w : World) (hn : n = xs.length) (hm : m = ys.length) (hc : n ≤ cap) (hcb : m ≤ capb) (hbig : n ≤ 70368744177664) (hbig2 : m ≤ 70368744177664)
    (hx : Wf xs) (hy : Wf ys) (hR : Rd B w ao xs) (hS : Rd B w bo ys) :
    Calls Tryd.prog 56 #[.slice ao n cap, .slice bo m capb] w fun r w' => r = .returned (.int .i64 (cmpI (val xs) (val ys))) ∧ Below w.heap.size w w' := by
  have H1 := hid (trim_any xs ao n cap B w hn hc (by omega) hR)
  have H2 := hid (trim_any ys bo m capb B w hm hcb (by omega) hS)
  have hl1 := nl_le xs
  have hl2 := nl_le ys
  have f1 := val_form xs hx
  have f2 := val_form ys hy
  rw [← sg_val_take] at f1 f2
  by_cases he : nl xs = nl ys
  · obtain ⟨k0, hk0⟩ : ∃ k, nl ys = k := ⟨_, rfl⟩
    rw [he] at H1 hl1 f1
    rw [hk0] at H1 H2 hl1 hl2 f1 f2
    have HR := (Aside.intro (And.intro hR (And.intro hS (And.intro hn (And.intro hm (And.intro hx (And.intro hy (And.intro hl1 (And.intro hl2 (And.intro f1 f2))))))))))
    have HC : Hid (∀ x y w, _) := compare_u
    have hkn : k0 ≤ n := by omega
    have hkm : k0 ≤ m := by omega
    clear hR hS hn hm hx hy hl1 hl2 f1 f2 he hk0
    go_enter Tryd.func56, Tryd.ntmps56
    go_wp2_with fail
    refine (Calls.mono H1.out) ?_
    rintro r w1 ⟨rfl, rfl⟩
    go_wp2_with fail
    refine (Calls.mono H2.out) ?_
    rintro r w1 ⟨rfl, rfl⟩
    go_wp2
    go_loopg [5] k0 (fun k i wr => k ≤ k0 ∧ i = .int .i64 ((k : Int) - 1) ∧ Hid (Below w1.heap.size w1 wr) ∧ Aside (sg xs k (k0 - k) = sg ys k (k0 - k)))
    case atStart => exact ⟨Nat.le_refl _, rfl, Below.refl _ _, by rw [Nat.sub_self, sg_zero, sg_zero]; exact rfl⟩
    case round =>
      obtain ⟨hk, rfl, HB, HA⟩ := hrel
      by_cases hk0 : gk = 0
      · subst hk0
        go_wp2
        go_ret
        obtain ⟨hR, hS, hn, hm, hx, hy, hl1, hl2, f1, f2⟩ := HR.out
        have h := HA.out
        rw [Nat.sub_zero, f1, f2] at h
        rw [cmpI_eq h]
        exact ⟨rfl, HB.out⟩
      · obtain ⟨k, rfl⟩ : ∃ k, gk = k + 1 := ⟨gk - 1, by omega⟩
        obtain ⟨hR, hS, hn, hm, hx, hy, hl1, hl2, f1, f2⟩ := HR.out
        obtain ⟨b, off, hB1, rfl, hc1⟩ := hR (by intro e; subst e; simp at hl1; omega)
        obtain ⟨b2, off2, hB2, rfl, hc2⟩ := hS (by intro e; subst e; simp at hl2; omega)
        have g1 : wr.cell? ⟨b, off + k, none⟩ = some (.int .u32 ((xs.getD k 0 : Nat) : Int)) :=
          (HB.out.cell (p := ⟨b, off + k, none⟩) (World.block_lt_of_cell? w1 ⟨b, off + k, none⟩ (hc1 k (by omega)))).trans (hc1 k (by omega))
        have g2 : wr.cell? ⟨b2, off2 + k, none⟩ = some (.int .u32 ((ys.getD k 0 : Nat) : Int)) :=
          (HB.out.cell (p := ⟨b2, off2 + k, none⟩) (World.block_lt_of_cell? w1 ⟨b2, off2 + k, none⟩ (hc2 k (by omega)))).trans (hc2 k (by omega))
        obtain ⟨x, hxx⟩ : ∃ x : Nat, xs.getD k 0 = x := ⟨_, rfl⟩
        obtain ⟨y, hyy⟩ : ∃ y : Nat, ys.getD k 0 = y := ⟨_, rfl⟩
        rw [hxx] at g1
        rw [hyy] at g2
        have HX := (Aside.intro (And.intro hxx hyy))
        clear hR hS hn hm hx hy hl1 hl2 f1 f2 hc1 hc2 hxx hyy hk0
        by_cases hxy : x = y
        · subst hxy
          go_wp2
          go_region
          all_goals (
            go_wp2
            go_roundg k
            case measure => omega
            case rel =>
              obtain ⟨hR, hS, hn, hm, hx, hy, hl1, hl2, f1, f2⟩ := HR.out
              refine ⟨by omega, by first | go_num | (congr 1; omega), HB.out.drew, ?_⟩
              have h := HA.out
              obtain ⟨r, hr⟩ : ∃ r, k0 - k = r + 1 := ⟨k0 - (k + 1), by omega⟩
              rw [show k0 - (k + 1) = r by omega] at h
              rw [Aside, hr, sg_front xs k r (by omega), sg_front ys k r (by omega), h, HX.out.1, HX.out.2])
        · have hne : ((x : Int) == (y : Int)) = false := by simp; omega
          have hki : (k : Int) < (k0 : Int) := by omega
          have hki0 : 0 ≤ (k : Int) := by omega
          have hki2 : k < k0 := by omega
          go_wp2
          go_region
          all_goals (
            go_wp2
            go_region_with (go_at_call 108; refine (compare_u x y _).mono ?_; rintro r w2 ⟨rfl, rfl⟩))
          all_goals (
            go_wp2
            go_ret
            obtain ⟨hR, hS, hn, hm, hx, hy, hl1, hl2, f1, f2⟩ := HR.out
            have h := HA.out
            have e : cmpI (val xs) (val ys) = cmpI x y := by
              rw [← f1, ← f2]
              have hk2 : k + 1 + (k0 - (k + 1)) = k0 := by omega
              have t1 := cmp_words xs ys hx hy k (k0 - (k + 1)) (by omega) (by omega) h
              have t2 := cmp_words ys xs hy hx k (k0 - (k + 1)) (by omega) (by omega) h.symm
              rw [hk2, HX.out.1, HX.out.2] at t1 t2
              apply cmpI_congr <;> omega
            rw [e]
            exact ⟨rfl, by first | exact HB.out.drew.drew | exact HB.out.drew | skip⟩)
  · have e : cmpI (val xs) (val ys) = cmpI (nl xs) (nl ys) := by
      rcases Nat.lt_or_gt_of_ne he with h | h
      · rw [cmpI_lt h, cmpI_lt (cmp_len xs ys hx hy h)]
      · rw [cmpI_gt h, cmpI_gt (cmp_len ys xs hy hx h)]
    rw [e]
    obtain ⟨k1, hk1⟩ : ∃ k, nl xs = k := ⟨_, rfl⟩
    obtain ⟨k2, hk2⟩ : ∃ k, nl ys = k := ⟨_, rfl⟩
    rw [hk1] at H1 he ⊢
    rw [hk2] at H2 he ⊢
    have hne : ((k1 : Int) == (k2 : Int)) = false := by simp; omega
    have hne2 : ¬ (k1 : Int) = (k2 : Int) := by omega
    have H3 := hid (compare_i k1 k2 w)
    clear hR hS hn hm hx hy hl1 hl2 f1 f2 hk1 hk2 e he
    go_enter Tryd.func56, Tryd.ntmps56
    go_wp2_with fail
    refine (Calls.mono H1.out) ?_
    rintro r w1 ⟨rfl, rfl⟩
    go_wp2_with fail
    refine (Calls.mono H2.out) ?_
    rintro r w1 ⟨rfl, rfl⟩
    go_wp2_with fail
    refine (Calls.mono H3.out) ?_
    rintro r w1 ⟨rfl, rfl⟩
    go_wp2
    go_ret
    exact ⟨rfl, Below.refl _ _⟩

set_option maxHeartbeats 1000000 in
theorem same_any (xs : List Nat) (ao bo : Option Addr) (n cap capb B : Nat) (w : World) (hn : n = xs.length) (hbig : n ≤ 70368744177664) (hR : Rd B w ao xs) (hS : Rd B w bo xs) :
    Calls Tryd.prog 15 #[.slice ao n cap, .slice bo n capb] w fun r w' => r = .returned (.bool true) ∧ Below w.heap.size w w' := by
  have HR := (Aside.intro (And.intro hR (And.intro hS hn)))
  clear hR hS hn
  go_enter Tryd.func15, Tryd.ntmps15
  go_wp2
  go_loopg [5] n (fun gk i wr => ∃ k : Nat, gk + k = n ∧ i = .int .i64 (k : Nat) ∧ Hid (Below w.heap.size w wr))
  case atStart => exact ⟨0, by omega, rfl, Below.refl _ _⟩
  case round =>
    obtain ⟨k, hgk, rfl, HB⟩ := hrel
    by_cases hk : k < n
    · obtain ⟨hR, hS, hn⟩ := HR.out
      obtain ⟨b, off, hB1, rfl, hc1⟩ := hR (by intro e; subst e; simp at hn; omega)
      obtain ⟨b2, off2, hB2, rfl, hc2⟩ := hS (by intro e; subst e; simp at hn; omega)
      have g1 : wr.cell? ⟨b, off + k, none⟩ = some (.int .u32 ((xs.getD k 0 : Nat) : Int)) :=
        (HB.out.cell (p := ⟨b, off + k, none⟩) (World.block_lt_of_cell? w ⟨b, off + k, none⟩ (hc1 k (by omega)))).trans (hc1 k (by omega))
      have g2 : wr.cell? ⟨b2, off2 + k, none⟩ = some (.int .u32 ((xs.getD k 0 : Nat) : Int)) :=
        (HB.out.cell (p := ⟨b2, off2 + k, none⟩) (World.block_lt_of_cell? w ⟨b2, off2 + k, none⟩ (hc2 k (by omega)))).trans (hc2 k (by omega))
      obtain ⟨x, hxx⟩ : ∃ x : Nat, xs.getD k 0 = x := ⟨_, rfl⟩
      rw [hxx] at g1 g2
      clear hR hS hn hc1 hc2 hxx
      go_wp2
      go_region
      all_goals (
        go_wp2
        go_roundg (gk - 1)
        case measure => omega
        case rel => exact ⟨k + 1, by omega, by go_num, HB.out.drew⟩)
    · obtain rfl : k = n := by omega
      go_wp2
      go_ret
      exact ⟨rfl, HB.out⟩
end Go.Proofs.YthilnddhehbjiaaDoor

/- Root: the whole root, and what is left. -/
namespace Go.Proofs.YthilnddhehbjiaaDoor
open Go.RowKit
set_option linter.unusedVariables false
set_option maxRecDepth 20000

set_option maxHeartbeats 4000000 in
theorem root_any (xs : List Nat) (ao : Option Addr) (n cap B : Nat) (w : World) (hn : n = xs.length) (hc : n ≤ cap) (hbig : n ≤ 35184372088832) (hx : Wf xs) (hR : Rd B w ao xs) (hB : B ≤ w.heap.size) :
    Calls Tryd.prog 52 #[.slice ao n cap] w fun r w' => ∃ q, IsRoot (val xs) q ∧ Two w.heap.size w' r q (val xs - q * q) ∧ Below w.heap.size w w' := by
  have T0 := trim_any xs ao n cap B w hn hc (by omega) hR
  have hl := nl_le xs
  have hform := form_eq xs hx
  have hlen := nl_eq_length xs hx
  rw [hlen] at T0 hl hform
  obtain ⟨X, hX⟩ : ∃ X, val xs = X := ⟨_, rfl⟩
  rw [hX] at T0 hl hform ⊢
  have T := hid T0
  have hRX : Rd B w ao (ws X) := by rw [← hform]; exact hR.take _
  by_cases h0 : X = 0
  · subst h0
    rw [ws_zero] at T
    clear hX hlen hform hl hx hn hR T0 hRX
    go_enter Tryd.func52, Tryd.ntmps52
    go_wp2_with fail
    refine (Calls.mono T.out) ?_
    rintro r w1 ⟨rfl, rfl⟩
    go_wp2
    go_ret2
    exact ⟨0, ⟨by omega, by omega⟩, ⟨_, _, rfl, Nt.nil _ _, Nt.nil _ _, apart_nil _⟩, Below.refl _ _⟩
  · have hk0 : (ws X).length ≠ 0 := fun e => h0 ((ws_len_zero X).1 e)
    obtain ⟨k, hk⟩ : ∃ k, (ws X).length = k := ⟨_, rfl⟩
    have NR := nearRoot_any (ws X) ao k cap B w hk.symm (by omega) (by omega) (wf_ws X) (by rw [val_ws]; exact h0) hRX hB
    rw [val_ws] at NR
    have N := hid NR
    rw [hk] at T hl hk0
    have hkn : k ≤ n := by omega
    have hkne : ((k : Int) == 0) = false := by simp; omega
    have HH := (Aside.intro (And.intro hRX (And.intro hk h0)))
    clear hX hlen hform hl hx hn hR T0 hRX NR hk h0 hk0
    go_enter Tryd.func52, Tryd.ntmps52
    go_wp2_with fail
    refine (Calls.mono T.out) ?_
    rintro r w1 ⟨rfl, rfl⟩
    go_wp2_with fail
    refine (Calls.mono N.out) ?_
    rintro r w2 ⟨v2, A, rfl, hN2, hA1, hA2, hA0, hAX, hb2⟩
    obtain ⟨ra, rc, rfl, hrc, hrcm, hRr⟩ := hN2.shape
    obtain ⟨hRX, hk, h0⟩ := HH.out
    have hlA : (ws A).length ≤ k := by rw [← hk]; exact ws_len_mono hAX
    have M0 := mul_any (ws A) (ws A) ra ra _ rc _ rc w2.heap.size w2 rfl rfl hrc hrc (by omega) (wf_ws _) (wf_ws _) hRr hRr (Nat.le_refl _)
    rw [val_ws] at M0
    have M := hid M0
    have H1 := (Aside.intro (And.intro hN2 (And.intro hA1 (And.intro hA2 (And.intro hA0 (And.intro hAX (And.intro hb2 (And.intro hRr hlA))))))))
    clear M0 hN2 hA1 hA2 hA0 hAX hb2 hRr hRX hk h0 hlA T N
    go_wp2_with fail
    refine (Calls.mono M.out) ?_
    rintro r w3 ⟨v3, rfl, hN3, hb3⟩
    obtain ⟨sa, sc, rfl, hsc, hscm, hRs⟩ := hN3.shape
    obtain ⟨hRX, hk, h0⟩ := HH.out
    obtain ⟨hN2, hA1, hA2, hA0, hAX, hb2, hRr, hlA⟩ := H1.out
    have hs2 := hb2.size
    have hs3 := hb3.size
    have hRX3 : Rd w3.heap.size w3 ao (ws X) := ((hRX.below (hb2.mono hB)).below (hb3.mono (by omega))).mono (by omega)
    have hsq : A * A < pw (k + k) := by
      have := ws_len_lt A
      have h2 := Nat.mul_lt_mul'' this this
      rw [← pw_add] at h2
      exact Nat.lt_of_lt_of_le h2 (pw_mono (by omega))
    have hlS : (ws (A * A)).length ≤ k + k := (ws_len_le _ _).2 hsq
    have C0 := cmp_any (ws (A * A)) (ws X) sa ao _ sc k cap w3.heap.size w3 rfl hk.symm hsc (by omega) (by omega) (by omega) (wf_ws _) (wf_ws _) hRs hRX3
    rw [val_ws, val_ws] at C0
    have H2 := (Aside.intro (And.intro hN3 (And.intro hb3 (And.intro hRs (And.intro hRX3 hlS)))))
    by_cases hgt : X < A * A
    · rw [cmpI_gt hgt] at C0
      have C := hid C0
      have H3 := (Aside.intro hgt)
      clear C0 hN2 hA1 hA2 hA0 hAX hb2 hRr hlA hN3 hb3 hRs hRX hk h0 hs2 hs3 hRX3 hsq hlS M hgt
      go_wp2_with fail
      refine (Calls.mono C.out) ?_
      rintro r w4 ⟨rfl, hb4⟩
      -- the root less one
      obtain ⟨hRX, hk, h0⟩ := HH.out
      obtain ⟨hN2, hA1, hA2, hA0, hAX, hb2, hRr, hlA⟩ := H1.out
      obtain ⟨hN3, hb3, hRs, hRX3, hlS⟩ := H2.out
      have hs2 := hb2.size
      have hs3 := hb3.size
      have hs4 := hb4.size
      obtain ⟨W5, hW5⟩ : ∃ W, W = w4.alloc (.cells #[.int .u32 1] 61) := ⟨_, rfl⟩
      have hb5 : Below w4.heap.size w4 W5 := by rw [hW5]; exact (Below.refl _ _).alloc (Nat.le_refl _) _
      have hs5 := hb5.size
      have hO5 : Own W5 w4.heap.size [1] := by rw [hW5]; unfold Own; rw [heap_alloc_new]; rfl
      have hg5 := hO5.lt
      have hR1 : Rd W5.heap.size W5 (some ⟨w4.heap.size, 0, none⟩) [1] := by
        have := Rd.ofOwn hO5 0 1
        exact (by simpa using this : Rd (w4.heap.size + 1) W5 (some ⟨w4.heap.size, 0, none⟩) [1]).mono (by omega)
      have hRr5 : Rd W5.heap.size W5 ra (ws A) := (((hRr.below hb3).below (hb4.mono hs3)).below (hb5.mono (by omega))).mono (by omega)
      have hlA1 : 1 ≤ (ws A).length := by have := ws_len_zero A; omega
      have S0 := sub_any (ws A) [1] ra (some ⟨w4.heap.size, 0, none⟩) _ rc 1 1 W5.heap.size W5 rfl rfl hlA1 hrc (by omega) (by omega) (wf_ws _) (Wf.cons (by omega) Wf.nil) (by rw [val_ws]; simp [val]; omega) hRr5 hR1 (Nat.le_refl _)
      rw [val_ws, show val [1] = 1 from rfl] at S0
      rw [hW5] at S0
      have S := hid S0
      have H4 := (Aside.intro (And.intro hb4 (And.intro hW5 hb5)))
      clear S0 hN2 hA1 hA2 hA0 hAX hb2 hRr hlA hN3 hb3 hRs hRX hk h0 hs2 hs3 hRX3 hlS hb4 hs4 hW5 hb5 hs5 hO5 hg5 hR1 hRr5 hlA1 C
      go_wp2_with fail
      refine (Calls.mono S.out) ?_
      rintro r w6 ⟨v6, rfl, hN6, hb6⟩
      obtain ⟨ra6, rc6, rfl, hrc6, hrcm6, hRr6⟩ := hN6.shape
      obtain ⟨hN2, hA1, hA2, hA0, hAX, hb2, hRr, hlA⟩ := H1.out
      have hlA6 : (ws (A - 1)).length ≤ (ws A).length := ws_len_mono (by omega)
      have M0 := mul_any (ws (A - 1)) (ws (A - 1)) ra6 ra6 _ rc6 _ rc6 w6.heap.size w6 rfl rfl hrc6 hrc6 (by omega) (wf_ws _) (wf_ws _) hRr6 hRr6 (Nat.le_refl _)
      rw [val_ws] at M0
      have M := hid M0
      have H5 := (Aside.intro (And.intro hN6 hb6))
      clear M0 hN2 hA1 hA2 hA0 hAX hb2 hRr hlA hN6 hb6 hRr6 hlA6 S
      go_wp2_with fail
      refine (Calls.mono M.out) ?_
      rintro r w7 ⟨v7, rfl, hN7, hb7⟩
      obtain ⟨sa7, sc7, rfl, hsc7, hscm7, hRs7⟩ := hN7.shape
      obtain ⟨hRX, hk, h0⟩ := HH.out
      obtain ⟨hN2, hA1, hA2, hA0, hAX, hb2, hRr, hlA⟩ := H1.out
      obtain ⟨hN3, hb3, hRs, hRX3, hlS⟩ := H2.out
      obtain ⟨hb4, hW5, hb5⟩ := H4.out
      obtain ⟨hN6, hb6⟩ := H5.out
      rw [← hW5] at hN6 hb6
      have hs2 := hb2.size
      have hs3 := hb3.size
      have hs4 := hb4.size
      have hs5 := hb5.size
      have hs6 := hb6.size
      have hs7 := hb7.size
      have hb17 : Below w1.heap.size w1 w7 := (((((hb2.trans (hb3.mono hs2)).trans (hb4.mono (by omega))).trans (hb5.mono (by omega))).trans (hb6.mono (by omega)))).trans (hb7.mono (by omega))
      have hRX7 : Rd w7.heap.size w7 ao (ws X) := (hRX.below (hb17.mono hB)).mono (by omega)
      have hle7 : (A - 1) * (A - 1) ≤ X := by omega
      have hl7 : (ws ((A - 1) * (A - 1))).length ≤ k := by rw [← hk]; exact ws_len_mono hle7
      have S0 := sub_any (ws X) (ws ((A - 1) * (A - 1))) ao sa7 k cap _ sc7 w7.heap.size w7 hk.symm rfl hl7 (by omega) hsc7 (by omega) (wf_ws _) (wf_ws _) (by rw [val_ws, val_ws]; exact hle7) hRX7 hRs7 (Nat.le_refl _)
      rw [val_ws, val_ws] at S0
      have S := hid S0
      have hN67 := hN6.below hb7
      have H6 := (Aside.intro (And.intro hb17 hN67))
      clear S0 hN2 hA1 hA2 hA0 hAX hb2 hRr hlA hN3 hb3 hRs hRX hk h0 hRX3 hlS hb4 hW5 hb5 hN6 hb6 hN7 hb7 hRs7 hs2 hs3 hs4 hs5 hs6 hs7 hb17 hRX7 hle7 hl7 hN67 M
      go_wp2_with fail
      refine (Calls.mono S.out) ?_
      rintro r w8 ⟨v8, rfl, hN8, hb8⟩
      have H7 := (Aside.intro (And.intro hN8 hb8))
      clear hN8 hb8 S
      go_wp2
      go_ret2
      obtain ⟨hN8, hb8⟩ := H7.out
      obtain ⟨hb17, hN67⟩ := H6.out
      obtain ⟨hN2, hA1, hA2, hA0, hAX, hb2, hRr, hlA⟩ := H1.out
      obtain ⟨hb4, hW5, hb5⟩ := H4.out
      obtain ⟨hN3, hb3, hRs, hRX3, hlS⟩ := H2.out
      have hs2 := hb2.size
      have hs3 := hb3.size
      have hs4 := hb4.size
      have hs5 := hb5.size
      have hs7 := hb17.size
      have hlow : w1.heap.size ≤ W5.heap.size := by omega
      refine ⟨A - 1, ⟨by omega, ?_⟩, ⟨_, _, rfl, (hN67.below hb8).mono hlow, hN8.mono hs7, apart_of (hi := 0) hN67 hN8 (Nat.le_refl _)⟩, hb17.trans (hb8.mono hs7)⟩
      rw [show A - 1 + 1 = A by omega]; exact H3.out
    · have hle : A * A ≤ X := by omega
      have hC1 : cmpI (A * A) X ≤ 0 := by unfold cmpI; split <;> (try split) <;> omega
      obtain ⟨cc, hcc⟩ : ∃ cc, cmpI (A * A) X = cc := ⟨_, rfl⟩
      rw [hcc] at C0 hC1
      have C := hid C0
      have H3 := (Aside.intro hle)
      clear C0 hN2 hA1 hA2 hA0 hAX hb2 hRr hlA hN3 hb3 hRs hRX hk h0 hs2 hs3 hRX3 hsq hlS M hle hgt hcc
      go_wp2_with fail
      refine (Calls.mono C.out) ?_
      rintro r w4 ⟨rfl, hb4⟩
      obtain ⟨hRX, hk, h0⟩ := HH.out
      obtain ⟨hN2, hA1, hA2, hA0, hAX, hb2, hRr, hlA⟩ := H1.out
      obtain ⟨hN3, hb3, hRs, hRX3, hlS⟩ := H2.out
      have hs2 := hb2.size
      have hs3 := hb3.size
      have hs4 := hb4.size
      have hb14 : Below w1.heap.size w1 w4 := (hb2.trans (hb3.mono hs2)).trans (hb4.mono (by omega))
      have hRX4 : Rd w4.heap.size w4 ao (ws X) := (hRX3.below hb4).mono hs4
      have hRs4 : Rd w4.heap.size w4 sa (ws (A * A)) := (hRs.below hb4).mono hs4
      have hl4 : (ws (A * A)).length ≤ k := by rw [← hk]; exact ws_len_mono H3.out
      have S0 := sub_any (ws X) (ws (A * A)) ao sa k cap _ sc w4.heap.size w4 hk.symm rfl hl4 (by omega) hsc (by omega) (wf_ws _) (wf_ws _) (by rw [val_ws, val_ws]; exact H3.out) hRX4 hRs4 (Nat.le_refl _)
      rw [val_ws, val_ws] at S0
      have S := hid S0
      have hN24 := (hN2.below hb3).below hb4
      have H6 := (Aside.intro (And.intro hb14 hN24))
      clear S0 hN2 hA1 hA2 hA0 hAX hb2 hRr hlA hN3 hb3 hRs hRX hk h0 hRX3 hlS hb4 hs2 hs3 hs4 hb14 hRX4 hRs4 hl4 hN24 C
      go_wp2_with fail
      refine (Calls.mono S.out) ?_
      rintro r w8 ⟨v8, rfl, hN8, hb8⟩
      have H7 := (Aside.intro (And.intro hN8 hb8))
      clear hN8 hb8 S
      go_wp2
      go_ret2
      obtain ⟨hN8, hb8⟩ := H7.out
      obtain ⟨hb14, hN24⟩ := H6.out
      obtain ⟨hN2, hA1, hA2, hA0, hAX, hb2, hRr, hlA⟩ := H1.out
      have hs4 := hb14.size
      exact ⟨A, ⟨H3.out, hA2⟩, ⟨_, _, rfl, hN24.below hb8, hN8.mono hs4, apart_of (hi := 0) hN24 hN8 (Nat.le_refl _)⟩, hb14.trans (hb8.mono hs4)⟩
end Go.Proofs.YthilnddhehbjiaaDoor

/- Add, Sub. -/
namespace Go.Proofs.YthilnddhehbjiaaDoor
open Go.RowKit
set_option linter.unusedVariables false
set_option maxRecDepth 20000

/-- Is a number long? -/
abbrev LG (X : Nat) : Prop := 8192 < (ws X).length
theorem LG_mono {X Y : Nat} (h : X ≤ Y) (k : LG X) : LG Y := Nat.lt_of_lt_of_le k (ws_len_mono h)

/-- What is answered: a number, an error. -/
def addS (X Y : Nat) : Nat × Int := if LG (X + Y) then (0, 2) else (X + Y, 0)
def subS (X Y : Nat) : Nat × Int := if LG X ∨ LG Y then (0, 2) else if X < Y then (0, 20) else (X - Y, 0)
def mulS (X Y : Nat) : Nat × Int := if LG X ∨ LG Y then (0, 2) else if LG (X * Y) then (0, 2) else (X * Y, 0)
def divS (X Y : Nat) : Nat × Nat × Int := if LG X ∨ LG Y then (0, 0, 2) else if Y = 0 then (0, 0, 21) else (X / Y, X % Y, 0)
def shiftS (X : Nat) (by' : Int) : Nat × Int := if LG X then (0, 2) else if X = 0 then (0, 0) else if by' < 0 then (X / 2 ^ (-by').toNat, 0) else if 262144 - (bl X : Int) < by' then (0, 2) else (X * 2 ^ by'.toNat, 0)

/-- A Nat in new memory, and an error. -/
def One (lo : Nat) (w : World) (r : Ending) (a : Nat × Int) : Prop := ∃ v, r = .returned (.tuple #[v, .int .i64 a.2]) ∧ Nt lo w v a.1

theorem trimX (xs : List Nat) (ao : Option Addr) (n cap B : Nat) (w : World) (hn : n = xs.length) (hc : n ≤ cap) (hm : n ≤ 70368744177664) (hx : Wf xs) (hR : Rd B w ao xs) :
    (Calls Tryd.prog 61 #[.slice ao n cap] w fun r w' => r = .returned (.slice ao (ws (val xs)).length cap) ∧ w' = w) ∧ Rd B w ao (ws (val xs)) ∧ (ws (val xs)).length ≤ n := by
  have T := trim_any xs ao n cap B w hn hc (by omega) hR
  have hl := nl_le xs
  have hf := form_eq xs hx
  have hlen := nl_eq_length xs hx
  rw [hlen] at T hl hf
  exact ⟨T, by rw [← hf]; exact hR.take _, by omega⟩

set_option maxHeartbeats 2000000 in
theorem Add_any (xs ys : List Nat) (ao bo : Option Addr) (n cap m capb B : Nat) (w : World) (hn : n = xs.length) (hm : m = ys.length) (hc : n ≤ cap) (hcb : m ≤ capb) (hbig : n ≤ 35184372088833) (hbig2 : m ≤ 35184372088833)
    (hx : Wf xs) (hy : Wf ys) (hR : Rd B w ao xs) (hS : Rd B w bo ys) (hB : B ≤ w.heap.size) :
    Calls Tryd.prog 47 #[.slice ao n cap, .slice bo m capb] w fun r w' => One w.heap.size w' r (addS (val xs) (val ys)) ∧ Below w.heap.size w w' := by
  obtain ⟨T1, hRX, hl1⟩ := trimX xs ao n cap B w hn hc (by omega) hx hR
  obtain ⟨T2, hRY, hl2⟩ := trimX ys bo m capb B w hm hcb (by omega) hy hS
  generalize val xs = X at *
  generalize val ys = Y at *
  have A0 := add_any (ws X) (ws Y) ao bo _ cap _ capb B w rfl rfl (by omega) (by omega) (by omega) (by omega) (wf_ws X) (wf_ws Y) hRX hRY hB
  rw [val_ws, val_ws] at A0
  have H1 := (hid T1)
  have H2 := (hid T2)
  have H3 := (hid A0)
  clear T1 T2 A0 hRX hRY hn hm hx hy hR hS hl1 hl2
  go_enter Tryd.func47, Tryd.ntmps47
  go_wp2_with fail
  refine (Calls.mono H1.out) ?_
  rintro r w1 ⟨rfl, rfl⟩
  go_wp2_with fail
  refine (Calls.mono H2.out) ?_
  rintro r w1 ⟨rfl, rfl⟩
  go_wp2_with fail
  refine (Calls.mono H3.out) ?_
  rintro r w2 ⟨v, rfl, hN, hb⟩
  obtain ⟨av, cv, rfl, hcv, hcm, hRv⟩ := hN.shape
  have U0 := unlessLong_any (ws (X + Y)).length av cv w2
  have HN := (Aside.intro (And.intro hN hb))
  clear H1 H2 H3 hN hb hRv
  by_cases hL : LG (X + Y)
  · rw [if_pos (show 8192 < (ws (X + Y)).length from hL)] at U0
    have U := (hid U0)
    clear U0
    go_wp2_with fail
    refine (Calls.mono U.out) ?_
    rintro r w3 ⟨rfl, rfl⟩
    go_wp2
    go_ret2
    rw [show addS X Y = (0, 2) by simp [addS, hL]]
    exact ⟨⟨_, rfl, Nt.nil _ _⟩, HN.out.2⟩
  · rw [if_neg (show ¬ 8192 < (ws (X + Y)).length from hL)] at U0
    have U := (hid U0)
    clear U0
    go_wp2_with fail
    refine (Calls.mono U.out) ?_
    rintro r w3 ⟨rfl, rfl⟩
    go_wp2
    go_ret2
    rw [show addS X Y = (X + Y, 0) by simp [addS, hL]]
    exact ⟨⟨_, rfl, HN.out.1⟩, HN.out.2⟩

theorem longb (n : Nat) (ao : Option Addr) (cap : Nat) (w : World) (b : Bool) (hb : decide (8192 < n) = b) :
    Calls Tryd.prog 62 #[.slice ao n cap] w fun r w' => r = .returned (.bool b) ∧ w' = w := by
  have h := long_any n ao cap w
  have e : decide ((8192 : Int) < (n : Int)) = b := by rw [← hb]; simp only [decide_eq_decide]; omega
  rw [e] at h
  exact h

set_option maxHeartbeats 2000000 in
theorem Sub_any (xs ys : List Nat) (ao bo : Option Addr) (n cap m capb B : Nat) (w : World) (hn : n = xs.length) (hm : m = ys.length) (hc : n ≤ cap) (hcb : m ≤ capb) (hbig : n ≤ 35184372088833) (hbig2 : m ≤ 35184372088833)
    (hx : Wf xs) (hy : Wf ys) (hR : Rd B w ao xs) (hS : Rd B w bo ys) (hB : B ≤ w.heap.size) :
    Calls Tryd.prog 48 #[.slice ao n cap, .slice bo m capb] w fun r w' => One w.heap.size w' r (subS (val xs) (val ys)) ∧ Below w.heap.size w w' := by
  obtain ⟨T1, hRX, hl1⟩ := trimX xs ao n cap B w hn hc (by omega) hx hR
  obtain ⟨T2, hRY, hl2⟩ := trimX ys bo m capb B w hm hcb (by omega) hy hS
  generalize val xs = X at *
  generalize val ys = Y at *
  have H1 := (hid T1)
  have H2 := (hid T2)
  have HR := (Aside.intro (And.intro hRX (And.intro hRY (And.intro hl1 hl2))))
  clear T1 T2 hRX hRY hn hm hx hy hR hS hl1 hl2
  by_cases hLX : LG X
  · have L := hid (longb (ws X).length ao cap w true (by simpa [LG] using hLX))
    have e : subS X Y = (0, 2) := by simp [subS, hLX]
    rw [e]
    clear e hLX HR
    go_enter Tryd.func48, Tryd.ntmps48
    go_wp2_with fail
    refine (Calls.mono H1.out) ?_
    rintro r w1 ⟨rfl, rfl⟩
    go_wp2_with fail
    refine (Calls.mono H2.out) ?_
    rintro r w1 ⟨rfl, rfl⟩
    go_wp2_with fail
    refine (Calls.mono L.out) ?_
    rintro r w1 ⟨rfl, rfl⟩
    go_wp2
    go_ret2
    exact ⟨⟨_, rfl, Nt.nil _ _⟩, Below.refl _ _⟩
  · have L := hid (longb (ws X).length ao cap w false (by simpa [LG] using hLX))
    by_cases hLY : LG Y
    · have L2 := hid (longb (ws Y).length bo capb w true (by simpa [LG] using hLY))
      have e : subS X Y = (0, 2) := by simp [subS, hLY]
      rw [e]
      clear e hLX hLY HR
      go_enter Tryd.func48, Tryd.ntmps48
      go_wp2_with fail
      refine (Calls.mono H1.out) ?_
      rintro r w1 ⟨rfl, rfl⟩
      go_wp2_with fail
      refine (Calls.mono H2.out) ?_
      rintro r w1 ⟨rfl, rfl⟩
      go_wp2_with fail
      refine (Calls.mono L.out) ?_
      rintro r w1 ⟨rfl, rfl⟩
      go_wp2_with fail
      refine (Calls.mono L2.out) ?_
      rintro r w1 ⟨rfl, rfl⟩
      go_wp2
      go_ret2
      exact ⟨⟨_, rfl, Nt.nil _ _⟩, Below.refl _ _⟩
    · have L2 := hid (longb (ws Y).length bo capb w false (by simpa [LG] using hLY))
      obtain ⟨hRX, hRY, hl1, hl2⟩ := HR.out
      have C0 := cmp_any (ws X) (ws Y) ao bo _ cap _ capb B w rfl rfl (by omega) (by omega) (by omega) (by omega) (wf_ws X) (wf_ws Y) hRX hRY
      rw [val_ws, val_ws] at C0
      by_cases hlt : X < Y
      · rw [cmpI_lt hlt] at C0
        have C := hid C0
        have e : subS X Y = (0, 20) := by simp [subS, hLX, hLY, hlt]
        rw [e]
        clear e hLX hLY HR C0 hlt hRX hRY hl1 hl2
        go_enter Tryd.func48, Tryd.ntmps48
        go_wp2_with fail
        refine (Calls.mono H1.out) ?_
        rintro r w1 ⟨rfl, rfl⟩
        go_wp2_with fail
        refine (Calls.mono H2.out) ?_
        rintro r w1 ⟨rfl, rfl⟩
        go_wp2_with fail
        refine (Calls.mono L.out) ?_
        rintro r w1 ⟨rfl, rfl⟩
        go_wp2_with fail
        refine (Calls.mono L2.out) ?_
        rintro r w1 ⟨rfl, rfl⟩
        go_wp2_with fail
        refine (Calls.mono C.out) ?_
        rintro r w2 ⟨rfl, hb⟩
        have HB := (Aside.intro hb)
        clear hb
        go_wp2
        go_ret2
        exact ⟨⟨_, rfl, Nt.nil _ _⟩, HB.out⟩
      · have hc1 : 0 ≤ cmpI X Y := by unfold cmpI; rw [if_neg hlt]; split <;> omega
        obtain ⟨cc, hcc⟩ : ∃ cc, cmpI X Y = cc := ⟨_, rfl⟩
        rw [hcc] at C0 hc1
        have C := hid C0
        have e : subS X Y = (X - Y, 0) := by simp [subS, hLX, hLY, hlt]
        rw [e]
        have HL := (Aside.intro hlt)
        clear e hLX hLY C0 hlt hRX hRY hl1 hl2 hcc
        go_enter Tryd.func48, Tryd.ntmps48
        go_wp2_with fail
        refine (Calls.mono H1.out) ?_
        rintro r w1 ⟨rfl, rfl⟩
        go_wp2_with fail
        refine (Calls.mono H2.out) ?_
        rintro r w1 ⟨rfl, rfl⟩
        go_wp2_with fail
        refine (Calls.mono L.out) ?_
        rintro r w1 ⟨rfl, rfl⟩
        go_wp2_with fail
        refine (Calls.mono L2.out) ?_
        rintro r w1 ⟨rfl, rfl⟩
        go_wp2_with fail
        refine (Calls.mono C.out) ?_
        rintro r w2 ⟨rfl, hb⟩
        obtain ⟨hRX, hRY, hl1, hl2⟩ := HR.out
        have hs := hb.size
        have S0 := sub_any (ws X) (ws Y) ao bo _ cap _ capb B w2 rfl rfl (ws_len_mono (by have := HL.out; omega)) (by omega) (by omega) (by omega) (wf_ws X) (wf_ws Y) (by rw [val_ws, val_ws]; have := HL.out; omega) (hRX.below (hb.mono hB)) (hRY.below (hb.mono hB)) (by omega)
        rw [val_ws, val_ws] at S0
        have S := hid S0
        have HB := (Aside.intro (And.intro hb hs))
        clear hb hRX hRY hl1 hl2 S0 hs C
        go_wp2_with fail
        refine (Calls.mono S.out) ?_
        rintro r w3 ⟨v, rfl, hN, hb2⟩
        have HN := (Aside.intro (And.intro hN hb2))
        clear hN hb2 S
        go_wp2
        go_ret2
        obtain ⟨hb, hs⟩ := HB.out
        exact ⟨⟨_, rfl, HN.out.1.mono hs⟩, hb.trans (HN.out.2.mono hs)⟩
end Go.Proofs.YthilnddhehbjiaaDoor

/- Mul, Div. -/
namespace Go.Proofs.YthilnddhehbjiaaDoor
open Go.RowKit
set_option linter.unusedVariables false
set_option maxRecDepth 20000

set_option maxHeartbeats 2000000 in
theorem Mul_any (xs ys : List Nat) (ao bo : Option Addr) (n cap m capb B : Nat) (w : World) (hn : n = xs.length) (hm : m = ys.length) (hc : n ≤ cap) (hcb : m ≤ capb) (hbig : n ≤ 35184372088833) (hbig2 : m ≤ 35184372088833)
    (hx : Wf xs) (hy : Wf ys) (hR : Rd B w ao xs) (hS : Rd B w bo ys) (hB : B ≤ w.heap.size) :
    Calls Tryd.prog 49 #[.slice ao n cap, .slice bo m capb] w fun r w' => One w.heap.size w' r (mulS (val xs) (val ys)) ∧ Below w.heap.size w w' := by
  obtain ⟨T1, hRX, hl1⟩ := trimX xs ao n cap B w hn hc (by omega) hx hR
  obtain ⟨T2, hRY, hl2⟩ := trimX ys bo m capb B w hm hcb (by omega) hy hS
  generalize val xs = X at *
  generalize val ys = Y at *
  have H1 := (hid T1)
  have H2 := (hid T2)
  have HR := (Aside.intro (And.intro hRX (And.intro hRY (And.intro hl1 hl2))))
  clear T1 T2 hRX hRY hn hm hx hy hR hS hl1 hl2
  by_cases hLX : LG X
  · have L := hid (longb (ws X).length ao cap w true (by simpa [LG] using hLX))
    have e : mulS X Y = (0, 2) := by simp [mulS, hLX]
    rw [e]
    clear e hLX HR
    go_enter Tryd.func49, Tryd.ntmps49
    go_wp2_with fail
    refine (Calls.mono H1.out) ?_
    rintro r w1 ⟨rfl, rfl⟩
    go_wp2_with fail
    refine (Calls.mono H2.out) ?_
    rintro r w1 ⟨rfl, rfl⟩
    go_wp2_with fail
    refine (Calls.mono L.out) ?_
    rintro r w1 ⟨rfl, rfl⟩
    go_wp2
    go_ret2
    exact ⟨⟨_, rfl, Nt.nil _ _⟩, Below.refl _ _⟩
  · have L := hid (longb (ws X).length ao cap w false (by simpa [LG] using hLX))
    by_cases hLY : LG Y
    · have L2 := hid (longb (ws Y).length bo capb w true (by simpa [LG] using hLY))
      have e : mulS X Y = (0, 2) := by simp [mulS, hLY]
      rw [e]
      clear e hLX hLY HR
      go_enter Tryd.func49, Tryd.ntmps49
      go_wp2_with fail
      refine (Calls.mono H1.out) ?_
      rintro r w1 ⟨rfl, rfl⟩
      go_wp2_with fail
      refine (Calls.mono H2.out) ?_
      rintro r w1 ⟨rfl, rfl⟩
      go_wp2_with fail
      refine (Calls.mono L.out) ?_
      rintro r w1 ⟨rfl, rfl⟩
      go_wp2_with fail
      refine (Calls.mono L2.out) ?_
      rintro r w1 ⟨rfl, rfl⟩
      go_wp2
      go_ret2
      exact ⟨⟨_, rfl, Nt.nil _ _⟩, Below.refl _ _⟩
    · have L2 := hid (longb (ws Y).length bo capb w false (by simpa [LG] using hLY))
      have hz1 : (ws X).length = 0 → X = 0 := (ws_len_zero X).1
      have hz2 : (ws Y).length = 0 → Y = 0 := (ws_len_zero Y).1
      by_cases h1 : (ws X).length = 0
      · have e : mulS X Y = (0, 0) := by
          have := hz1 h1; subst this
          unfold mulS
          rw [if_neg (by simp [hLX, hLY]), Nat.zero_mul, if_neg hLX]
        rw [e]
        have hh := hid h1
        rw [h1] at H1 L
        have h1b : ((ws X).length : Int) = 0 := by omega
        clear e hLX hLY HR hz1 hz2 h1 h1b hh
        go_enter Tryd.func49, Tryd.ntmps49
        go_wp2_with fail
        refine (Calls.mono H1.out) ?_
        rintro r w1 ⟨rfl, rfl⟩
        go_wp2_with fail
        refine (Calls.mono H2.out) ?_
        rintro r w1 ⟨rfl, rfl⟩
        go_wp2_with fail
        refine (Calls.mono L.out) ?_
        rintro r w1 ⟨rfl, rfl⟩
        go_wp2_with fail
        refine (Calls.mono L2.out) ?_
        rintro r w1 ⟨rfl, rfl⟩
        go_wp2
        go_ret2
        exact ⟨⟨_, rfl, Nt.nil _ _⟩, Below.refl _ _⟩
      · by_cases h2 : (ws Y).length = 0
        · have e : mulS X Y = (0, 0) := by
            have := hz2 h2; subst this
            unfold mulS
            rw [if_neg (by simp [hLX, hLY]), Nat.mul_zero, if_neg hLY]
          rw [e]
          rw [h2] at H2 L2
          obtain ⟨k1, hk1⟩ : ∃ k, (ws X).length = k := ⟨_, rfl⟩
          rw [hk1] at H1 L h1
          have h1b : ((k1 : Int) == 0) = false := by simp; omega
          clear e hLX hLY HR hz1 hz2 h2 hk1
          go_enter Tryd.func49, Tryd.ntmps49
          go_wp2_with fail
          refine (Calls.mono H1.out) ?_
          rintro r w1 ⟨rfl, rfl⟩
          go_wp2_with fail
          refine (Calls.mono H2.out) ?_
          rintro r w1 ⟨rfl, rfl⟩
          go_wp2_with fail
          refine (Calls.mono L.out) ?_
          rintro r w1 ⟨rfl, rfl⟩
          go_wp2_with fail
          refine (Calls.mono L2.out) ?_
          rintro r w1 ⟨rfl, rfl⟩
          go_wp2
          go_ret2
          exact ⟨⟨_, rfl, Nt.nil _ _⟩, Below.refl _ _⟩
        · have hX0 : X ≠ 0 := fun e => h1 ((ws_len_zero X).2 e)
          have hY0 : Y ≠ 0 := fun e => h2 ((ws_len_zero Y).2 e)
          have hlow : pw ((ws X).length + (ws Y).length - 2) ≤ X * Y := by
            have a := Nat.mul_le_mul (ws_len_ge X hX0) (ws_len_ge Y hY0)
            rw [← pw_add] at a
            rw [show (ws X).length + (ws Y).length - 2 = (ws X).length - 1 + ((ws Y).length - 1) by omega]; exact a
          obtain ⟨hRX, hRY, hl1, hl2⟩ := HR.out
          have M0 := mul_any (ws X) (ws Y) ao bo _ cap _ capb B w rfl rfl (by omega) (by omega) (by unfold LG at hLX hLY; omega) (wf_ws X) (wf_ws Y) hRX hRY hB
          rw [val_ws, val_ws] at M0
          have hsmall1 : (ws X).length ≤ 8192 := by unfold LG at hLX; omega
          have hsmall2 : (ws Y).length ≤ 8192 := by unfold LG at hLY; omega
          obtain ⟨k1, hk1⟩ : ∃ k, (ws X).length = k := ⟨_, rfl⟩
          obtain ⟨k2, hk2⟩ : ∃ k, (ws Y).length = k := ⟨_, rfl⟩
          rw [hk1] at H1 L h1 M0 hlow hsmall1
          rw [hk2] at H2 L2 h2 M0 hlow hsmall2
          have h1b : ((k1 : Int) == 0) = false := by simp; omega
          have h2b : ((k2 : Int) == 0) = false := by simp; omega
          by_cases h3 : 8192 < k1 + k2 - 1
          · have hLG : LG (X * Y) := by
              unfold LG
              by_cases h4 : (ws (X * Y)).length ≤ 8192
              · have := (ws_len_le _ _).1 h4
                have := pw_mono (show 8192 ≤ k1 + k2 - 2 by omega)
                omega
              · omega
            have e : mulS X Y = (0, 2) := by simp [mulS, hLG]
            rw [e]
            have h3i : (8192 : Int) < (k1 : Int) + (k2 : Int) - 1 := by omega
            clear e hLX hLY HR hz1 hz2 hk1 hk2 hRX hRY hl1 hl2 M0 hX0 hY0 hlow hLG h3
            go_enter Tryd.func49, Tryd.ntmps49
            go_wp2_with fail
            refine (Calls.mono H1.out) ?_
            rintro r w1 ⟨rfl, rfl⟩
            go_wp2_with fail
            refine (Calls.mono H2.out) ?_
            rintro r w1 ⟨rfl, rfl⟩
            go_wp2_with fail
            refine (Calls.mono L.out) ?_
            rintro r w1 ⟨rfl, rfl⟩
            go_wp2_with fail
            refine (Calls.mono L2.out) ?_
            rintro r w1 ⟨rfl, rfl⟩
            go_wp2
            go_ret2
            exact ⟨⟨_, rfl, Nt.nil _ _⟩, Below.refl _ _⟩
          · have h3i : (k1 : Int) + (k2 : Int) - 1 ≤ 8192 := by omega
            have h3b : decide ((8192 : Int) < (k1 : Int) + (k2 : Int) - 1) = false := decide_eq_false (by omega)
            have M := hid M0
            have HL := (Aside.intro (And.intro hLX hLY))
            clear hLX hLY HR hz1 hz2 hk1 hk2 hRX hRY hl1 hl2 M0 hX0 hY0 hlow h3
            go_enter Tryd.func49, Tryd.ntmps49
            go_wp2_with fail
            refine (Calls.mono H1.out) ?_
            rintro r w1 ⟨rfl, rfl⟩
            go_wp2_with fail
            refine (Calls.mono H2.out) ?_
            rintro r w1 ⟨rfl, rfl⟩
            go_wp2_with fail
            refine (Calls.mono L.out) ?_
            rintro r w1 ⟨rfl, rfl⟩
            go_wp2_with fail
            refine (Calls.mono L2.out) ?_
            rintro r w1 ⟨rfl, rfl⟩
            go_wp2_with fail
            refine (Calls.mono M.out) ?_
            rintro r w2 ⟨v, rfl, hN, hb⟩
            obtain ⟨av, cv, rfl, hcv, hcm, hRv⟩ := hN.shape
            have U0 := unlessLong_any (ws (X * Y)).length av cv w2
            have HN := (Aside.intro (And.intro hN hb))
            clear M hN hb hRv
            by_cases hL : LG (X * Y)
            · rw [if_pos (show 8192 < (ws (X * Y)).length from hL)] at U0
              have U := (hid U0)
              clear U0
              go_wp2_with fail
              refine (Calls.mono U.out) ?_
              rintro r w3 ⟨rfl, rfl⟩
              go_wp2
              go_ret2
              rw [show mulS X Y = (0, 2) by simp [mulS, hL]]
              exact ⟨⟨_, rfl, Nt.nil _ _⟩, HN.out.2⟩
            · rw [if_neg (show ¬ 8192 < (ws (X * Y)).length from hL)] at U0
              have U := (hid U0)
              clear U0
              go_wp2_with fail
              refine (Calls.mono U.out) ?_
              rintro r w3 ⟨rfl, rfl⟩
              go_wp2
              go_ret2
              rw [show mulS X Y = (X * Y, 0) by simp [mulS, HL.out.1, HL.out.2, hL]]
              exact ⟨⟨_, rfl, HN.out.1⟩, HN.out.2⟩

/-- Two Nats in new memory, and an error. -/
def Three (lo : Nat) (w : World) (r : Ending) (a : Nat × Nat × Int) : Prop := ∃ v u, r = .returned (.tuple #[v, u, .int .i64 a.2.2]) ∧ Nt lo w v a.1 ∧ Nt lo w u a.2.1 ∧ Apart v u

set_option maxHeartbeats 2000000 in
theorem Div_any (xs ys : List Nat) (ao bo : Option Addr) (n cap m capb B : Nat) (w : World) (hn : n = xs.length) (hm : m = ys.length) (hc : n ≤ cap) (hcb : m ≤ capb) (hbig : n ≤ 35184372088833) (hbig2 : m ≤ 35184372088833)
    (hx : Wf xs) (hy : Wf ys) (hR : Rd B w ao xs) (hS : Rd B w bo ys) (hB : B ≤ w.heap.size) :
    Calls Tryd.prog 50 #[.slice ao n cap, .slice bo m capb] w fun r w' => Three w.heap.size w' r (divS (val xs) (val ys)) ∧ Below w.heap.size w w' := by
  obtain ⟨T1, hRX, hl1⟩ := trimX xs ao n cap B w hn hc (by omega) hx hR
  obtain ⟨T2, hRY, hl2⟩ := trimX ys bo m capb B w hm hcb (by omega) hy hS
  generalize val xs = X at *
  generalize val ys = Y at *
  have H1 := (hid T1)
  have H2 := (hid T2)
  have HR := (Aside.intro (And.intro hRX (And.intro hRY (And.intro hl1 hl2))))
  clear T1 T2 hRX hRY hn hm hx hy hR hS hl1 hl2
  by_cases hLX : LG X
  · have L := hid (longb (ws X).length ao cap w true (by simpa [LG] using hLX))
    have e : divS X Y = (0, 0, 2) := by simp [divS, hLX]
    rw [e]
    clear e hLX HR
    go_enter Tryd.func50, Tryd.ntmps50
    go_wp2_with fail
    refine (Calls.mono H1.out) ?_
    rintro r w1 ⟨rfl, rfl⟩
    go_wp2_with fail
    refine (Calls.mono H2.out) ?_
    rintro r w1 ⟨rfl, rfl⟩
    go_wp2_with fail
    refine (Calls.mono L.out) ?_
    rintro r w1 ⟨rfl, rfl⟩
    go_wp2
    go_ret3
    exact ⟨⟨_, _, rfl, Nt.nil _ _, Nt.nil _ _, apart_nil _⟩, Below.refl _ _⟩
  · have L := hid (longb (ws X).length ao cap w false (by simpa [LG] using hLX))
    by_cases hLY : LG Y
    · have L2 := hid (longb (ws Y).length bo capb w true (by simpa [LG] using hLY))
      have e : divS X Y = (0, 0, 2) := by simp [divS, hLY]
      rw [e]
      clear e hLX hLY HR
      go_enter Tryd.func50, Tryd.ntmps50
      go_wp2_with fail
      refine (Calls.mono H1.out) ?_
      rintro r w1 ⟨rfl, rfl⟩
      go_wp2_with fail
      refine (Calls.mono H2.out) ?_
      rintro r w1 ⟨rfl, rfl⟩
      go_wp2_with fail
      refine (Calls.mono L.out) ?_
      rintro r w1 ⟨rfl, rfl⟩
      go_wp2_with fail
      refine (Calls.mono L2.out) ?_
      rintro r w1 ⟨rfl, rfl⟩
      go_wp2
      go_ret3
      exact ⟨⟨_, _, rfl, Nt.nil _ _, Nt.nil _ _, apart_nil _⟩, Below.refl _ _⟩
    · have L2 := hid (longb (ws Y).length bo capb w false (by simpa [LG] using hLY))
      by_cases h2 : Y = 0
      · have e : divS X Y = (0, 0, 21) := by unfold divS; rw [if_neg (by simp [hLX, hLY]), if_pos h2]
        rw [e]
        subst h2
        rw [ws_zero] at H2 L2
        clear e hLX hLY HR
        go_enter Tryd.func50, Tryd.ntmps50
        go_wp2_with fail
        refine (Calls.mono H1.out) ?_
        rintro r w1 ⟨rfl, rfl⟩
        go_wp2_with fail
        refine (Calls.mono H2.out) ?_
        rintro r w1 ⟨rfl, rfl⟩
        go_wp2_with fail
        refine (Calls.mono L.out) ?_
        rintro r w1 ⟨rfl, rfl⟩
        go_wp2_with fail
        refine (Calls.mono L2.out) ?_
        rintro r w1 ⟨rfl, rfl⟩
        go_wp2
        go_ret3
        exact ⟨⟨_, _, rfl, Nt.nil _ _, Nt.nil _ _, apart_nil _⟩, Below.refl _ _⟩
      · have h3 : (ws Y).length ≠ 0 := fun e => h2 ((ws_len_zero Y).1 e)
        obtain ⟨hRX, hRY, hl1, hl2⟩ := HR.out
        have D0 := div_any (ws X) (ws Y) ao bo _ cap _ capb B w rfl rfl (by omega) (by omega) (by omega) (by omega) (wf_ws X) (wf_ws Y) (ws_top Y h2) hRX hRY hB
        rw [val_ws, val_ws] at D0
        have e : divS X Y = (X / Y, X % Y, 0) := by simp [divS, hLX, hLY, h2]
        rw [e]
        obtain ⟨k2, hk2⟩ : ∃ k, (ws Y).length = k := ⟨_, rfl⟩
        rw [hk2] at H2 L2 D0 h3
        have h2b : ((k2 : Int) == 0) = false := by simp; omega
        have D := hid D0
        clear e hLX hLY HR hk2 hRX hRY hl1 hl2 D0 h2
        go_enter Tryd.func50, Tryd.ntmps50
        go_wp2_with fail
        refine (Calls.mono H1.out) ?_
        rintro r w1 ⟨rfl, rfl⟩
        go_wp2_with fail
        refine (Calls.mono H2.out) ?_
        rintro r w1 ⟨rfl, rfl⟩
        go_wp2_with fail
        refine (Calls.mono L.out) ?_
        rintro r w1 ⟨rfl, rfl⟩
        go_wp2_with fail
        refine (Calls.mono L2.out) ?_
        rintro r w1 ⟨rfl, rfl⟩
        go_wp2_with fail
        refine (Calls.mono D.out) ?_
        rintro r w2 ⟨⟨v, u, rfl, hN1, hN2, hap⟩, hb⟩
        have HN := (Aside.intro (And.intro hN1 (And.intro hN2 (And.intro hap hb))))
        clear hN1 hN2 hap hb D
        go_wp2
        go_ret3
        obtain ⟨hN1, hN2, hap, hb⟩ := HN.out
        exact ⟨⟨_, _, rfl, hN1, hN2, hap⟩, hb⟩
end Go.Proofs.YthilnddhehbjiaaDoor

/- Shift. -/
namespace Go.Proofs.YthilnddhehbjiaaDoor
open Go.RowKit
set_option linter.unusedVariables false
set_option maxRecDepth 20000

theorem bl_le_words (X k : Nat) (h : X < pw k) : bl X ≤ 32 * k := by
  by_cases h0 : X = 0
  · subst h0; rw [bl_zero]; omega
  · have h1 := bl_ge X h0
    have h3 : pw k = 2 ^ (32 * k) := by rw [← Nat.add_zero (32 * k), pw_two]; simp
    rw [h3] at h
    have := (Nat.pow_lt_pow_iff_right (a := 2) (by decide)).1 (Nat.lt_of_le_of_lt h1 h)
    omega

theorem bl_small (X : Nat) (h : ¬ LG X) : bl X ≤ 262144 :=
  bl_le_words X 8192 ((ws_len_le X 8192).1 (by unfold LG at h; omega))

set_option maxHeartbeats 2000000 in
theorem Shift_any (xs : List Nat) (ao : Option Addr) (n cap B : Nat) (by' : Int) (w : World) (hn : n = xs.length) (hc : n ≤ cap) (hbig : n ≤ 35184372088833)
    (hx : Wf xs) (hR : Rd B w ao xs) (hB : B ≤ w.heap.size) (hb0 : -9223372036854775808 ≤ by') (hb1 : by' ≤ 9223372036854775807) :
    Calls Tryd.prog 51 #[.slice ao n cap, .int .i64 by'] w fun r w' => One w.heap.size w' r (shiftS (val xs) by') ∧ Below w.heap.size w w' := by
  obtain ⟨T1, hRX, hl1⟩ := trimX xs ao n cap B w hn hc (by omega) hx hR
  generalize val xs = X at *
  have N0 := len_any (ws X) ao _ cap B w rfl (by omega) (by omega) (wf_ws X) hRX
  rw [val_ws] at N0
  have H1 := (hid T1)
  have H2 := (hid N0)
  have HR := (Aside.intro (And.intro hRX hl1))
  clear T1 N0 hRX hn hx hR hl1
  by_cases hLX : LG X
  · have L := hid (longb (ws X).length ao cap w true (by simpa [LG] using hLX))
    have e : shiftS X by' = (0, 2) := by simp [shiftS, hLX]
    rw [e]
    clear e hLX HR
    generalize bl X = c at *
    go_enter Tryd.func51, Tryd.ntmps51
    go_wp2_with fail
    refine (Calls.mono H1.out) ?_
    rintro r w1 ⟨rfl, rfl⟩
    go_wp2_with fail
    refine (Calls.mono H2.out) ?_
    rintro r w1 ⟨rfl, rfl⟩
    go_wp2_with fail
    refine (Calls.mono L.out) ?_
    rintro r w1 ⟨rfl, rfl⟩
    go_wp2
    go_ret2
    exact ⟨⟨_, rfl, Nt.nil _ _⟩, Below.refl _ _⟩
  · have L := hid (longb (ws X).length ao cap w false (by simpa [LG] using hLX))
    have hbs := bl_small X hLX
    obtain ⟨c, hcc⟩ : ∃ c, bl X = c := ⟨_, rfl⟩
    by_cases h0 : X = 0
    · have e : shiftS X by' = (0, 0) := by unfold shiftS; rw [if_neg hLX, if_pos h0]
      rw [e]
      subst h0
      rw [ws_zero] at H1 H2 L
      rw [bl_zero] at H2
      clear e hLX HR hbs hcc
      go_enter Tryd.func51, Tryd.ntmps51
      go_wp2_with fail
      refine (Calls.mono H1.out) ?_
      rintro r w1 ⟨rfl, rfl⟩
      go_wp2_with fail
      refine (Calls.mono H2.out) ?_
      rintro r w1 ⟨rfl, rfl⟩
      go_wp2_with fail
      refine (Calls.mono L.out) ?_
      rintro r w1 ⟨rfl, rfl⟩
      go_wp2
      go_ret2
      exact ⟨⟨_, rfl, Nt.nil _ _⟩, Below.refl _ _⟩
    · have hcp := bl_pos X h0
      have hlt := bl_lt X
      rw [hcc] at hcp hbs H2 hlt
      have hcne : ((c : Int) == 0) = false := by simp; omega
      by_cases hneg : by' < 0
      · obtain ⟨d, hd⟩ : ∃ d : Nat, (d : Int) = -by' := ⟨(-by').toNat, by omega⟩
        have e : shiftS X by' = (X / 2 ^ d, 0) := by
          unfold shiftS; rw [if_neg hLX, if_neg h0, if_pos hneg, ← hd, Int.toNat_natCast]
        rw [e]
        by_cases hbig2 : by' ≤ -(c : Int)
        · have e2 : X / 2 ^ d = 0 := Nat.div_eq_of_lt (Nat.lt_of_lt_of_le hlt (Nat.pow_le_pow_right (by decide) (by omega)))
          rw [e2]
          clear e e2 hLX HR hcc hlt hd h0
          go_enter Tryd.func51, Tryd.ntmps51
          go_wp2_with fail
          refine (Calls.mono H1.out) ?_
          rintro r w1 ⟨rfl, rfl⟩
          go_wp2_with fail
          refine (Calls.mono H2.out) ?_
          rintro r w1 ⟨rfl, rfl⟩
          go_wp2_with fail
          refine (Calls.mono L.out) ?_
          rintro r w1 ⟨rfl, rfl⟩
          go_wp2
          go_ret2
          exact ⟨⟨_, rfl, Nt.nil _ _⟩, Below.refl _ _⟩
        · obtain ⟨hRX, hl1⟩ := HR.out
          have D0 := down_any (ws X) ao _ cap B d (d / 32) (d % 32) w rfl (by omega) (by omega) (by omega) (by omega) (by omega) (wf_ws X) hRX hB
          rw [val_ws] at D0
          have D := hid D0
          have hgt : -(c : Int) < by' := by omega
          have hd' : -by' = (d : Int) := hd.symm
          clear e hLX HR hcc hlt h0 hRX hl1 D0 hbig2 hd
          go_enter Tryd.func51, Tryd.ntmps51
          go_wp2_with fail
          refine (Calls.mono H1.out) ?_
          rintro r w1 ⟨rfl, rfl⟩
          go_wp2_with fail
          refine (Calls.mono H2.out) ?_
          rintro r w1 ⟨rfl, rfl⟩
          go_wp2_with fail
          refine (Calls.mono L.out) ?_
          rintro r w1 ⟨rfl, rfl⟩
          go_wp2_with fail
          try rw [hd']
          refine (Calls.mono D.out) ?_
          rintro r w2 ⟨v, rfl, hN, hb⟩
          have HN := (Aside.intro (And.intro hN hb))
          clear hN hb D
          go_wp2
          go_ret2
          exact ⟨⟨_, rfl, HN.out.1⟩, HN.out.2⟩
      · obtain ⟨d, rfl⟩ : ∃ d : Nat, by' = (d : Int) := ⟨by'.toNat, by omega⟩
        by_cases hover : 262144 - (c : Int) < (d : Int)
        · have e : shiftS X (d : Int) = (0, 2) := by unfold shiftS; rw [if_neg hLX, if_neg h0, if_neg hneg, hcc, if_pos hover]
          rw [e]
          clear e hLX HR hcc hlt h0 hneg
          go_enter Tryd.func51, Tryd.ntmps51
          go_wp2_with fail
          refine (Calls.mono H1.out) ?_
          rintro r w1 ⟨rfl, rfl⟩
          go_wp2_with fail
          refine (Calls.mono H2.out) ?_
          rintro r w1 ⟨rfl, rfl⟩
          go_wp2_with fail
          refine (Calls.mono L.out) ?_
          rintro r w1 ⟨rfl, rfl⟩
          go_wp2
          go_ret2
          exact ⟨⟨_, rfl, Nt.nil _ _⟩, Below.refl _ _⟩
        · have e : shiftS X (d : Int) = (X * 2 ^ d, 0) := by unfold shiftS; rw [if_neg hLX, if_neg h0, if_neg hneg, hcc, if_neg hover, Int.toNat_natCast]
          rw [e]
          obtain ⟨hRX, hl1⟩ := HR.out
          have D0 := up_any (ws X) ao _ cap B d (d / 32) (d % 32) w rfl (by omega) (by omega) (by omega) (by unfold LG at hLX; omega) (wf_ws X) hRX hB
          rw [val_ws] at D0
          have D := hid D0
          have hle : (d : Int) ≤ 262144 - (c : Int) := by omega
          have hleb : decide (262144 - (c : Int) < (d : Int)) = false := decide_eq_false (by omega)
          clear e hLX HR hcc hlt h0 hRX hl1 D0 hover hneg
          go_enter Tryd.func51, Tryd.ntmps51
          go_wp2_with fail
          refine (Calls.mono H1.out) ?_
          rintro r w1 ⟨rfl, rfl⟩
          go_wp2_with fail
          refine (Calls.mono H2.out) ?_
          rintro r w1 ⟨rfl, rfl⟩
          go_wp2_with fail
          refine (Calls.mono L.out) ?_
          rintro r w1 ⟨rfl, rfl⟩
          go_wp2_with fail
          refine (Calls.mono D.out) ?_
          rintro r w2 ⟨v, rfl, hN, hb⟩
          have HN := (Aside.intro (And.intro hN hb))
          clear hN hb D
          go_wp2
          go_ret2
          exact ⟨⟨_, rfl, HN.out.1⟩, HN.out.2⟩
end Go.Proofs.YthilnddhehbjiaaDoor

/- The document's Norm, Len; Formed; pick, few. -/
namespace Go.Proofs.YthilnddhehbjiaaDoor
open Go.RowKit
set_option linter.unusedVariables false
set_option maxRecDepth 20000

theorem append_words (w : World) (lo : Nat) (v : Value) (n : Nat) (xs src : List Nat) (ao : Option Addr) (m c B : Nat) (ty : TypeId) (hown : w.ownsRow lo 61 1 v n (xs.map U)) (hm : m = src.length) (hR : Rd B w ao src)
    (hnil : ao = none → c = 0) (hbig : n + m ≤ 35184372088832) (hlo : lo ≤ w.heap.size) :
    ∃ v' w', (Builtin.append_ #[23, 23] ty #[v, .slice ao m c]).run Tryd.prog w = .ok v' w' ∧ w'.ownsRow lo 61 1 v' (n + m) ((xs ++ src).map U) ∧ w.grownBy w' v.ownBlock := by
  obtain ⟨i0, hi, hz0, hz1, hz2⟩ := info_parts Tryd.info61
  subst hm
  rcases hao : ao with _ | a
  · have h0 : src = [] := by
      by_cases h : src = []
      · exact h
      · obtain ⟨b, off, _, e, _⟩ := hR h
        rw [hao] at e; cases e
    subst h0
    have hc := hnil hao
    subst hc
    exact ⟨v, w, run_append_owned_none (P := Tryd.prog) w lo 23 ty 61 i0 1 Tryd.underlying23 hi v n _ hown, by simpa using hown, World.grownBy.refl _ _⟩
  · obtain ⟨v', w', h1, h2, h3, _⟩ := run_append_own (P := Tryd.prog) w lo 23 ty 61 i0 (.int .u32 0) 1 4 Tryd.underlying23 hi hz0 hz1 hz2 rfl (by decide) v n (xs.map U) hown a src.length c (src.map U) (by simp) (by
      intro j u hj
      have hj2 : j < src.length := by have := (List.getElem?_eq_some_iff.1 hj).1; simpa using this
      obtain ⟨b, off, _, e, hc⟩ := hR (by intro e; subst e; simp at hj2)
      rw [hao] at e
      cases e
      have hadd : (⟨b, off, none⟩ : Addr).add j = ⟨b, off + j, none⟩ := by unfold Addr.add; split <;> simp_all
      rw [hadd, hc j hj2]
      simp [hj2, U] at hj
      simp [hj2, ← hj]) (by
      intro u hu
      obtain ⟨x, _, rfl⟩ := List.mem_map.1 hu
      rfl) (by unfold maxLen; omega) (by omega) hlo
    exact ⟨v', w', h1, by rw [List.map_append]; exact h2, h3⟩

/-- An append whose run is known, as a law for the walk. -/
theorem wpList_append_run {w : World} {ops : Array Oper} {rest : List Oper} {o : Oper} {a : Act} {Q : Exit → Act → World → Prop} (hgd : o.guard = none) (s x : Operand)
    (ho : o.op = .call { callee := .builtin .append, args := #[s, x], argTypes := #[23, 23] }) (v u : Value) (hs : a.eval s = v) (hx : a.eval x = u) (v' : Value) (w' : World)
    (hrun : (Builtin.append_ #[23, 23] o.type #[v, u]).run Tryd.prog w = .ok v' w') (h : wpList Tryd.prog ops Q rest (a.put o.dst v') w') : wpList Tryd.prog ops Q (o :: rest) a w := by
  refine wpList_plain hgd fun K hK => ?_
  unfold Oper.wp
  simp [execOp, ho, resolve, invoke, builtin, hs, hx, hrun, Result.andThen]
  exact hK _ _ h

set_option maxHeartbeats 1000000 in
theorem rNorm_any (xs : List Nat) (ao : Option Addr) (n cap B : Nat) (w : World) (hn : n = xs.length) (hc : n ≤ cap) (hm : n ≤ 35184372088832) (hx : Wf xs) (hR : Rd B w ao xs) (hnil : ao = none → cap = 0) :
    Calls Tryd.prog 65 #[.slice ao n cap] w fun r w' => ∃ v, r = .returned v ∧ Nt w.heap.size w' v (val xs) ∧ Below w.heap.size w w' := by
  have S := hid (size_any xs ao n cap B w hn (by omega) hR)
  have hl := nl_le xs
  have hf := form_eq xs hx
  obtain ⟨v', w', hap, hown, hgrow⟩ := append_words w w.heap.size (.slice none 0 0) 0 [] (xs.take (nl xs)) ao (nl xs) cap B 23 (World.ownsRow_nil _ _ _ _) (by rw [List.length_take]; omega) (hR.take _) hnil (by omega) (Nat.le_refl _)
  have hN : Nt w.heap.size w' v' (val xs) := by
    unfold Nt
    rw [← hf]
    simpa [Nat.min_eq_left hl] using hown
  have hb : Below w.heap.size w w' := (Below.refl _ _).grown hgrow (Nat.le_refl _) (fun k hk => by simp [Value.ownBlock] at hk)
  have HN := (Aside.intro (And.intro hN hb))
  obtain ⟨k, hk⟩ : ∃ k, nl xs = k := ⟨_, rfl⟩
  rw [hk] at S hap hl
  have hkn : k ≤ n := by omega
  have HZ : Aside (n = 0 → val xs = 0) := by intro h0; have : xs = [] := List.length_eq_zero_iff.1 (by omega); rw [this]; rfl
  clear hN hb hown hgrow hf hl hn hx hR hk
  rcases hao : ao with _ | a
  · have hc0 := hnil hao
    subst hc0
    subst hao
    obtain rfl : n = 0 := by omega
    obtain rfl : k = 0 := by omega
    go_enter Tryd.func65, Tryd.ntmps65
    go_wp2_with fail
    refine (Calls.mono S.out) ?_
    rintro r w1 ⟨rfl, rfl⟩
    go_wp2
    go_ret
    rw [HZ.out (by trivial)]
    exact ⟨_, rfl, Nt.nil _ _, Below.refl _ _⟩
  · subst hao
    go_enter Tryd.func65, Tryd.ntmps65
    go_wp2_with fail
    refine (Calls.mono S.out) ?_
    rintro r w1 ⟨rfl, rfl⟩
    have HAP := hid hap
    clear hap
    go_wp2_with (at_builtin; refine wpList_append_run rfl (.tmp 4) (.tmp 8) rfl _ _ rfl rfl _ _ HAP.out ?_)
    go_ret
    exact ⟨_, rfl, HN.out.1, HN.out.2⟩

theorem bl_half (x : Nat) (h : x ≠ 0) : bl x = bl (x / 2) + 1 := by
  by_cases h1 : x = 1
  · subst h1; decide
  · have hx2 : x / 2 ≠ 0 := by omega
    obtain ⟨c, hc⟩ : ∃ c, bl (x / 2) = c + 1 := ⟨bl (x / 2) - 1, by have := bl_pos _ hx2; omega⟩
    have a := bl_ge _ hx2
    have b := bl_lt (x / 2)
    rw [hc] at a b ⊢
    rw [Nat.add_sub_cancel] at a
    exact bl_eq x (c + 1) (by rw [Nat.pow_succ]; omega) (by rw [Nat.pow_succ]; omega)

set_option maxHeartbeats 1000000 in
theorem rLen_any (xs : List Nat) (ao : Option Addr) (n cap B : Nat) (w : World) (hn : n = xs.length) (hm : n ≤ 70368744177664) (hx : Wf xs) (hR : Rd B w ao xs) :
    Calls Tryd.prog 93 #[.slice ao n cap] w fun r w' => r = .returned (.int .i64 (bl (val xs) : Nat)) ∧ w' = w := by
  have H := hid (size_any xs ao n cap B w hn (by omega) hR)
  have hl := nl_le xs
  rcases hk : nl xs with _ | k
  · rw [(nl_zero_iff xs).1 hk, bl_zero]
    rw [hk] at H
    clear hk hl hn hx hR
    go_enter Tryd.func93, Tryd.ntmps93
    go_wp2_with fail
    refine (Calls.mono H.out) ?_
    rintro r w1 ⟨rfl, rfl⟩
    go_wp2
    go_ret
    exact ⟨rfl, rfl⟩
  · have hbw := bl_words xs hx k hk
    rw [hk] at H hl
    obtain ⟨e, hlt, h0, hl2⟩ := form_top xs hx k hk
    obtain ⟨b, off, hB, rfl, hcell⟩ := hR (by intro e; subst e; simp at hl)
    have hck := hcell k hl2
    obtain ⟨t, ht⟩ : ∃ t, xs.getD k 0 = t := ⟨_, rfl⟩
    have htl : t < 4294967296 := ht ▸ hx.get k
    rw [ht] at hck hbw
    have hb := bl_le32 t htl
    have hkn : k < n := by omega
    have HB := (Aside.intro (And.intro hbw hb))
    clear hk hl hn hx hR e hlt h0 hl2 hcell ht hbw hb
    go_enter Tryd.func93, Tryd.ntmps93
    go_wp2_with fail
    refine (Calls.mono H.out) ?_
    rintro r w1 ⟨rfl, rfl⟩
    go_wp2
    go_loopg [4, 5] t (fun gk bv xv wr => ∃ c : Nat, bv = .int .i64 (c : Nat) ∧ xv = .int .u32 (gk : Nat) ∧ gk ≤ t ∧ c ≤ 32 * k + 32 ∧ wr = w1 ∧ Aside (c + bl gk = 32 * k + bl t))
    case atStart => exact ⟨32 * k, by first | go_num | (congr 1; omega), rfl, Nat.le_refl _, by omega, rfl, rfl⟩
    case round =>
      obtain ⟨c, rfl, rfl, hgt, hc, rfl, HA⟩ := hrel
      by_cases hg0 : gk = 0
      · subst hg0
        go_wp2
        go_ret
        have h1 := HA.out
        rw [bl_zero, Nat.add_zero] at h1
        rw [HB.out.1, ← h1]
        exact ⟨rfl, rfl⟩
      · have hg1 : (0 : Int) < (gk : Int) := by omega
        obtain ⟨g2, hg2⟩ : ∃ g, g = gk / 2 := ⟨_, rfl⟩
        have e2 : (gk : Int) / 2 = (g2 : Int) := by omega
        have HX := (Aside.intro (And.intro hg2 hg0))
        clear hg2 hg0
        go_wp2
        go_roundg g2
        case measure => obtain ⟨hg2, hg0⟩ := HX.out; omega
        case rel =>
          obtain ⟨hg2, hg0⟩ := HX.out
          have h1 := HA.out
          have h2 := bl_half gk hg0
          rw [← hg2] at h2
          have h3 := HB.out.2
          exact ⟨c + 1, by go_num, by first | rfl | rw [e2], by omega, by omega, rfl, by rw [Aside]; omega⟩

end Go.Proofs.YthilnddhehbjiaaDoor

