/- div: a quotient and what is left, in new memory: word by word. -/
import Derived.Test.YtlhiccmdhnhdeaaDoorW20
namespace Go.Proofs.YtlhiccmdhnhdeaaDoor
open Go.RowKit
set_option linter.unusedVariables false
set_option maxRecDepth 20000

theorem div_start (X Y n m z : Nat) (hX : X < pw n) (hY : pw (m - 1) * 2 ^ (31 - z) ≤ Y) (hz : z < 32) (hm : 0 < m) (hnm : m ≤ n) : X * 2 ^ z < pw (n - m + 1) * (Y * 2 ^ z) := by
  have h1 : pw n = pw (n - m + 1) * pw (m - 1) := by rw [← pw_add]; congr 1; omega
  have h2 : pw n ≤ pw (n - m + 1) * Y := by
    have h3 : pw (m - 1) * 1 ≤ pw (m - 1) * 2 ^ (31 - z) := Nat.mul_le_mul_left _ (Nat.two_pow_pos _)
    rw [h1]
    exact Nat.mul_le_mul_left _ (by omega)
  have h3 : X * 2 ^ z < pw (n - m + 1) * Y * 2 ^ z := Nat.mul_lt_mul_of_pos_right (by omega) (Nat.two_pow_pos z)
  rw [Nat.mul_assoc] at h3
  exact h3

/-- The highest word of a divisor tells how far it is to be moved. -/
theorem lead_facts (ys : List Nat) (m : Nat) (hm : m = ys.length) (hy : Wf ys) (hm0 : 0 < m) (htop : ys.getD (m - 1) 0 ≠ 0) :
    ∃ z, z = 32 - bl (ys.getD (m - 1) 0) ∧ z < 32 ∧ val ys ≠ 0 ∧ pw (m - 1) * 2 ^ (31 - z) ≤ val ys ∧ val ys < pw (m - 1) * 2 ^ (32 - z) := by
  have hl := hy.get (m - 1)
  have h1 := bl_le32 _ hl
  have h2 := bl_pos _ htop
  have h3 := bl_ge _ htop
  have h4 := bl_lt (ys.getD (m - 1) 0)
  have e := sg_succ ys 0 (m - 1) (by omega)
  rw [Nat.zero_add, show m - 1 + 1 = ys.length by omega, sg_all] at e
  have h5 := sg_lt ys 0 (m - 1) hy (by omega)
  generalize ys.getD (m - 1) 0 = t at *
  have hp := pw_pos (m - 1)
  have h6 : pw (m - 1) * 2 ^ (bl t - 1) ≤ pw (m - 1) * t := Nat.mul_le_mul_left _ h3
  have h7 : pw (m - 1) * (t + 1) ≤ pw (m - 1) * 2 ^ bl t := Nat.mul_le_mul_left _ h4
  rw [Nat.mul_add, Nat.mul_one] at h7
  have h8 : pw (m - 1) * 1 ≤ pw (m - 1) * t := Nat.mul_le_mul_left _ (by omega)
  refine ⟨32 - bl t, rfl, by omega, by omega, ?_, ?_⟩
  · rw [show 31 - (32 - bl t) = bl t - 1 by omega]; omega
  · rw [show 32 - (32 - bl t) = bl t by omega]; omega

set_option maxHeartbeats 4000000 in
theorem div_long (xs ys : List Nat) (ao bo : Option Addr) (n cap m capb B : Nat) (w : World) (hn : n = xs.length) (hm : m = ys.length) (hm2 : 2 ≤ m) (hnm : m ≤ n) (hc : n ≤ cap) (hcb : m ≤ capb) (hbig : n ≤ 35184372088833)
    (hx : Wf xs) (hy : Wf ys) (htop : ys.getD (m - 1) 0 ≠ 0) (hR : Rd B w ao xs) (hS : Rd B w bo ys) (hB : B ≤ w.heap.size) :
    Calls Tryd.prog 99 #[.slice ao n cap, .slice bo m capb] w fun r w' => Two w.heap.size w' r (val xs / val ys) (val xs % val ys) ∧ Below w.heap.size w w' := by
  obtain ⟨z, hz, hz32, hY0, hY1, hY2⟩ := lead_facts ys m hm hy (by omega) htop
  obtain ⟨hVl, hVlt, hVt⟩ := up_form (val ys) m z hY0 hY1 hY2 hz32 (by omega)
  obtain ⟨b, boff, hbB, rfl, hbc⟩ := hS (by intro e; subst e; simp at hm; omega)
  have hbt := hbc (m - 1) (by omega)
  have htl := hy.get (m - 1)
  have L0 := lead32_any (ys.getD (m - 1) 0) w htl
  rw [← hz] at L0
  have U1 := hid (up_any ys (some ⟨b, boff, none⟩) m capb B z 0 z w hm hcb (by omega) hz32 (by omega) hy hS hB)
  obtain ⟨t, ht⟩ : ∃ t, ys.getD (m - 1) 0 = t := ⟨_, rfl⟩
  rw [ht] at hbt L0 htl
  have L1 := hid L0
  obtain ⟨V, hV⟩ : ∃ V, val ys * 2 ^ z = V := ⟨_, rfl⟩
  rw [hV] at hVl hVlt hVt U1
  have hX2 : val xs * 2 ^ z < pw (n + 1) := by
    have h1 := val_lt xs hx
    rw [← hn] at h1
    have h2 := two_pow_lt z hz32
    have h3 : val xs * 2 ^ z ≤ pw n * 2147483648 := Nat.mul_le_mul (by omega) h2
    have h4 : pw n * 2147483648 < pw (n + 1) := by rw [pw_succ, Nat.mul_comm]; exact Nat.mul_lt_mul_of_pos_right (by decide) (pw_pos n)
    omega
  have hXl := (ws_len_le _ _).2 hX2
  have hst := div_start (val xs) (val ys) n m z (by rw [hn]; exact val_lt xs hx) hY1 hz32 (by omega) hnm
  rw [hV] at hst
  have HST := (Aside.intro hst)
  have HH := (Aside.intro (And.intro hn (And.intro hm (And.intro hx (And.intro hy (And.intro hR (And.intro hS (And.intro hVl (And.intro hVlt (And.intro hVt (And.intro hV (And.intro hY0 hXl))))))))))))
  clear hst
  clear L0 hn hm hx hy htop hR hS hz hY0 hY1 hY2 hVl hVlt hVt hV hX2 hXl hbc ht
  have hm1 : (1 : Int) ≤ (m : Int) := by omega
  have hmne : ((m : Int) == 1) = false := by simp; omega
  go_enter Tryd.func99, Tryd.ntmps99
  go_wp2_with fail
  refine (Calls.mono L1.out) ?_
  rintro r w0 ⟨rfl, rfl⟩
  go_wp2_with fail
  refine (Calls.mono U1.out) ?_
  rintro r w1 ⟨vv, rfl, hN1, hb1⟩
  obtain ⟨hn, hm, hx, hy, hR, hS, hVl, hVlt, hVt, hV, hY0, hXl⟩ := HH.out
  obtain ⟨av, cv, rfl, hcv, hcm, hRv⟩ := hN1.shape
  rw [hVl] at *
  obtain ⟨gu, hgu⟩ : ∃ gu, gu = w1.heap.size := ⟨_, rfl⟩
  obtain ⟨W2, hW2⟩ : ∃ W, W = w1.alloc (.cells (madeCells #[.int .u32 0] (n + 1)) 57) := ⟨_, rfl⟩
  have hO2 : Own W2 gu (List.replicate (n + 1) 0) := by rw [hW2, hgu]; exact Own.made w1 _
  have hB2 : Below gu w1 W2 := by rw [hW2, hgu]; exact (Below.refl _ _).alloc (Nat.le_refl _) _
  have hmk := make_words ((n : Int) + 1) (n + 1) (by omega) (by omega) w1
  rw [← hW2, ← hgu] at hmk
  have hs1 := hb1.size
  have hs2 := hB2.size
  have hg2 := hO2.lt
  have U2 := hid (up_any xs ao n cap B z 0 z W2 hn hc (by omega) hz32 (by omega) hx ((hR.below (hb1.mono hB)).below (hB2.mono (by omega))) (by omega))
  have H1 := (Aside.intro (And.intro hN1 (And.intro hb1 (And.intro hRv (And.intro hO2 (And.intro hB2 (And.intro hgu hg2)))))))
  clear hn hm hx hy hR hS hVl hVlt hVt hV hY0 hXl hN1 hb1 hRv hO2 hB2 hW2 hs1 hs2 L1 U1 hbt hg2 hgu
  go_wp2_with fail
  refine (Calls.mono U2.out) ?_
  rintro r W3 ⟨va, rfl, hN3, hb3⟩
  obtain ⟨aa, ca, rfl, hca, hcam, hRa⟩ := hN3.shape
  obtain ⟨hn, hm, hx, hy, hR, hS, hVl, hVlt, hVt, hV, hY0, hXl⟩ := HH.out
  obtain ⟨hN1, hb1, hRv, hO2, hB2, hgu', hg2⟩ := H1.out
  obtain ⟨W4, hcp, hO4, hb4⟩ := copy_words W3 gu (n + 1) (n + 1) aa (ws (val xs * 2 ^ z)).length ca W3.heap.size 3 (List.replicate (n + 1) 0) (ws (val xs * 2 ^ z)) (hO2.below hb3 hg2) (by simp) rfl hRa hXl
  obtain ⟨gq, hgq⟩ : ∃ g, g = W4.heap.size := ⟨_, rfl⟩
  obtain ⟨W5, hW5⟩ : ∃ W, W = W4.alloc (.cells (madeCells #[.int .u32 0] (n - m + 1)) 57) := ⟨_, rfl⟩
  have hO5 : Own W5 gq (List.replicate (n - m + 1) 0) := by rw [hW5, hgq]; exact Own.made W4 _
  have hmk5 := make_words ((n : Int) - m + 1) (n - m + 1) (by omega) (by omega) W4
  rw [← hW5, ← hgq] at hmk5
  obtain ⟨L, hL⟩ : ∃ L, L = ws (val xs * 2 ^ z) ++ (List.replicate (n + 1) 0).drop (ws (val xs * 2 ^ z)).length := ⟨_, rfl⟩
  rw [← hL] at hO4
  have hLl : L.length = n + 1 := by rw [hL, List.length_append, List.length_drop, List.length_replicate]; omega
  have hLw : Wf L := by rw [hL, List.drop_replicate]; exact (wf_ws _).append (Wf.zeros _)
  have hLv : val L = val xs * 2 ^ z := by rw [hL, val_append, val_ws, List.drop_replicate, val_zeros]; simp
  have hs3 := hb3.size
  have hs4 := hb4.size
  have hguq : gu < gq := by rw [hgq]; have := hO4.lt; omega
  have hbW5 : Below gu w1 W5 := by
    rw [hW5]
    have a1 : Below gu w1 W3 := hB2.trans (hb3.mono (by omega))
    have a2 : Below gu w1 W4 := But.below a1 hb4 (by omega) (Nat.le_refl _)
    exact a2.alloc (by omega) _
  have hOu5 : Own W5 gu L := by rw [hW5]; exact hO4.alloc _
  have H2 := (Aside.intro (And.intro hO5 (And.intro hOu5 (And.intro hLl (And.intro hLw (And.intro hLv (And.intro hguq hbW5)))))))
  have hgq1 : gu < gq := hguq
  clear hn hm hx hy hR hS hVl hVlt hVt hV hY0 hXl hN1 hb1 hRv hO2 hB2 hgu' hg2 hN3 hb3 hRa hO4 hb4 hgq hW5 hO5 hL hLl hLw hLv hs3 hs4 hbW5 hOu5 U2 hguq hca hcam
  have hca2 : m ≤ cv := by omega
  have e5 : ((n - m : Nat) : Int) = (n : Int) - m := by omega
  go_wp2
  go_loopg [10] (n - m + 1) (fun k i wr => ∃ (M Q : List Nat), k ≤ n - m + 1 ∧ i = .int .i64 ((k : Int) - 1) ∧ Hid (Own wr gu M) ∧ Hid (Own wr gq Q) ∧
      Aside (Wf M ∧ Wf Q ∧ M.length = n + 1 ∧ Q.length = n - m + 1 ∧ val L = pw k * sg Q k (n - m + 1 - k) * V + val M ∧ val M < pw k * V ∧ Below gu w1 wr))
  case atStart =>
    obtain ⟨hO5, hOu5, hLl, hLw, hLv, hguq, hbW5⟩ := H2.out
    refine ⟨L, List.replicate (n - m + 1) 0, Nat.le_refl _, ?_, hOu5, hO5, hLw, Wf.zeros _, hLl, by simp, ?_, ?_, hbW5⟩
    · first | rfl | (congr 1; omega)
    · rw [Nat.sub_self, sg_zero]; simp
    · rw [hLv]; exact HST.out
  case round =>
    obtain ⟨M, Q, hk, rfl, HM, HQ, HA⟩ := hrel
    by_cases hk0 : gk = 0
    · subst hk0
      obtain ⟨hMw, hQw, hMl, hQl, hinv, hMlt, hbel⟩ := HA.out
      have T1 := hid (trim_any Q (some ⟨gq, 0, none⟩) (n - m + 1) (n - m + 1) (gq + 1) wr hQl.symm (Nat.le_refl _) (by omega) (by simpa [hQl, List.take_of_length_le] using Rd.ofOwn HQ.out 0 (n - m + 1)))
      have T2 := hid (trim_any M (some ⟨gu, 0, none⟩) (n + 1) (n + 1) (gu + 1) wr hMl.symm (Nat.le_refl _) (by omega) (by simpa [hMl, List.take_of_length_le] using Rd.ofOwn HM.out 0 (n + 1)))
      have hnlM := nl_le M
      have hRM : Rd (gu + 1) wr (some ⟨gu, 0, none⟩) (M.take (nl M)) := by
        have := Rd.ofOwn HM.out 0 (nl M)
        simpa using this
      have D := hid (down_any (M.take (nl M)) (some ⟨gu, 0, none⟩) (nl M) (n + 1) (gu + 1) z 0 z wr (by rw [List.length_take, Nat.min_eq_left hnlM]) (by omega) (by omega) hz32 (by omega) (by omega) (hMw.take _) hRM (by have := HM.out.lt; omega))
      rw [val_form M hMw] at D
      clear hMw hQw hMl hQl hinv hMlt hbel hnlM hRM
      go_wp2_with fail
      refine (Calls.mono T1.out) ?_
      rintro r wt1 ⟨rfl, rfl⟩
      go_wp2_with fail
      refine (Calls.mono T2.out) ?_
      rintro r wt2 ⟨rfl, rfl⟩
      go_wp2_with fail
      refine (Calls.mono D.out) ?_
      rintro r wd ⟨vr, rfl, hNr, hbr⟩
      have HD := (Aside.intro (And.intro hNr hbr))
      clear hNr hbr T1 T2 D
      go_wp2
      go_ret2
      obtain ⟨hNr, hbr⟩ := HD.out
      obtain ⟨hn, hm, hx, hy, hR, hS, hVl, hVlt, hVt, hV, hY0, hXl⟩ := HH.out
      obtain ⟨hN1, hb1, hRv, hO2, hB2, hgu', hg2⟩ := H1.out
      obtain ⟨hO5, hOu5, hLl, hLw, hLv, hguq, hbW5⟩ := H2.out
      obtain ⟨hMw, hQw, hMl, hQl, hinv, hMlt, hbel⟩ := HA.out
      rw [pw_zero, Nat.one_mul] at hMlt hinv
      rw [Nat.sub_zero, ← hQl, sg_all, hLv, ← hV] at hinv
      rw [← hV] at hMlt
      obtain ⟨hq, hr⟩ := div_end (val xs) (val ys) (2 ^ z) (val Q) (val M) (Nat.two_pow_pos z) hinv hMlt
      rw [← hq, ← hr]
      have hsz : w0.heap.size ≤ gu := by rw [hgu']; exact hb1.size
      have NQ := Nt.ofOwn (lo := w0.heap.size) HQ.out (by omega) hQw (by rw [hQl]; unfold maxLen; omega)
      rw [hQl] at NQ
      have hwr : gu ≤ wt2.heap.size := by have := HM.out.lt; omega
      refine ⟨⟨_, _, rfl, NQ.below hbr, hNr.mono (by omega), apart_of (hi := 0) NQ hNr (Nat.le_refl _)⟩, ?_⟩
      exact ((hb1.trans (hbel.mono hsz))).trans (hbr.mono (by omega))
    · obtain ⟨i, rfl⟩ : ∃ i, gk = i + 1 := ⟨gk - 1, by omega⟩
      obtain ⟨hn, hm, hx, hy, hR, hS, hVl, hVlt, hVt, hV, hY0, hXl⟩ := HH.out
      obtain ⟨hN1, hb1, hRv, hO2, hB2, hgu', hg2⟩ := H1.out
      obtain ⟨hMw, hQw, hMl, hQl, hinv, hMlt, hbel⟩ := HA.out
      obtain ⟨k, hk2⟩ : ∃ k, m = k + 2 := ⟨m - 2, by omega⟩
      obtain ⟨hz0, hhead⟩ := div_head M i m V hMw (by omega) hVlt hMlt
      have T := hid (takeOut_any M (ws V) gu i (n + 1 - i) av m cv gu wr k hk2 HM.out (by omega) (by omega) (by omega) (by omega) hMw (wf_ws V) ((hgu' ▸ hRv).below hbel) (Nat.le_refl _)
        (by rw [show k + 1 = m - 1 by omega]; exact hVt) (by rw [show k + 3 = m + 1 by omega, val_ws]; exact hhead))
      have hik : (i : Int) < (n : Int) - m + 1 := by omega
      have HI := (Aside.intro (And.intro hz0 hk2))
      clear hn hm hx hy hR hS hVl hVlt hVt hV hY0 hXl hN1 hb1 hRv hO2 hB2 hgu' hg2 hMw hQw hMl hQl hinv hMlt hbel hz0 hhead hk2 hk0
      go_wp2_with fail
      rw [show i + m + 1 - i = m + 1 by omega]
      refine (Calls.mono T.out) ?_
      rintro r w2 ⟨o, M2, rfl, ho, hOM2, hM2w, hout, hsum, hlt2, hbut⟩
      have hQ2 := HQ.out.but hbut (by omega)
      have hqc := hQ2.cell i (by rw [HA.out.2.2.2.1]; omega)
      have hqf := hQ2.frozen i
      have HJ := (Aside.intro (And.intro ho (And.intro hOM2 (And.intro hM2w (And.intro hout (And.intro hsum (And.intro hlt2 (And.intro hbut hQ2))))))))
      clear ho hOM2 hM2w hout hsum hlt2 hbut hQ2 T
      go_wp2
      go_roundg i
      case measure => omega
      case rel =>
        obtain ⟨ho, hOM2, hM2w, hout, hsum, hlt2, hbut, hQ2⟩ := HJ.out
        obtain ⟨hMw, hQw, hMl, hQl, hinv, hMlt, hbel⟩ := HA.out
        obtain ⟨hz0, hk2⟩ := HI.out
        rw [val_ws] at hsum hlt2
        have hQr : i + 1 + (n - m + 1 - (i + 1)) = Q.length := by omega
        obtain ⟨hX, hlt3⟩ := div_step M M2 Q i m (n - m + 1 - (i + 1)) V o (val L) hMw (by omega) hout hinv hz0 hQr hsum hlt2
        refine ⟨M2, Q.set i o, by omega, by first | go_num | (congr 1; omega), hOM2.setOther (by simp; omega) _, hQ2.set i o, hM2w, hQw.set _ _ ho, by rw [hout.1, hMl], by simp [hQl], ?_, hlt3, (But.below hbel hbut (by have := HM.out.lt; omega) (Nat.le_refl _)).setCell (by simp; omega) _⟩
        rw [show n - m + 1 - i = n - m + 1 - (i + 1) + 1 by omega]
        exact hX
end Go.Proofs.YtlhiccmdhnhdeaaDoor
