/- The document's Minus, Cmp, Bit. -/
import Derived.Test.YtonhahbmdekkdaaDoorW43
import Derived.Test.YtonhahbmdekkdaaDoorW17
import Derived.Test.YtonhahbmdekkdaaDoorW16
namespace Go.Proofs.YtonhahbmdekkdaaDoor
open Go.RowKit
set_option linter.unusedVariables false
set_option maxRecDepth 20000

theorem val_take_small (ys : List Nat) (hy : Wf ys) (n : Nat) (h : val ys < pw n) : val (ys.take n) = val ys := by
  by_cases hn : n ≤ ys.length
  · have h1 := val_take_drop ys n hn
    have : val (ys.drop n) = 0 := by
      rcases Nat.eq_zero_or_pos (val (ys.drop n)) with h0 | h0
      · exact h0
      · have h2 : pw n * 1 ≤ pw n * val (ys.drop n) := Nat.mul_le_mul_left _ h0
        omega
    rw [this] at h1
    omega
  · rw [List.take_of_length_le (by omega)]

theorem minus_end (V Y X c p : Nat) (hV : V < p) (hle : Y ≤ X) (hc : c ≤ 1) (h : V + Y = X + c * p) : V = X - Y := by
  rcases (by omega : c = 0 ∨ c = 1) with rfl | rfl <;> omega

set_option maxHeartbeats 2000000 in
theorem rMinus_any (xs ys : List Nat) (ao bo : Option Addr) (n cap m capb B : Nat) (w : World) (hn : n = xs.length) (hm : m = ys.length) (hc : n ≤ cap) (hcb : m ≤ capb) (hbig : n ≤ 35184372088000) (hbig2 : m ≤ 35184372088000)
    (hx : Wf xs) (hy : Wf ys) (hR : Rd B w ao xs) (hS : Rd B w bo ys) (hB : B ≤ w.heap.size) (hle : val ys ≤ val xs) :
    Calls Tryd.prog 78 #[.slice ao n cap, .slice bo m capb] w fun r w' => ∃ v, r = .returned v ∧ Nt w.heap.size w' v (val xs - val ys) ∧ Below w.heap.size w w' := by
  have hX := val_lt xs hx
  rw [← hn] at hX
  have HR := (Aside.intro (And.intro hR (And.intro hS (And.intro hn (And.intro hm (And.intro hx (And.intro hy (And.intro hB (And.intro hX hle)))))))))
  clear hR hS hn hm hx hy hB hX hle
  go_enter Tryd.func78, Tryd.ntmps78
  go_wp2
  go_loopg [5, 6, 7] n (fun gk ov cv iv wr => ∃ (i c : Nat) (L : List Nat), gk + i = n ∧ cv = .int .u64 (c : Nat) ∧ c ≤ 1 ∧ iv = .int .i64 (i : Nat) ∧ Hid (Rw w.heap.size wr ov i (L.map U)) ∧ Hid (Below w.heap.size w wr) ∧
      Aside (Wf L ∧ val L + val (ys.take i) = val (xs.take i) + c * pw i))
  case atStart => exact ⟨0, 0, [], by omega, rfl, by omega, rfl, World.ownsRow_nil _ _ _ _, Below.refl _ _, Wf.nil, by simp [val]⟩
  case round =>
    obtain ⟨i, c, L, hgi, rfl, hc1, rfl, HO, HB, HA⟩ := hrel
    by_cases hgo : i < n
    · obtain ⟨hR, hS, hn, hm, hx, hy, hB, hX, hle⟩ := HR.out
      have HA1 := hid (at_any xs ao n cap B i wr hn (by omega) hx (hR.below (HB.out.mono hB)) (by omega))
      have HA2 := hid (at_any ys bo m capb B i wr hm (by omega) hy (hS.below (HB.out.mono hB)) (by omega))
      obtain ⟨x, hxx⟩ : ∃ x, xs.getD i 0 = x := ⟨_, rfl⟩
      obtain ⟨y, hyy⟩ : ∃ y, ys.getD i 0 = y := ⟨_, rfl⟩
      have hxl : x < 4294967296 := hxx ▸ hx.get i
      have hyl : y < 4294967296 := hyy ▸ hy.get i
      rw [hxx] at HA1
      rw [hyy] at HA2
      obtain ⟨s, hs⟩ : ∃ s : Nat, s = (x + 4294967296 - y - c) % 4294967296 := ⟨_, rfl⟩
      obtain ⟨q, hq⟩ : ∃ q : Nat, q = (x + 4294967296 - y - c) / 4294967296 := ⟨_, rfl⟩
      obtain ⟨d, hd⟩ : ∃ d : Nat, d = 1 - q := ⟨_, rfl⟩
      have e1 : ((x : Int) + 4294967296 - y - c) % 4294967296 = (s : Int) := by omega
      have e2 : ((x : Int) + 4294967296 - y - c) / 4294967296 = (q : Int) := by omega
      have e3 : (1 : Int) - (q : Int) = (d : Int) := by omega
      have hsz := HB.out.size
      obtain ⟨v', w', hap, hown, hgrow, _, _⟩ := append_word (wr.alloc (.cells #[.int .u32 (s : Nat)] 63)) w.heap.size u5 i (L.map U) (.int .u32 (s : Nat)) wr.heap.size 23 (HO.out.alloc _) (by unfold World.cell?; simp only [heap_alloc_new]; rfl) rfl (by omega) (by simp; omega)
      have HX : Aside (xs.getD i 0 = x ∧ ys.getD i 0 = y ∧ s + y + c = x + d * 4294967296 ∧ s < 4294967296 ∧ d ≤ 1) := ⟨hxx, hyy, by omega, by omega, by omega⟩
      have hbel : Below w.heap.size w w' := (HB.out.alloc hsz _).grown hgrow (by simp; omega) (fun k hk => (HO.out.lt k hk).1)
      have HI := (Aside.intro (And.intro hown hbel))
      have HAP := hid hap
      clear hap hown hgrow hbel hs hd hq hxx hyy hR hS hn hm hx hy hB hX hsz hle
      go_wp2_with fail
      refine (Calls.mono HA1.out) ?_
      rintro r w1 ⟨rfl, rfl⟩
      go_wp2_with fail
      refine (Calls.mono HA2.out) ?_
      rintro r w1 ⟨rfl, rfl⟩
      go_wp2_with (at_builtin; refine wpList_append_run2 rfl (.tmp 25) (.tmp 28) 23 rfl _ _ rfl rfl _ _ HAP.out ?_)
      go_roundg (gk - 1)
      case measure => omega
      case rel =>
        obtain ⟨a1, a2, a3, a4, a5⟩ := HX.out
        obtain ⟨hLw, hLv⟩ := HA.out
        refine ⟨i + 1, d, L ++ [s], by omega, by first | rfl | rw [e3] | rw [e2, e3], a5, by first | go_num | (congr 1; omega), by rw [List.map_append]; exact HI.out.1, HI.out.2, hLw.append (Wf.cons a4 Wf.nil), ?_⟩
        have hLl : L.length = i := by have := HO.out.1; simp at this; omega
        rw [val_append, hLl, val_take_all, val_take_all, a1, a2, pw_succ]
        simpa [val] using minus_step (pw i) _ _ _ _ x y s d hLv a3
    · obtain rfl : i = n := by omega
      obtain ⟨aoo, capo, hsh, hcap, hl, hnil, hRo⟩ := HO.out.words
      subst hsh
      obtain ⟨hR, hS, hn, hm, hx, hy, hB, hX, hle⟩ := HR.out
      have HNm := hid (rNorm_any L aoo i capo wr.heap.size wr hl hcap (by omega) HA.out.1 hRo hnil)
      have hLv : val L = val xs - val ys := by
        have h1 := HA.out.2
        rw [List.take_of_length_le (l := xs) (by omega), val_take_small ys hy i (by omega)] at h1
        have h2 := val_lt L HA.out.1
        rw [← hl] at h2
        exact minus_end _ _ _ _ _ h2 hle hc1 h1
      rw [hLv] at HNm
      clear hR hS hn hm hx hy hB hX hl hnil hRo hLv hgo HO hle
      go_wp2_with fail
      refine (Calls.mono HNm.out) ?_
      rintro r w1 ⟨v, rfl, hNt, hb⟩
      have HZ := (Aside.intro (And.intro hNt hb))
      clear hNt hb
      go_wp2
      go_ret
      have hsz := HB.out.size
      exact ⟨v, rfl, HZ.out.1.mono hsz, HB.out.trans (HZ.out.2.mono hsz)⟩

theorem Below.drewN' {B : Nat} {a w : World} (h : Below B a w) (n : Nat) : Below B a (w.drewN n) := ⟨h.os, h.tape, h.output, h.size, h.block⟩

set_option maxHeartbeats 2000000 in
theorem rCmp_any (xs ys : List Nat) (ao bo : Option Addr) (n cap m capb B : Nat) (w : World) (hn : n = xs.length) (hm : m = ys.length) (hbig : n ≤ 70368744177664) (hbig2 : m ≤ 70368744177664)
    (hx : Wf xs) (hy : Wf ys) (hR : Rd B w ao xs) (hS : Rd B w bo ys) :
    Calls Tryd.prog 77 #[.slice ao n cap, .slice bo m capb] w fun r w' => r = .returned (.int .i64 (cmpI (val xs) (val ys))) ∧ Below w.heap.size w w' := by
  have H1 := hid (size_any xs ao n cap B w hn (by omega) hR)
  have H2 := hid (size_any ys bo m capb B w hm (by omega) hS)
  have hl1 := nl_le xs
  have hl2 := nl_le ys
  have f1 := val_form xs hx
  have f2 := val_form ys hy
  rw [← sg_val_take] at f1 f2
  rcases Nat.lt_trichotomy (nl xs) (nl ys) with he | he | he
  · rw [cmpI_lt (cmp_len xs ys hx hy he)]
    obtain ⟨k1, hk1⟩ : ∃ k, nl xs = k := ⟨_, rfl⟩
    obtain ⟨k2, hk2⟩ : ∃ k, nl ys = k := ⟨_, rfl⟩
    rw [hk1] at H1 he
    rw [hk2] at H2 he
    clear hk1 hk2 hn hm hx hy hR hS f1 f2 hl1 hl2
    go_enter Tryd.func77, Tryd.ntmps77
    go_wp2_with fail
    refine (Calls.mono H1.out) ?_
    rintro r w1 ⟨rfl, rfl⟩
    go_wp2_with fail
    refine (Calls.mono H2.out) ?_
    rintro r w1 ⟨rfl, rfl⟩
    have hne : decide (k1 = k2) = false := decide_eq_false (by omega)
    have hne2 : k1 ≠ k2 := by omega
    go_wp2
    go_ret
    exact ⟨rfl, Below.refl _ _⟩
  · obtain ⟨k0, hk0⟩ : ∃ k, nl ys = k := ⟨_, rfl⟩
    rw [he] at H1 hl1 f1
    rw [hk0] at H1 H2 hl1 hl2 f1 f2
    have HR := (Aside.intro (And.intro hR (And.intro hS (And.intro hn (And.intro hm (And.intro hx (And.intro hy (And.intro hl1 (And.intro hl2 (And.intro f1 f2))))))))))
    have hkn : k0 ≤ n := by omega
    have hkm : k0 ≤ m := by omega
    clear hR hS hn hm hx hy hl1 hl2 f1 f2 he hk0
    go_enter Tryd.func77, Tryd.ntmps77
    go_wp2_with fail
    refine (Calls.mono H1.out) ?_
    rintro r w1 ⟨rfl, rfl⟩
    go_wp2_with fail
    refine (Calls.mono H2.out) ?_
    rintro r w1 ⟨rfl, rfl⟩
    go_wp2
    go_loopg [5] k0 (fun k i wr => k ≤ k0 ∧ i = .int .i64 ((k : Int) - 1) ∧ Hid (Below w1.heap.size w1 wr) ∧ Aside (sg xs k (k0 - k) = sg ys k (k0 - k)))
    case atStart => exact ⟨Nat.le_refl _, by first | rfl | go_num, Below.refl _ _, by rw [Nat.sub_self, sg_zero, sg_zero]; exact rfl⟩
    case round =>
      obtain ⟨hk, rfl, HB, HA⟩ := hrel
      by_cases hk0 : gk = 0
      · subst hk0
        go_wp2
        go_ret
        obtain ⟨hR, hS, hn, hm, hx, hy, hl1, hl2, f1, f2⟩ := HR.out
        have h := HA.out
        rw [Nat.sub_zero, f1, f2] at h
        rw [cmpI_eq h]
        exact ⟨rfl, HB.out⟩
      · obtain ⟨k, rfl⟩ : ∃ k, gk = k + 1 := ⟨gk - 1, by omega⟩
        obtain ⟨hR, hS, hn, hm, hx, hy, hl1, hl2, f1, f2⟩ := HR.out
        obtain ⟨b, off, hB1, rfl, hc1⟩ := hR (by intro e; subst e; simp at hl1; omega)
        obtain ⟨b2, off2, hB2, rfl, hc2⟩ := hS (by intro e; subst e; simp at hl2; omega)
        have g1 : wr.cell? ⟨b, off + k, none⟩ = some (.int .u32 ((xs.getD k 0 : Nat) : Int)) :=
          (HB.out.cell (p := ⟨b, off + k, none⟩) (World.block_lt_of_cell? w1 ⟨b, off + k, none⟩ (hc1 k (by omega)))).trans (hc1 k (by omega))
        have g2 : wr.cell? ⟨b2, off2 + k, none⟩ = some (.int .u32 ((ys.getD k 0 : Nat) : Int)) :=
          (HB.out.cell (p := ⟨b2, off2 + k, none⟩) (World.block_lt_of_cell? w1 ⟨b2, off2 + k, none⟩ (hc2 k (by omega)))).trans (hc2 k (by omega))
        obtain ⟨x, hxx⟩ : ∃ x : Nat, xs.getD k 0 = x := ⟨_, rfl⟩
        obtain ⟨y, hyy⟩ : ∃ y : Nat, ys.getD k 0 = y := ⟨_, rfl⟩
        rw [hxx] at g1
        rw [hyy] at g2
        have HX := (Aside.intro (And.intro hxx hyy))
        have hki : (k : Int) < (n : Int) := by omega
        have hki0 : 0 ≤ (k : Int) := by omega
        have hki2 : (k : Int) < (m : Int) := by omega
        clear hR hS hn hm hx hy hl1 hl2 f1 f2 hc1 hc2 hxx hyy hk0
        rcases Nat.lt_trichotomy x y with hxy | hxy | hxy
        · go_wp2
          go_quiet (fail)
          go_wp2
          go_ret
          obtain ⟨hR, hS, hn, hm, hx, hy, hl1, hl2, f1, f2⟩ := HR.out
          have h := HA.out
          have t1 := cmp_words xs ys hx hy k (k0 - (k + 1)) (by omega) (by omega) h (by rw [HX.out.1, HX.out.2]; exact hxy)
          rw [show k + 1 + (k0 - (k + 1)) = k0 by omega, f1, f2] at t1
          rw [cmpI_lt t1]
          exact ⟨rfl, Below.drewN' HB.out _⟩
        · subst hxy
          go_wp2
          go_quiet (fail)
          go_wp2
          go_quiet (fail)
          go_wp2
          go_roundg k
          case measure => omega
          case rel =>
            obtain ⟨hR, hS, hn, hm, hx, hy, hl1, hl2, f1, f2⟩ := HR.out
            refine ⟨by omega, by first | go_num | (congr 1; omega), hid (Below.drewN' HB.out _), ?_⟩
            have h := HA.out
            obtain ⟨r, hr⟩ : ∃ r, k0 - k = r + 1 := ⟨k0 - (k + 1), by omega⟩
            rw [show k0 - (k + 1) = r by omega] at h
            rw [Aside, hr, sg_front xs k r (by omega), sg_front ys k r (by omega), h, HX.out.1, HX.out.2]
        · have hxy2 : decide (x < y) = false := decide_eq_false (by omega)
          go_wp2
          go_quiet (fail)
          go_wp2
          go_quiet (fail)
          go_wp2
          go_ret
          obtain ⟨hR, hS, hn, hm, hx, hy, hl1, hl2, f1, f2⟩ := HR.out
          have h := HA.out
          have t1 := cmp_words ys xs hy hx k (k0 - (k + 1)) (by omega) (by omega) h.symm (by rw [HX.out.1, HX.out.2]; exact hxy)
          rw [show k + 1 + (k0 - (k + 1)) = k0 by omega, f1, f2] at t1
          rw [cmpI_gt t1]
          exact ⟨rfl, Below.drewN' (Below.drewN' HB.out _) _⟩
  · rw [cmpI_gt (cmp_len ys xs hy hx he)]
    obtain ⟨k1, hk1⟩ : ∃ k, nl xs = k := ⟨_, rfl⟩
    obtain ⟨k2, hk2⟩ : ∃ k, nl ys = k := ⟨_, rfl⟩
    rw [hk1] at H1 he
    rw [hk2] at H2 he
    clear hk1 hk2 hn hm hx hy hR hS f1 f2 hl1 hl2
    go_enter Tryd.func77, Tryd.ntmps77
    go_wp2_with fail
    refine (Calls.mono H1.out) ?_
    rintro r w1 ⟨rfl, rfl⟩
    go_wp2_with fail
    refine (Calls.mono H2.out) ?_
    rintro r w1 ⟨rfl, rfl⟩
    have hne : decide (k1 = k2) = false := decide_eq_false (by omega)
    have hlt : decide (k1 < k2) = false := decide_eq_false (by omega)
    have hne2 : k1 ≠ k2 := by omega
    go_wp2
    go_ret
    exact ⟨rfl, Below.refl _ _⟩

theorem rBit_neg (ao : Option Addr) (n cap : Nat) (i : Int) (w : World) (hi : i < 0) :
    Calls Tryd.prog 137 #[.slice ao n cap, .int .i64 i] w fun r w' => r = .returned (.bool false) ∧ w' = w := by
  go_enter Tryd.func137, Tryd.ntmps137
  go_wp2
  go_ret
  exact ⟨rfl, rfl⟩

set_option maxHeartbeats 1000000 in
theorem rBit_any (xs : List Nat) (ao : Option Addr) (n cap B i : Nat) (w : World) (hn : n = xs.length) (hx : Wf xs) (hR : Rd B w ao xs) (hi : i ≤ 9223372036854775807) :
    Calls Tryd.prog 137 #[.slice ao n cap, .int .i64 (i : Int)] w fun r w' => r = .returned (.bool (decide (val xs / 2 ^ i % 2 = 1))) ∧ w' = w := by
  obtain ⟨k, hk⟩ : ∃ k, k = i / 32 := ⟨_, rfl⟩
  obtain ⟨r, hr⟩ : ∃ r, r = i % 32 := ⟨_, rfl⟩
  have e1 : (i : Int) / 32 = (k : Int) := by omega
  have e2 : (i : Int) % 32 = (r : Int) := by omega
  by_cases hkn : k < n
  · have hb := bit_words xs hx k r (by omega) (by omega)
    rw [show 32 * k + r = i by omega] at hb
    rw [hb]
    obtain ⟨b, off, hB, rfl, hcell⟩ := hR (by intro e; subst e; simp at hn; omega)
    have hck := hcell k (by omega)
    obtain ⟨t, ht⟩ : ∃ t, xs.getD k 0 = t := ⟨_, rfl⟩
    have htl : t < 4294967296 := ht ▸ hx.get k
    rw [ht] at hck ⊢
    obtain ⟨z, hz⟩ : ∃ z, z = t / 2 ^ r := ⟨_, rfl⟩
    have hzt : z ≤ t := by rw [hz]; exact Nat.div_le_self _ _
    have e3 : (t : Int) / 2 ^ r = (z : Int) := by rw [hz]; simp
    have e4 := and_one z (by omega)
    have hr32 : r < 32 := by omega
    have hnk : decide ((n : Int) ≤ (k : Int)) = false := decide_eq_false (by omega)
    have hnk2 : decide (n ≤ k) = false := decide_eq_false (by omega)
    rw [← hz]
    clear hb hn hx hR hcell ht hz hk hr
    rcases (by omega : z % 2 = 0 ∨ z % 2 = 1) with hz2 | hz2
    · rw [hz2] at e4 ⊢
      clear hz2
      go_enter Tryd.func137, Tryd.ntmps137
      go_wp2
      go_ret
      exact ⟨rfl, rfl⟩
    · rw [hz2] at e4 ⊢
      clear hz2
      go_enter Tryd.func137, Tryd.ntmps137
      go_wp2
      go_ret
      exact ⟨rfl, rfl⟩
  · rw [bit_beyond xs hx i (by omega)]
    have hnk : decide ((n : Int) ≤ (k : Int)) = true := decide_eq_true (by omega)
    clear hn hx hR hk hr
    go_enter Tryd.func137, Tryd.ntmps137
    go_wp2
    go_ret
    exact ⟨rfl, rfl⟩
end Go.Proofs.YtonhahbmdekkdaaDoor
