/- addTimes: a product added in place. -/
import Derived.Test.YtnnlicahgdcbdaaDoorW1x
import Derived.Deep.RegionWith
import Derived.BigQuiet
import Derived.ArgAppend
import Derived.Maps.AppendAt
import Derived.WalkMore
namespace Go.Proofs.YtnnlicahgdcbdaaDoor
open Go.RowKit
set_option linter.unusedVariables false
set_option maxRecDepth 20000

set_option maxHeartbeats 2000000 in
theorem addTimes_any (L bs : List Nat) (g off n cap : Nat) (ao : Option Addr) (m capb B q : Nat) (w : World)
    (hO : Own w g L) (hoff : off + n ≤ L.length) (hm : m = bs.length) (hmn : m ≤ n) (hcap : n ≤ cap) (hbig : n ≤ 4611686018427387904) (hL : Wf L) (hb : Wf bs) (hR : Rd B w ao bs) (hB : B ≤ g) (hq : q < 4294967296) :
    Calls Tryd.prog 113 #[.slice (some ⟨g, off, none⟩) n cap, .slice ao m capb, .int .u32 (q : Nat)] w fun r w' =>
      ∃ M c, r = .returned (.int .u32 (c : Nat)) ∧ c < 4294967296 ∧ Own w' g M ∧ Wf M ∧ Out L M off m ∧ sg M off m + c * pw m = sg L off m + val bs * q ∧ But g w w' := by
  have HR : Aside (Rd B w ao bs ∧ m = bs.length ∧ Wf bs ∧ Wf L ∧ off + n ≤ L.length) := ⟨hR, hm, hb, hL, hoff⟩
  have HO : Hid (Own w g L) := hO
  clear hR hm hb hL hO hoff
  go_enter Tryd.func113, Tryd.ntmps113
  go_wp2
  go_loopg [7, 13] m (fun gk c i wr => ∃ (k cv : Nat) (M : List Nat), gk + k = m ∧ c = .int .u64 (cv : Nat) ∧ cv < 4294967296 ∧ i = .int .i64 (k : Nat) ∧
      Hid (Own wr g M) ∧ Aside (Wf M ∧ Out L M off k ∧ sg M off k + cv * pw k = sg L off k + sg bs 0 k * q ∧ But g w wr))
  case atStart => exact ⟨0, 0, L, by omega, rfl, by omega, rfl, HO, HR.out.2.2.2.1, Out.refl _ _ _, by simp [sg_zero], But.refl _ _⟩
  case round =>
    obtain ⟨k, cv, M, hgk, rfl, hcv, rfl, HM, HA⟩ := hrel
    by_cases hk : k < m
    · obtain ⟨hR, hm, hb, hL, hoff⟩ := HR.out
      obtain ⟨hMw, hMo, hMs, hbut⟩ := HA.out
      obtain ⟨b, boff, hbB, rfl, hbc⟩ := hR (by intro e; subst e; simp at hm; omega)
      have hbk : wr.cell? ⟨b, boff + k, none⟩ = some (.int .u32 ((bs.getD k 0 : Nat) : Int)) := by
        have h1 := hbut.block b (World.block_lt_of_cell? w ⟨b, boff + k, none⟩ (hbc k (by omega))) (by omega)
        exact (World.cell?_of_block (a := ⟨b, boff + k, none⟩) h1).trans (hbc k (by omega))
      have hgc := HM.out.cell (off + k) (by rw [hMo.1]; omega)
      have hgf := HM.out.frozen (off + k)
      obtain ⟨x, hx⟩ : ∃ x : Nat, M.getD (off + k) 0 = x := ⟨_, rfl⟩
      obtain ⟨y, hy⟩ : ∃ y : Nat, bs.getD k 0 = y := ⟨_, rfl⟩
      have hxl : x < 4294967296 := hx ▸ hMw.get _
      have hyl : y < 4294967296 := hy ▸ hb.get _
      rw [hx] at hgc
      rw [hy] at hbk
      have hp0 := mul_bound y q hyl hq
      have hp2 : (y : Int) * (q : Int) ≤ 18446744065119617025 := by rw [← Int.natCast_mul]; omega
      have hp1 : 0 ≤ (y : Int) * (q : Int) := by rw [← Int.natCast_mul]; omega
      obtain ⟨s, hs⟩ : ∃ s : Nat, s = (y * q + x + cv) % 4294967296 := ⟨_, rfl⟩
      obtain ⟨d, hd⟩ : ∃ d : Nat, d = (y * q + x + cv) / 4294967296 := ⟨_, rfl⟩
      have e0 : ((y * q + x + cv : Nat) : Int) = (y : Int) * q + x + cv := by simp only [Int.natCast_add, Int.natCast_mul]
      have e1 : ((y : Int) * q + x + cv) % 4294967296 = (s : Int) := by rw [← e0]; omega
      have e2 : ((y : Int) * q + x + cv) / 4294967296 = (d : Int) := by rw [← e0]; omega
      have HX : Aside (M.getD (off + k) 0 = x ∧ bs.getD k 0 = y ∧ s + d * 4294967296 = y * q + x + cv ∧ s < 4294967296 ∧ d < 4294967296) := ⟨hx, hy, by omega, by omega, by omega⟩
      clear hx hy hs hd hR hm hb hL hoff hMw hMo hMs hbut hbc e0 hp0
      go_wp2
      go_roundg (gk - 1)
      case measure => omega
      case rel =>
        obtain ⟨hx, hy, he, hs, hd⟩ := HX.out
        obtain ⟨hR, hm, hb, hL, hoff⟩ := HR.out
        obtain ⟨hMw, hMo, hMs, hbut⟩ := HA.out
        refine ⟨k + 1, d, M.set (off + k) s, by omega, rfl, hd, by go_num, HM.out.set _ _, hMw.set _ _ hs, (hMo.mono (by omega)).set _ _ (by omega) (by omega), ?_, hbut.set _ _⟩
        rw [sg_set_last _ _ _ _ (by rw [hMo.1]; omega), sg_succ L off k (by omega), sg_succ bs 0 k (by omega), Nat.zero_add, hy, pw_succ]
        have e : L.getD (off + k) 0 = x := by rw [← hx]; exact (hMo.2 _ (by omega)).symm
        rw [e]
        exact times_step _ _ _ _ _ _ _ _ _ _ hMs he
    · obtain rfl : k = m := by omega
      go_wp2
      go_ret
      obtain ⟨hR, hm, hb, hL, hoff⟩ := HR.out
      obtain ⟨hMw, hMo, hMs, hbut⟩ := HA.out
      refine ⟨M, cv, rfl, hcv, HM.out, hMw, hMo, ?_, hbut⟩
      rw [hMs, hm, sg_all]
end Go.Proofs.YtnnlicahgdcbdaaDoor

/- mul: a product in new memory. -/
namespace Go.Proofs.YtnnlicahgdcbdaaDoor
open Go.RowKit
set_option linter.unusedVariables false
set_option maxRecDepth 20000

theorem mul_step (p V b x r q c : Nat) (h : V + p * r = b * q) : V + p * (r + q * x) = (b + p * x) * q := by grind

set_option maxHeartbeats 2000000 in
theorem mul_any (xs bs : List Nat) (ao bo : Option Addr) (n cap m capb B : Nat) (w : World) (hn : n = xs.length) (hm : m = bs.length) (hc : n ≤ cap) (hcb : m ≤ capb) (hbig : n + m ≤ 70368744177664)
    (hx : Wf xs) (hb : Wf bs) (hR : Rd B w ao xs) (hS : Rd B w bo bs) (hB : B ≤ w.heap.size) :
    Calls Tryd.prog 93 #[.slice ao n cap, .slice bo m capb] w fun r w' => ∃ v, r = .returned v ∧ Nt w.heap.size w' v (val xs * val bs) ∧ Below w.heap.size w w' := by
  obtain ⟨W1, hW1⟩ : ∃ W, W = w.alloc (.cells (madeCells #[.int .u32 0] (n + m)) 60) := ⟨_, rfl⟩
  have hO1 : Own W1 w.heap.size (List.replicate (n + m) 0) := by rw [hW1]; exact Own.made w (n + m)
  have hB1 : Below w.heap.size w W1 := by rw [hW1]; exact (Below.refl _ _).alloc (Nat.le_refl _) _
  have hmk := make_words ((n : Int) + m) (n + m) (by omega) (by omega) w
  rw [← hW1] at hmk
  have hR1 : Rd B W1 ao xs := hR.below (hB1.mono hB)
  have hS1 : Rd B W1 bo bs := hS.below (hB1.mono hB)
  obtain ⟨g, hg⟩ : ∃ g, g = w.heap.size := ⟨_, rfl⟩
  rw [← hg] at hO1 hmk hB1 hB
  have HR := (Aside.intro (And.intro hR1 (And.intro hS1 (And.intro hm (And.intro hb (And.intro hx (And.intro hn (And.intro hB1 hg))))))))
  have HO := hid hO1
  clear hn hm hx hb hR hS hO1 hB1 hW1 hR1 hS1 hg
  go_enter Tryd.func93, Tryd.ntmps93
  go_wp2
  go_loopg [16] n (fun gk i wr => ∃ (k : Nat) (M : List Nat), gk + k = n ∧ i = .int .i64 (k : Nat) ∧
      Hid (Own wr g M) ∧ Aside (Wf M ∧ M.length = n + m ∧ sg M 0 (k + m) = sg xs 0 k * val bs ∧ But g W1 wr))
  case atStart => exact ⟨0, _, by omega, rfl, HO, Wf.zeros _, by simp, by rw [sg_zeros, sg_zero]; simp, But.refl _ _⟩
  case round =>
    obtain ⟨k, M, hgk, rfl, HM, HA⟩ := hrel
    by_cases hk : k < n
    · obtain ⟨hR, hS, hm, hb, hx, hn, hB1, hg⟩ := HR.out
      obtain ⟨hMw, hMl, hMs, hbut⟩ := HA.out
      have hW1s : g ≤ W1.heap.size := by have := hB1.size; omega
      obtain ⟨b, boff, hbB, rfl, hbc⟩ := hR (by intro e; subst e; simp at hn; omega)
      have hbk : wr.cell? ⟨b, boff + k, none⟩ = some (.int .u32 ((xs.getD k 0 : Nat) : Int)) := by
        have h1 := hbut.block b (World.block_lt_of_cell? W1 ⟨b, boff + k, none⟩ (hbc k (by omega))) (by omega)
        exact (World.cell?_of_block (a := ⟨b, boff + k, none⟩) h1).trans (hbc k (by omega))
      obtain ⟨y, hy⟩ : ∃ y : Nat, xs.getD k 0 = y := ⟨_, rfl⟩
      have hyl : y < 4294967296 := hy ▸ hx.get _
      rw [hy] at hbk
      have H := hid (addTimes_any M bs g k m (n + m - k) bo m capb B y wr HM.out (by omega) hm (Nat.le_refl _) (by omega) (by omega) hMw hb (hS.but hbut (by omega) hB) hB hyl)
      have HX := (Aside.intro (And.intro hy hn))
      clear hy hR hS hm hb hx hn hB1 hg hMw hMl hMs hbut hbc hW1s
      go_wp2_with fail
      refine (Calls.mono H.out) ?_
      rintro r W3 ⟨M2, c, rfl, hc1, hO3, hM2, hout, hsum, hbut2⟩
      obtain ⟨hMw, hMl, hMs, hbut⟩ := HA.out
      have hgc := hO3.cell (k + m) (by rw [hout.1]; omega)
      have hgf := hO3.frozen (k + m)
      have HI := (Aside.intro (And.intro hc1 (And.intro hO3 (And.intro hM2 (And.intro hout (And.intro hsum hbut2))))))
      clear hc1 hO3 hM2 hout hsum hbut2 hMw hMl hMs hbut H
      go_wp2
      go_roundg (gk - 1)
      case measure => omega
      case rel =>
        obtain ⟨hy, hn⟩ := HX.out
        obtain ⟨hMw, hMl, hMs, hbut⟩ := HA.out
        obtain ⟨hc1, hO3, hM2, hout, hsum, hbut2⟩ := HI.out
        refine ⟨k + 1, M2.set (k + m) c, by omega, by go_num, hO3.set _ _, hM2.set _ _ hc1, by simp [hout.1, hMl], ?_, (hbut.trans hbut2).set _ _⟩
        have e1 := sg_set_last M2 0 (k + m) c (by rw [hout.1]; omega)
        rw [Nat.zero_add] at e1
        have e2 := sg_add M2 0 k m (by rw [hout.1]; omega)
        have e3 := sg_add M 0 k m (by omega)
        rw [Nat.zero_add] at e2 e3
        have e4 := hout.below 0 k (by omega) (by omega)
        rw [show k + 1 + m = k + m + 1 by omega, e1, e2, e4, sg_succ xs 0 k (by omega), Nat.zero_add, hy, pw_add]
        rw [e3] at hMs
        rw [Nat.mul_comm c] at hsum
        have := mul_step (pw k) _ _ y _ _ c hMs
        rw [← hsum] at this
        rw [← this, Nat.mul_add, Nat.mul_assoc, Nat.add_assoc]
    · obtain rfl : k = n := by omega
      obtain ⟨hMw, hMl, hMs, hbut⟩ := HA.out
      have T := hid (trim_any M (some ⟨g, 0, none⟩) (k + m) (k + m) (g + 1) wr hMl.symm (Nat.le_refl _) (by omega) (by simpa [hMl, List.take_of_length_le] using Rd.ofOwn HM.out 0 (k + m)))
      clear hMw hMl hMs hbut
      go_wp2_with fail
      refine (Calls.mono T.out) ?_
      rintro r w1 ⟨rfl, rfl⟩
      go_wp2
      go_ret
      obtain ⟨hR, hS, hm, hb, hx, hn, hB1, hg⟩ := HR.out
      obtain ⟨hMw, hMl, hMs, hbut⟩ := HA.out
      have e1 : sg M 0 (k + m) = val M := by rw [← hMl]; exact sg_all M
      have e2 : sg xs 0 k = val xs := by rw [hn]; exact sg_all xs
      rw [e1, e2] at hMs
      refine ⟨_, rfl, ?_, ?_⟩
      · have N := Nt.ofOwn (lo := g) HM.out (Nat.le_refl _) hMw (by rw [hMl]; unfold maxLen; omega)
        rw [← hMs, ← hg]
        rw [hMl] at N
        exact N
      · rw [← hg]
        exact But.below hB1 hbut (by have := hB1.size; omega) (Nat.le_refl _)
end Go.Proofs.YtnnlicahgdcbdaaDoor

/- Cmp, same. -/
namespace Go.Proofs.YtnnlicahgdcbdaaDoor
open Go.RowKit
set_option linter.unusedVariables false
set_option maxRecDepth 20000

/-- Which of two is greater, by their highest words that differ. -/
theorem cmp_words (xs ys : List Nat) (hx : Wf xs) (hy : Wf ys) (j d : Nat) (h1 : j + 1 + d ≤ xs.length) (h2 : j + 1 + d ≤ ys.length) (ht : sg xs (j + 1) d = sg ys (j + 1) d) (hlt : xs.getD j 0 < ys.getD j 0) :
    sg xs 0 (j + 1 + d) < sg ys 0 (j + 1 + d) := by
  rw [sg_add xs 0 (j + 1) d (by omega), sg_add ys 0 (j + 1) d (by omega), Nat.zero_add, ht, sg_succ xs 0 j (by omega), sg_succ ys 0 j (by omega), Nat.zero_add]
  have h3 := sg_lt xs 0 j hx (by omega)
  have h4 : pw j * (xs.getD j 0 + 1) ≤ pw j * ys.getD j 0 := Nat.mul_le_mul_left _ hlt
  rw [Nat.mul_add] at h4
  omega

theorem cmp_len (xs ys : List Nat) (hx : Wf xs) (hy : Wf ys) (h : nl xs < nl ys) : val xs < val ys := by
  rw [nl_eq_length xs hx, nl_eq_length ys hy] at h
  have h1 := ws_len_lt (val xs)
  have h2 : val ys ≠ 0 := by intro e; rw [e, ws_zero] at h; simp at h
  have h3 := ws_len_ge (val ys) h2
  have h4 := pw_mono (show (ws (val xs)).length ≤ (ws (val ys)).length - 1 by omega)
  omega

theorem cmpI_lt {x y : Nat} (h : x < y) : cmpI x y = -1 := by simp [cmpI, h]
theorem cmpI_gt {x y : Nat} (h : y < x) : cmpI x y = 1 := by simp [cmpI, h]; omega
theorem cmpI_eq {x y : Nat} (h : x = y) : cmpI x y = 0 := by simp [cmpI, h]
theorem cmpI_congr {a b x y : Nat} (h1 : a < b ↔ x < y) (h2 : b < a ↔ y < x) : cmpI a b = cmpI x y := by simp [cmpI, h1, h2]

set_option maxHeartbeats 2000000 in
theorem cmp_any (xs ys : List Nat) (ao bo : Option Addr) (n cap m capb B : Nat) (w : World) (hn : n = xs.length) (hm : m = ys.length) (hc : n ≤ cap) (hcb : m ≤ capb) (hbig : n ≤ 70368744177664) (hbig2 : m ≤ 70368744177664)
    (hx : Wf xs) (hy : Wf ys) (hR : Rd B w ao xs) (hS : Rd B w bo ys) :
    Calls Tryd.prog 123 #[.slice ao n cap, .slice bo m capb] w fun r w' => r = .returned (.int .i64 (cmpI (val xs) (val ys))) ∧ Below w.heap.size w w' := by
  have H1 := hid (trim_any xs ao n cap B w hn hc (by omega) hR)
  have H2 := hid (trim_any ys bo m capb B w hm hcb (by omega) hS)
  have hl1 := nl_le xs
  have hl2 := nl_le ys
  have f1 := val_form xs hx
  have f2 := val_form ys hy
  rw [← sg_val_take] at f1 f2
  by_cases he : nl xs = nl ys
  · obtain ⟨k0, hk0⟩ : ∃ k, nl ys = k := ⟨_, rfl⟩
    rw [he] at H1 hl1 f1
    rw [hk0] at H1 H2 hl1 hl2 f1 f2
    have HR := (Aside.intro (And.intro hR (And.intro hS (And.intro hn (And.intro hm (And.intro hx (And.intro hy (And.intro hl1 (And.intro hl2 (And.intro f1 f2))))))))))
    have HC : Hid (∀ x y w, _) := compare_u
    have hkn : k0 ≤ n := by omega
    have hkm : k0 ≤ m := by omega
    clear hR hS hn hm hx hy hl1 hl2 f1 f2 he hk0
    go_enter Tryd.func123, Tryd.ntmps123
    go_wp2_with fail
    refine (Calls.mono H1.out) ?_
    rintro r w1 ⟨rfl, rfl⟩
    go_wp2_with fail
    refine (Calls.mono H2.out) ?_
    rintro r w1 ⟨rfl, rfl⟩
    go_wp2
    go_loopg [5] k0 (fun k i wr => k ≤ k0 ∧ i = .int .i64 ((k : Int) - 1) ∧ Hid (Below w1.heap.size w1 wr) ∧ Aside (sg xs k (k0 - k) = sg ys k (k0 - k)))
    case atStart => exact ⟨Nat.le_refl _, rfl, Below.refl _ _, by rw [Nat.sub_self, sg_zero, sg_zero]; exact rfl⟩
    case round =>
      obtain ⟨hk, rfl, HB, HA⟩ := hrel
      by_cases hk0 : gk = 0
      · subst hk0
        go_wp2
        go_ret
        obtain ⟨hR, hS, hn, hm, hx, hy, hl1, hl2, f1, f2⟩ := HR.out
        have h := HA.out
        rw [Nat.sub_zero, f1, f2] at h
        rw [cmpI_eq h]
        exact ⟨rfl, HB.out⟩
      · obtain ⟨k, rfl⟩ : ∃ k, gk = k + 1 := ⟨gk - 1, by omega⟩
        obtain ⟨hR, hS, hn, hm, hx, hy, hl1, hl2, f1, f2⟩ := HR.out
        obtain ⟨b, off, hB1, rfl, hc1⟩ := hR (by intro e; subst e; simp at hl1; omega)
        obtain ⟨b2, off2, hB2, rfl, hc2⟩ := hS (by intro e; subst e; simp at hl2; omega)
        have g1 : wr.cell? ⟨b, off + k, none⟩ = some (.int .u32 ((xs.getD k 0 : Nat) : Int)) :=
          (HB.out.cell (p := ⟨b, off + k, none⟩) (World.block_lt_of_cell? w1 ⟨b, off + k, none⟩ (hc1 k (by omega)))).trans (hc1 k (by omega))
        have g2 : wr.cell? ⟨b2, off2 + k, none⟩ = some (.int .u32 ((ys.getD k 0 : Nat) : Int)) :=
          (HB.out.cell (p := ⟨b2, off2 + k, none⟩) (World.block_lt_of_cell? w1 ⟨b2, off2 + k, none⟩ (hc2 k (by omega)))).trans (hc2 k (by omega))
        obtain ⟨x, hxx⟩ : ∃ x : Nat, xs.getD k 0 = x := ⟨_, rfl⟩
        obtain ⟨y, hyy⟩ : ∃ y : Nat, ys.getD k 0 = y := ⟨_, rfl⟩
        rw [hxx] at g1
        rw [hyy] at g2
        have HX := (Aside.intro (And.intro hxx hyy))
        clear hR hS hn hm hx hy hl1 hl2 f1 f2 hc1 hc2 hxx hyy hk0
        by_cases hxy : x = y
        · subst hxy
          go_wp2
          go_region
          all_goals (
            go_wp2
            go_roundg k
            case measure => omega
            case rel =>
              obtain ⟨hR, hS, hn, hm, hx, hy, hl1, hl2, f1, f2⟩ := HR.out
              refine ⟨by omega, by first | go_num | (congr 1; omega), HB.out.drew, ?_⟩
              have h := HA.out
              obtain ⟨r, hr⟩ : ∃ r, k0 - k = r + 1 := ⟨k0 - (k + 1), by omega⟩
              rw [show k0 - (k + 1) = r by omega] at h
              rw [Aside, hr, sg_front xs k r (by omega), sg_front ys k r (by omega), h, HX.out.1, HX.out.2])
        · have hne : ((x : Int) == (y : Int)) = false := by simp; omega
          have hki : (k : Int) < (k0 : Int) := by omega
          have hki0 : 0 ≤ (k : Int) := by omega
          have hki2 : k < k0 := by omega
          go_wp2
          go_region
          all_goals (
            go_wp2
            go_region_with (go_at_call 103; refine (compare_u x y _).mono ?_; rintro r w2 ⟨rfl, rfl⟩))
          all_goals (
            go_wp2
            go_ret
            obtain ⟨hR, hS, hn, hm, hx, hy, hl1, hl2, f1, f2⟩ := HR.out
            have h := HA.out
            have e : cmpI (val xs) (val ys) = cmpI x y := by
              rw [← f1, ← f2]
              have hk2 : k + 1 + (k0 - (k + 1)) = k0 := by omega
              have t1 := cmp_words xs ys hx hy k (k0 - (k + 1)) (by omega) (by omega) h
              have t2 := cmp_words ys xs hy hx k (k0 - (k + 1)) (by omega) (by omega) h.symm
              rw [hk2, HX.out.1, HX.out.2] at t1 t2
              apply cmpI_congr <;> omega
            rw [e]
            exact ⟨rfl, by first | exact HB.out.drew.drew | exact HB.out.drew | skip⟩)
  · have e : cmpI (val xs) (val ys) = cmpI (nl xs) (nl ys) := by
      rcases Nat.lt_or_gt_of_ne he with h | h
      · rw [cmpI_lt h, cmpI_lt (cmp_len xs ys hx hy h)]
      · rw [cmpI_gt h, cmpI_gt (cmp_len ys xs hy hx h)]
    rw [e]
    obtain ⟨k1, hk1⟩ : ∃ k, nl xs = k := ⟨_, rfl⟩
    obtain ⟨k2, hk2⟩ : ∃ k, nl ys = k := ⟨_, rfl⟩
    rw [hk1] at H1 he ⊢
    rw [hk2] at H2 he ⊢
    have hne : ((k1 : Int) == (k2 : Int)) = false := by simp; omega
    have hne2 : ¬ (k1 : Int) = (k2 : Int) := by omega
    have H3 := hid (compare_i k1 k2 w)
    clear hR hS hn hm hx hy hl1 hl2 f1 f2 hk1 hk2 e he
    go_enter Tryd.func123, Tryd.ntmps123
    go_wp2_with fail
    refine (Calls.mono H1.out) ?_
    rintro r w1 ⟨rfl, rfl⟩
    go_wp2_with fail
    refine (Calls.mono H2.out) ?_
    rintro r w1 ⟨rfl, rfl⟩
    go_wp2_with fail
    refine (Calls.mono H3.out) ?_
    rintro r w1 ⟨rfl, rfl⟩
    go_wp2
    go_ret
    exact ⟨rfl, Below.refl _ _⟩

end Go.Proofs.YtnnlicahgdcbdaaDoor

/- Add, Sub. -/
namespace Go.Proofs.YtnnlicahgdcbdaaDoor
open Go.RowKit
set_option linter.unusedVariables false
set_option maxRecDepth 20000

/-- Is a number long? -/
abbrev LG (X : Nat) : Prop := 8192 < (ws X).length
/-- What is answered: a number, an error. -/
def addS (X Y : Nat) : Nat × Int := if LG (X + Y) then (0, 2) else (X + Y, 0)
def subS (X Y : Nat) : Nat × Int := if LG X ∨ LG Y then (0, 2) else if X < Y then (0, 20) else (X - Y, 0)
def mulS (X Y : Nat) : Nat × Int := if LG X ∨ LG Y then (0, 2) else if LG (X * Y) then (0, 2) else (X * Y, 0)
def shiftS (X : Nat) (by' : Int) : Nat × Int := if LG X then (0, 2) else if X = 0 then (0, 0) else if by' < 0 then (X / 2 ^ (-by').toNat, 0) else if 262144 - (bl X : Int) < by' then (0, 2) else (X * 2 ^ by'.toNat, 0)

/-- A Nat in new memory, and an error. -/
def One (lo : Nat) (w : World) (r : Ending) (a : Nat × Int) : Prop := ∃ v, r = .returned (.tuple #[v, .int .i64 a.2]) ∧ Nt lo w v a.1

theorem trimX (xs : List Nat) (ao : Option Addr) (n cap B : Nat) (w : World) (hn : n = xs.length) (hc : n ≤ cap) (hm : n ≤ 70368744177664) (hx : Wf xs) (hR : Rd B w ao xs) :
    (Calls Tryd.prog 74 #[.slice ao n cap] w fun r w' => r = .returned (.slice ao (ws (val xs)).length cap) ∧ w' = w) ∧ Rd B w ao (ws (val xs)) ∧ (ws (val xs)).length ≤ n := by
  have T := trim_any xs ao n cap B w hn hc (by omega) hR
  have hl := nl_le xs
  have hf := form_eq xs hx
  have hlen := nl_eq_length xs hx
  rw [hlen] at T hl hf
  exact ⟨T, by rw [← hf]; exact hR.take _, by omega⟩

set_option maxHeartbeats 2000000 in
theorem Add_any (xs ys : List Nat) (ao bo : Option Addr) (n cap m capb B : Nat) (w : World) (hn : n = xs.length) (hm : m = ys.length) (hc : n ≤ cap) (hcb : m ≤ capb) (hbig : n ≤ 35184372088833) (hbig2 : m ≤ 35184372088833)
    (hx : Wf xs) (hy : Wf ys) (hR : Rd B w ao xs) (hS : Rd B w bo ys) (hB : B ≤ w.heap.size) :
    Calls Tryd.prog 122 #[.slice ao n cap, .slice bo m capb] w fun r w' => One w.heap.size w' r (addS (val xs) (val ys)) ∧ Below w.heap.size w w' := by
  obtain ⟨T1, hRX, hl1⟩ := trimX xs ao n cap B w hn hc (by omega) hx hR
  obtain ⟨T2, hRY, hl2⟩ := trimX ys bo m capb B w hm hcb (by omega) hy hS
  generalize val xs = X at *
  generalize val ys = Y at *
  have A0 := add_any (ws X) (ws Y) ao bo _ cap _ capb B w rfl rfl (by omega) (by omega) (by omega) (by omega) (wf_ws X) (wf_ws Y) hRX hRY hB
  rw [val_ws, val_ws] at A0
  have H1 := (hid T1)
  have H2 := (hid T2)
  have H3 := (hid A0)
  clear T1 T2 A0 hRX hRY hn hm hx hy hR hS hl1 hl2
  go_enter Tryd.func122, Tryd.ntmps122
  go_wp2_with fail
  refine (Calls.mono H1.out) ?_
  rintro r w1 ⟨rfl, rfl⟩
  go_wp2_with fail
  refine (Calls.mono H2.out) ?_
  rintro r w1 ⟨rfl, rfl⟩
  go_wp2_with fail
  refine (Calls.mono H3.out) ?_
  rintro r w2 ⟨v, rfl, hN, hb⟩
  obtain ⟨av, cv, rfl, hcv, hcm, hRv⟩ := hN.shape
  have U0 := unlessLong_any (ws (X + Y)).length av cv w2
  have HN := (Aside.intro (And.intro hN hb))
  clear H1 H2 H3 hN hb hRv
  by_cases hL : LG (X + Y)
  · rw [if_pos (show 8192 < (ws (X + Y)).length from hL)] at U0
    have U := (hid U0)
    clear U0
    go_wp2_with fail
    refine (Calls.mono U.out) ?_
    rintro r w3 ⟨rfl, rfl⟩
    go_wp2
    go_ret2
    rw [show addS X Y = (0, 2) by simp [addS, hL]]
    exact ⟨⟨_, rfl, Nt.nil _ _⟩, HN.out.2⟩
  · rw [if_neg (show ¬ 8192 < (ws (X + Y)).length from hL)] at U0
    have U := (hid U0)
    clear U0
    go_wp2_with fail
    refine (Calls.mono U.out) ?_
    rintro r w3 ⟨rfl, rfl⟩
    go_wp2
    go_ret2
    rw [show addS X Y = (X + Y, 0) by simp [addS, hL]]
    exact ⟨⟨_, rfl, HN.out.1⟩, HN.out.2⟩

theorem longb (n : Nat) (ao : Option Addr) (cap : Nat) (w : World) (b : Bool) (hb : decide (8192 < n) = b) :
    Calls Tryd.prog 91 #[.slice ao n cap] w fun r w' => r = .returned (.bool b) ∧ w' = w := by
  have h := long_any n ao cap w
  have e : decide ((8192 : Int) < (n : Int)) = b := by rw [← hb]; simp only [decide_eq_decide]; omega
  rw [e] at h
  exact h

set_option maxHeartbeats 2000000 in
theorem Sub_any (xs ys : List Nat) (ao bo : Option Addr) (n cap m capb B : Nat) (w : World) (hn : n = xs.length) (hm : m = ys.length) (hc : n ≤ cap) (hcb : m ≤ capb) (hbig : n ≤ 35184372088833) (hbig2 : m ≤ 35184372088833)
    (hx : Wf xs) (hy : Wf ys) (hR : Rd B w ao xs) (hS : Rd B w bo ys) (hB : B ≤ w.heap.size) :
    Calls Tryd.prog 124 #[.slice ao n cap, .slice bo m capb] w fun r w' => One w.heap.size w' r (subS (val xs) (val ys)) ∧ Below w.heap.size w w' := by
  obtain ⟨T1, hRX, hl1⟩ := trimX xs ao n cap B w hn hc (by omega) hx hR
  obtain ⟨T2, hRY, hl2⟩ := trimX ys bo m capb B w hm hcb (by omega) hy hS
  generalize val xs = X at *
  generalize val ys = Y at *
  have H1 := (hid T1)
  have H2 := (hid T2)
  have HR := (Aside.intro (And.intro hRX (And.intro hRY (And.intro hl1 hl2))))
  clear T1 T2 hRX hRY hn hm hx hy hR hS hl1 hl2
  by_cases hLX : LG X
  · have L := hid (longb (ws X).length ao cap w true (by simpa [LG] using hLX))
    have e : subS X Y = (0, 2) := by simp [subS, hLX]
    rw [e]
    clear e hLX HR
    go_enter Tryd.func124, Tryd.ntmps124
    go_wp2_with fail
    refine (Calls.mono H1.out) ?_
    rintro r w1 ⟨rfl, rfl⟩
    go_wp2_with fail
    refine (Calls.mono H2.out) ?_
    rintro r w1 ⟨rfl, rfl⟩
    go_wp2_with fail
    refine (Calls.mono L.out) ?_
    rintro r w1 ⟨rfl, rfl⟩
    go_wp2
    go_ret2
    exact ⟨⟨_, rfl, Nt.nil _ _⟩, Below.refl _ _⟩
  · have L := hid (longb (ws X).length ao cap w false (by simpa [LG] using hLX))
    by_cases hLY : LG Y
    · have L2 := hid (longb (ws Y).length bo capb w true (by simpa [LG] using hLY))
      have e : subS X Y = (0, 2) := by simp [subS, hLY]
      rw [e]
      clear e hLX hLY HR
      go_enter Tryd.func124, Tryd.ntmps124
      go_wp2_with fail
      refine (Calls.mono H1.out) ?_
      rintro r w1 ⟨rfl, rfl⟩
      go_wp2_with fail
      refine (Calls.mono H2.out) ?_
      rintro r w1 ⟨rfl, rfl⟩
      go_wp2_with fail
      refine (Calls.mono L.out) ?_
      rintro r w1 ⟨rfl, rfl⟩
      go_wp2_with fail
      refine (Calls.mono L2.out) ?_
      rintro r w1 ⟨rfl, rfl⟩
      go_wp2
      go_ret2
      exact ⟨⟨_, rfl, Nt.nil _ _⟩, Below.refl _ _⟩
    · have L2 := hid (longb (ws Y).length bo capb w false (by simpa [LG] using hLY))
      obtain ⟨hRX, hRY, hl1, hl2⟩ := HR.out
      have C0 := cmp_any (ws X) (ws Y) ao bo _ cap _ capb B w rfl rfl (by omega) (by omega) (by omega) (by omega) (wf_ws X) (wf_ws Y) hRX hRY
      rw [val_ws, val_ws] at C0
      by_cases hlt : X < Y
      · rw [cmpI_lt hlt] at C0
        have C := hid C0
        have e : subS X Y = (0, 20) := by simp [subS, hLX, hLY, hlt]
        rw [e]
        clear e hLX hLY HR C0 hlt hRX hRY hl1 hl2
        go_enter Tryd.func124, Tryd.ntmps124
        go_wp2_with fail
        refine (Calls.mono H1.out) ?_
        rintro r w1 ⟨rfl, rfl⟩
        go_wp2_with fail
        refine (Calls.mono H2.out) ?_
        rintro r w1 ⟨rfl, rfl⟩
        go_wp2_with fail
        refine (Calls.mono L.out) ?_
        rintro r w1 ⟨rfl, rfl⟩
        go_wp2_with fail
        refine (Calls.mono L2.out) ?_
        rintro r w1 ⟨rfl, rfl⟩
        go_wp2_with fail
        refine (Calls.mono C.out) ?_
        rintro r w2 ⟨rfl, hb⟩
        have HB := (Aside.intro hb)
        clear hb
        go_wp2
        go_ret2
        exact ⟨⟨_, rfl, Nt.nil _ _⟩, HB.out⟩
      · have hc1 : 0 ≤ cmpI X Y := by unfold cmpI; rw [if_neg hlt]; split <;> omega
        obtain ⟨cc, hcc⟩ : ∃ cc, cmpI X Y = cc := ⟨_, rfl⟩
        rw [hcc] at C0 hc1
        have C := hid C0
        have e : subS X Y = (X - Y, 0) := by simp [subS, hLX, hLY, hlt]
        rw [e]
        have HL := (Aside.intro hlt)
        clear e hLX hLY C0 hlt hRX hRY hl1 hl2 hcc
        go_enter Tryd.func124, Tryd.ntmps124
        go_wp2_with fail
        refine (Calls.mono H1.out) ?_
        rintro r w1 ⟨rfl, rfl⟩
        go_wp2_with fail
        refine (Calls.mono H2.out) ?_
        rintro r w1 ⟨rfl, rfl⟩
        go_wp2_with fail
        refine (Calls.mono L.out) ?_
        rintro r w1 ⟨rfl, rfl⟩
        go_wp2_with fail
        refine (Calls.mono L2.out) ?_
        rintro r w1 ⟨rfl, rfl⟩
        go_wp2_with fail
        refine (Calls.mono C.out) ?_
        rintro r w2 ⟨rfl, hb⟩
        obtain ⟨hRX, hRY, hl1, hl2⟩ := HR.out
        have hs := hb.size
        have S0 := sub_any (ws X) (ws Y) ao bo _ cap _ capb B w2 rfl rfl (ws_len_mono (by have := HL.out; omega)) (by omega) (by omega) (by omega) (wf_ws X) (wf_ws Y) (by rw [val_ws, val_ws]; have := HL.out; omega) (hRX.below (hb.mono hB)) (hRY.below (hb.mono hB)) (by omega)
        rw [val_ws, val_ws] at S0
        have S := hid S0
        have HB := (Aside.intro (And.intro hb hs))
        clear hb hRX hRY hl1 hl2 S0 hs C
        go_wp2_with fail
        refine (Calls.mono S.out) ?_
        rintro r w3 ⟨v, rfl, hN, hb2⟩
        have HN := (Aside.intro (And.intro hN hb2))
        clear hN hb2 S
        go_wp2
        go_ret2
        obtain ⟨hb, hs⟩ := HB.out
        exact ⟨⟨_, rfl, HN.out.1.mono hs⟩, hb.trans (HN.out.2.mono hs)⟩
end Go.Proofs.YtnnlicahgdcbdaaDoor

/- Mul, Div. -/
namespace Go.Proofs.YtnnlicahgdcbdaaDoor
open Go.RowKit
set_option linter.unusedVariables false
set_option maxRecDepth 20000

set_option maxHeartbeats 2000000 in
theorem Mul_any (xs ys : List Nat) (ao bo : Option Addr) (n cap m capb B : Nat) (w : World) (hn : n = xs.length) (hm : m = ys.length) (hc : n ≤ cap) (hcb : m ≤ capb) (hbig : n ≤ 35184372088833) (hbig2 : m ≤ 35184372088833)
    (hx : Wf xs) (hy : Wf ys) (hR : Rd B w ao xs) (hS : Rd B w bo ys) (hB : B ≤ w.heap.size) :
    Calls Tryd.prog 63 #[.slice ao n cap, .slice bo m capb] w fun r w' => One w.heap.size w' r (mulS (val xs) (val ys)) ∧ Below w.heap.size w w' := by
  obtain ⟨T1, hRX, hl1⟩ := trimX xs ao n cap B w hn hc (by omega) hx hR
  obtain ⟨T2, hRY, hl2⟩ := trimX ys bo m capb B w hm hcb (by omega) hy hS
  generalize val xs = X at *
  generalize val ys = Y at *
  have H1 := (hid T1)
  have H2 := (hid T2)
  have HR := (Aside.intro (And.intro hRX (And.intro hRY (And.intro hl1 hl2))))
  clear T1 T2 hRX hRY hn hm hx hy hR hS hl1 hl2
  by_cases hLX : LG X
  · have L := hid (longb (ws X).length ao cap w true (by simpa [LG] using hLX))
    have e : mulS X Y = (0, 2) := by simp [mulS, hLX]
    rw [e]
    clear e hLX HR
    go_enter Tryd.func63, Tryd.ntmps63
    go_wp2_with fail
    refine (Calls.mono H1.out) ?_
    rintro r w1 ⟨rfl, rfl⟩
    go_wp2_with fail
    refine (Calls.mono H2.out) ?_
    rintro r w1 ⟨rfl, rfl⟩
    go_wp2_with fail
    refine (Calls.mono L.out) ?_
    rintro r w1 ⟨rfl, rfl⟩
    go_wp2
    go_ret2
    exact ⟨⟨_, rfl, Nt.nil _ _⟩, Below.refl _ _⟩
  · have L := hid (longb (ws X).length ao cap w false (by simpa [LG] using hLX))
    by_cases hLY : LG Y
    · have L2 := hid (longb (ws Y).length bo capb w true (by simpa [LG] using hLY))
      have e : mulS X Y = (0, 2) := by simp [mulS, hLY]
      rw [e]
      clear e hLX hLY HR
      go_enter Tryd.func63, Tryd.ntmps63
      go_wp2_with fail
      refine (Calls.mono H1.out) ?_
      rintro r w1 ⟨rfl, rfl⟩
      go_wp2_with fail
      refine (Calls.mono H2.out) ?_
      rintro r w1 ⟨rfl, rfl⟩
      go_wp2_with fail
      refine (Calls.mono L.out) ?_
      rintro r w1 ⟨rfl, rfl⟩
      go_wp2_with fail
      refine (Calls.mono L2.out) ?_
      rintro r w1 ⟨rfl, rfl⟩
      go_wp2
      go_ret2
      exact ⟨⟨_, rfl, Nt.nil _ _⟩, Below.refl _ _⟩
    · have L2 := hid (longb (ws Y).length bo capb w false (by simpa [LG] using hLY))
      have hz1 : (ws X).length = 0 → X = 0 := (ws_len_zero X).1
      have hz2 : (ws Y).length = 0 → Y = 0 := (ws_len_zero Y).1
      by_cases h1 : (ws X).length = 0
      · have e : mulS X Y = (0, 0) := by
          have := hz1 h1; subst this
          unfold mulS
          rw [if_neg (by simp [hLX, hLY]), Nat.zero_mul, if_neg hLX]
        rw [e]
        have hh := hid h1
        rw [h1] at H1 L
        have h1b : ((ws X).length : Int) = 0 := by omega
        clear e hLX hLY HR hz1 hz2 h1 h1b hh
        go_enter Tryd.func63, Tryd.ntmps63
        go_wp2_with fail
        refine (Calls.mono H1.out) ?_
        rintro r w1 ⟨rfl, rfl⟩
        go_wp2_with fail
        refine (Calls.mono H2.out) ?_
        rintro r w1 ⟨rfl, rfl⟩
        go_wp2_with fail
        refine (Calls.mono L.out) ?_
        rintro r w1 ⟨rfl, rfl⟩
        go_wp2_with fail
        refine (Calls.mono L2.out) ?_
        rintro r w1 ⟨rfl, rfl⟩
        go_wp2
        go_ret2
        exact ⟨⟨_, rfl, Nt.nil _ _⟩, Below.refl _ _⟩
      · by_cases h2 : (ws Y).length = 0
        · have e : mulS X Y = (0, 0) := by
            have := hz2 h2; subst this
            unfold mulS
            rw [if_neg (by simp [hLX, hLY]), Nat.mul_zero, if_neg hLY]
          rw [e]
          rw [h2] at H2 L2
          obtain ⟨k1, hk1⟩ : ∃ k, (ws X).length = k := ⟨_, rfl⟩
          rw [hk1] at H1 L h1
          have h1b : ((k1 : Int) == 0) = false := by simp; omega
          clear e hLX hLY HR hz1 hz2 h2 hk1
          go_enter Tryd.func63, Tryd.ntmps63
          go_wp2_with fail
          refine (Calls.mono H1.out) ?_
          rintro r w1 ⟨rfl, rfl⟩
          go_wp2_with fail
          refine (Calls.mono H2.out) ?_
          rintro r w1 ⟨rfl, rfl⟩
          go_wp2_with fail
          refine (Calls.mono L.out) ?_
          rintro r w1 ⟨rfl, rfl⟩
          go_wp2_with fail
          refine (Calls.mono L2.out) ?_
          rintro r w1 ⟨rfl, rfl⟩
          go_wp2
          go_ret2
          exact ⟨⟨_, rfl, Nt.nil _ _⟩, Below.refl _ _⟩
        · have hX0 : X ≠ 0 := fun e => h1 ((ws_len_zero X).2 e)
          have hY0 : Y ≠ 0 := fun e => h2 ((ws_len_zero Y).2 e)
          have hlow : pw ((ws X).length + (ws Y).length - 2) ≤ X * Y := by
            have a := Nat.mul_le_mul (ws_len_ge X hX0) (ws_len_ge Y hY0)
            rw [← pw_add] at a
            rw [show (ws X).length + (ws Y).length - 2 = (ws X).length - 1 + ((ws Y).length - 1) by omega]; exact a
          obtain ⟨hRX, hRY, hl1, hl2⟩ := HR.out
          have M0 := mul_any (ws X) (ws Y) ao bo _ cap _ capb B w rfl rfl (by omega) (by omega) (by unfold LG at hLX hLY; omega) (wf_ws X) (wf_ws Y) hRX hRY hB
          rw [val_ws, val_ws] at M0
          have hsmall1 : (ws X).length ≤ 8192 := by unfold LG at hLX; omega
          have hsmall2 : (ws Y).length ≤ 8192 := by unfold LG at hLY; omega
          obtain ⟨k1, hk1⟩ : ∃ k, (ws X).length = k := ⟨_, rfl⟩
          obtain ⟨k2, hk2⟩ : ∃ k, (ws Y).length = k := ⟨_, rfl⟩
          rw [hk1] at H1 L h1 M0 hlow hsmall1
          rw [hk2] at H2 L2 h2 M0 hlow hsmall2
          have h1b : ((k1 : Int) == 0) = false := by simp; omega
          have h2b : ((k2 : Int) == 0) = false := by simp; omega
          by_cases h3 : 8192 < k1 + k2 - 1
          · have hLG : LG (X * Y) := by
              unfold LG
              by_cases h4 : (ws (X * Y)).length ≤ 8192
              · have := (ws_len_le _ _).1 h4
                have := pw_mono (show 8192 ≤ k1 + k2 - 2 by omega)
                omega
              · omega
            have e : mulS X Y = (0, 2) := by simp [mulS, hLG]
            rw [e]
            have h3i : (8192 : Int) < (k1 : Int) + (k2 : Int) - 1 := by omega
            clear e hLX hLY HR hz1 hz2 hk1 hk2 hRX hRY hl1 hl2 M0 hX0 hY0 hlow hLG h3
            go_enter Tryd.func63, Tryd.ntmps63
            go_wp2_with fail
            refine (Calls.mono H1.out) ?_
            rintro r w1 ⟨rfl, rfl⟩
            go_wp2_with fail
            refine (Calls.mono H2.out) ?_
            rintro r w1 ⟨rfl, rfl⟩
            go_wp2_with fail
            refine (Calls.mono L.out) ?_
            rintro r w1 ⟨rfl, rfl⟩
            go_wp2_with fail
            refine (Calls.mono L2.out) ?_
            rintro r w1 ⟨rfl, rfl⟩
            go_wp2
            go_ret2
            exact ⟨⟨_, rfl, Nt.nil _ _⟩, Below.refl _ _⟩
          · have h3i : (k1 : Int) + (k2 : Int) - 1 ≤ 8192 := by omega
            have h3b : decide ((8192 : Int) < (k1 : Int) + (k2 : Int) - 1) = false := decide_eq_false (by omega)
            have M := hid M0
            have HL := (Aside.intro (And.intro hLX hLY))
            clear hLX hLY HR hz1 hz2 hk1 hk2 hRX hRY hl1 hl2 M0 hX0 hY0 hlow h3
            go_enter Tryd.func63, Tryd.ntmps63
            go_wp2_with fail
            refine (Calls.mono H1.out) ?_
            rintro r w1 ⟨rfl, rfl⟩
            go_wp2_with fail
            refine (Calls.mono H2.out) ?_
            rintro r w1 ⟨rfl, rfl⟩
            go_wp2_with fail
            refine (Calls.mono L.out) ?_
            rintro r w1 ⟨rfl, rfl⟩
            go_wp2_with fail
            refine (Calls.mono L2.out) ?_
            rintro r w1 ⟨rfl, rfl⟩
            go_wp2_with fail
            refine (Calls.mono M.out) ?_
            rintro r w2 ⟨v, rfl, hN, hb⟩
            obtain ⟨av, cv, rfl, hcv, hcm, hRv⟩ := hN.shape
            have U0 := unlessLong_any (ws (X * Y)).length av cv w2
            have HN := (Aside.intro (And.intro hN hb))
            clear M hN hb hRv
            by_cases hL : LG (X * Y)
            · rw [if_pos (show 8192 < (ws (X * Y)).length from hL)] at U0
              have U := (hid U0)
              clear U0
              go_wp2_with fail
              refine (Calls.mono U.out) ?_
              rintro r w3 ⟨rfl, rfl⟩
              go_wp2
              go_ret2
              rw [show mulS X Y = (0, 2) by simp [mulS, hL]]
              exact ⟨⟨_, rfl, Nt.nil _ _⟩, HN.out.2⟩
            · rw [if_neg (show ¬ 8192 < (ws (X * Y)).length from hL)] at U0
              have U := (hid U0)
              clear U0
              go_wp2_with fail
              refine (Calls.mono U.out) ?_
              rintro r w3 ⟨rfl, rfl⟩
              go_wp2
              go_ret2
              rw [show mulS X Y = (X * Y, 0) by simp [mulS, HL.out.1, HL.out.2, hL]]
              exact ⟨⟨_, rfl, HN.out.1⟩, HN.out.2⟩

end Go.Proofs.YtnnlicahgdcbdaaDoor

/- Shift. -/
namespace Go.Proofs.YtnnlicahgdcbdaaDoor
open Go.RowKit
set_option linter.unusedVariables false
set_option maxRecDepth 20000

theorem bl_le_words (X k : Nat) (h : X < pw k) : bl X ≤ 32 * k := by
  by_cases h0 : X = 0
  · subst h0; rw [bl_zero]; omega
  · have h1 := bl_ge X h0
    have h3 : pw k = 2 ^ (32 * k) := by rw [← Nat.add_zero (32 * k), pw_two]; simp
    rw [h3] at h
    have := (Nat.pow_lt_pow_iff_right (a := 2) (by decide)).1 (Nat.lt_of_le_of_lt h1 h)
    omega

theorem bl_small (X : Nat) (h : ¬ LG X) : bl X ≤ 262144 :=
  bl_le_words X 8192 ((ws_len_le X 8192).1 (by unfold LG at h; omega))

set_option maxHeartbeats 2000000 in
theorem Shift_any (xs : List Nat) (ao : Option Addr) (n cap B : Nat) (by' : Int) (w : World) (hn : n = xs.length) (hc : n ≤ cap) (hbig : n ≤ 35184372088833)
    (hx : Wf xs) (hR : Rd B w ao xs) (hB : B ≤ w.heap.size) (hb0 : -9223372036854775808 ≤ by') (hb1 : by' ≤ 9223372036854775807) :
    Calls Tryd.prog 105 #[.slice ao n cap, .int .i64 by'] w fun r w' => One w.heap.size w' r (shiftS (val xs) by') ∧ Below w.heap.size w w' := by
  obtain ⟨T1, hRX, hl1⟩ := trimX xs ao n cap B w hn hc (by omega) hx hR
  generalize val xs = X at *
  have N0 := len_any (ws X) ao _ cap B w rfl (by omega) (by omega) (wf_ws X) hRX
  rw [val_ws] at N0
  have H1 := (hid T1)
  have H2 := (hid N0)
  have HR := (Aside.intro (And.intro hRX hl1))
  clear T1 N0 hRX hn hx hR hl1
  by_cases hLX : LG X
  · have L := hid (longb (ws X).length ao cap w true (by simpa [LG] using hLX))
    have e : shiftS X by' = (0, 2) := by simp [shiftS, hLX]
    rw [e]
    clear e hLX HR
    generalize bl X = c at *
    go_enter Tryd.func105, Tryd.ntmps105
    go_wp2_with fail
    refine (Calls.mono H1.out) ?_
    rintro r w1 ⟨rfl, rfl⟩
    go_wp2_with fail
    refine (Calls.mono H2.out) ?_
    rintro r w1 ⟨rfl, rfl⟩
    go_wp2_with fail
    refine (Calls.mono L.out) ?_
    rintro r w1 ⟨rfl, rfl⟩
    go_wp2
    go_ret2
    exact ⟨⟨_, rfl, Nt.nil _ _⟩, Below.refl _ _⟩
  · have L := hid (longb (ws X).length ao cap w false (by simpa [LG] using hLX))
    have hbs := bl_small X hLX
    obtain ⟨c, hcc⟩ : ∃ c, bl X = c := ⟨_, rfl⟩
    by_cases h0 : X = 0
    · have e : shiftS X by' = (0, 0) := by unfold shiftS; rw [if_neg hLX, if_pos h0]
      rw [e]
      subst h0
      rw [ws_zero] at H1 H2 L
      rw [bl_zero] at H2
      clear e hLX HR hbs hcc
      go_enter Tryd.func105, Tryd.ntmps105
      go_wp2_with fail
      refine (Calls.mono H1.out) ?_
      rintro r w1 ⟨rfl, rfl⟩
      go_wp2_with fail
      refine (Calls.mono H2.out) ?_
      rintro r w1 ⟨rfl, rfl⟩
      go_wp2_with fail
      refine (Calls.mono L.out) ?_
      rintro r w1 ⟨rfl, rfl⟩
      go_wp2
      go_ret2
      exact ⟨⟨_, rfl, Nt.nil _ _⟩, Below.refl _ _⟩
    · have hcp := bl_pos X h0
      have hlt := bl_lt X
      rw [hcc] at hcp hbs H2 hlt
      have hcne : ((c : Int) == 0) = false := by simp; omega
      by_cases hneg : by' < 0
      · obtain ⟨d, hd⟩ : ∃ d : Nat, (d : Int) = -by' := ⟨(-by').toNat, by omega⟩
        have e : shiftS X by' = (X / 2 ^ d, 0) := by
          unfold shiftS; rw [if_neg hLX, if_neg h0, if_pos hneg, ← hd, Int.toNat_natCast]
        rw [e]
        by_cases hbig2 : by' ≤ -(c : Int)
        · have e2 : X / 2 ^ d = 0 := Nat.div_eq_of_lt (Nat.lt_of_lt_of_le hlt (Nat.pow_le_pow_right (by decide) (by omega)))
          rw [e2]
          clear e e2 hLX HR hcc hlt hd h0
          go_enter Tryd.func105, Tryd.ntmps105
          go_wp2_with fail
          refine (Calls.mono H1.out) ?_
          rintro r w1 ⟨rfl, rfl⟩
          go_wp2_with fail
          refine (Calls.mono H2.out) ?_
          rintro r w1 ⟨rfl, rfl⟩
          go_wp2_with fail
          refine (Calls.mono L.out) ?_
          rintro r w1 ⟨rfl, rfl⟩
          go_wp2
          go_ret2
          exact ⟨⟨_, rfl, Nt.nil _ _⟩, Below.refl _ _⟩
        · obtain ⟨hRX, hl1⟩ := HR.out
          have D0 := down_any (ws X) ao _ cap B d (d / 32) (d % 32) w rfl (by omega) (by omega) (by omega) (by omega) (by omega) (wf_ws X) hRX hB
          rw [val_ws] at D0
          have D := hid D0
          have hgt : -(c : Int) < by' := by omega
          have hd' : -by' = (d : Int) := hd.symm
          clear e hLX HR hcc hlt h0 hRX hl1 D0 hbig2 hd
          go_enter Tryd.func105, Tryd.ntmps105
          go_wp2_with fail
          refine (Calls.mono H1.out) ?_
          rintro r w1 ⟨rfl, rfl⟩
          go_wp2_with fail
          refine (Calls.mono H2.out) ?_
          rintro r w1 ⟨rfl, rfl⟩
          go_wp2_with fail
          refine (Calls.mono L.out) ?_
          rintro r w1 ⟨rfl, rfl⟩
          go_wp2_with fail
          try rw [hd']
          refine (Calls.mono D.out) ?_
          rintro r w2 ⟨v, rfl, hN, hb⟩
          have HN := (Aside.intro (And.intro hN hb))
          clear hN hb D
          go_wp2
          go_ret2
          exact ⟨⟨_, rfl, HN.out.1⟩, HN.out.2⟩
      · obtain ⟨d, rfl⟩ : ∃ d : Nat, by' = (d : Int) := ⟨by'.toNat, by omega⟩
        by_cases hover : 262144 - (c : Int) < (d : Int)
        · have e : shiftS X (d : Int) = (0, 2) := by unfold shiftS; rw [if_neg hLX, if_neg h0, if_neg hneg, hcc, if_pos hover]
          rw [e]
          clear e hLX HR hcc hlt h0 hneg
          go_enter Tryd.func105, Tryd.ntmps105
          go_wp2_with fail
          refine (Calls.mono H1.out) ?_
          rintro r w1 ⟨rfl, rfl⟩
          go_wp2_with fail
          refine (Calls.mono H2.out) ?_
          rintro r w1 ⟨rfl, rfl⟩
          go_wp2_with fail
          refine (Calls.mono L.out) ?_
          rintro r w1 ⟨rfl, rfl⟩
          go_wp2
          go_ret2
          exact ⟨⟨_, rfl, Nt.nil _ _⟩, Below.refl _ _⟩
        · have e : shiftS X (d : Int) = (X * 2 ^ d, 0) := by unfold shiftS; rw [if_neg hLX, if_neg h0, if_neg hneg, hcc, if_neg hover, Int.toNat_natCast]
          rw [e]
          obtain ⟨hRX, hl1⟩ := HR.out
          have D0 := up_any (ws X) ao _ cap B d (d / 32) (d % 32) w rfl (by omega) (by omega) (by omega) (by unfold LG at hLX; omega) (wf_ws X) hRX hB
          rw [val_ws] at D0
          have D := hid D0
          have hle : (d : Int) ≤ 262144 - (c : Int) := by omega
          have hleb : decide (262144 - (c : Int) < (d : Int)) = false := decide_eq_false (by omega)
          clear e hLX HR hcc hlt h0 hRX hl1 D0 hover hneg
          go_enter Tryd.func105, Tryd.ntmps105
          go_wp2_with fail
          refine (Calls.mono H1.out) ?_
          rintro r w1 ⟨rfl, rfl⟩
          go_wp2_with fail
          refine (Calls.mono H2.out) ?_
          rintro r w1 ⟨rfl, rfl⟩
          go_wp2_with fail
          refine (Calls.mono L.out) ?_
          rintro r w1 ⟨rfl, rfl⟩
          go_wp2_with fail
          refine (Calls.mono D.out) ?_
          rintro r w2 ⟨v, rfl, hN, hb⟩
          have HN := (Aside.intro (And.intro hN hb))
          clear hN hb D
          go_wp2
          go_ret2
          exact ⟨⟨_, rfl, HN.out.1⟩, HN.out.2⟩
end Go.Proofs.YtnnlicahgdcbdaaDoor

/- The document's Norm, Len; Formed; pick, few. -/
namespace Go.Proofs.YtnnlicahgdcbdaaDoor
open Go.RowKit
set_option linter.unusedVariables false
set_option maxRecDepth 20000

theorem append_words (w : World) (lo : Nat) (v : Value) (n : Nat) (xs src : List Nat) (ao : Option Addr) (m c B : Nat) (ty : TypeId) (hown : w.ownsRow lo 60 1 v n (xs.map U)) (hm : m = src.length) (hR : Rd B w ao src)
    (hnil : ao = none → c = 0) (hbig : n + m ≤ 35184372088832) (hlo : lo ≤ w.heap.size) :
    ∃ v' w', (Builtin.append_ #[35, 35] ty #[v, .slice ao m c]).run Tryd.prog w = .ok v' w' ∧ w'.ownsRow lo 60 1 v' (n + m) ((xs ++ src).map U) ∧ w.grownBy w' v.ownBlock := by
  obtain ⟨i0, hi, hz0, hz1, hz2⟩ := info_parts Tryd.info60
  subst hm
  rcases hao : ao with _ | a
  · have h0 : src = [] := by
      by_cases h : src = []
      · exact h
      · obtain ⟨b, off, _, e, _⟩ := hR h
        rw [hao] at e; cases e
    subst h0
    have hc := hnil hao
    subst hc
    exact ⟨v, w, run_append_owned_none (P := Tryd.prog) w lo 35 ty 60 i0 1 Tryd.underlying35 hi v n _ hown, by simpa using hown, World.grownBy.refl _ _⟩
  · obtain ⟨v', w', h1, h2, h3, _⟩ := run_append_own (P := Tryd.prog) w lo 35 ty 60 i0 (.int .u32 0) 1 4 Tryd.underlying35 hi hz0 hz1 hz2 rfl (by decide) v n (xs.map U) hown a src.length c (src.map U) (by simp) (by
      intro j u hj
      have hj2 : j < src.length := by have := (List.getElem?_eq_some_iff.1 hj).1; simpa using this
      obtain ⟨b, off, _, e, hc⟩ := hR (by intro e; subst e; simp at hj2)
      rw [hao] at e
      cases e
      have hadd : (⟨b, off, none⟩ : Addr).add j = ⟨b, off + j, none⟩ := by unfold Addr.add; split <;> simp_all
      rw [hadd, hc j hj2]
      simp [hj2, U] at hj
      simp [hj2, ← hj]) (by
      intro u hu
      obtain ⟨x, _, rfl⟩ := List.mem_map.1 hu
      rfl) (by unfold maxLen; omega) (by omega) hlo
    exact ⟨v', w', h1, by rw [List.map_append]; exact h2, h3⟩

/-- An append whose run is known, as a law for the walk. -/
theorem wpList_append_run {w : World} {ops : Array Oper} {rest : List Oper} {o : Oper} {a : Act} {Q : Exit → Act → World → Prop} (hgd : o.guard = none) (s x : Operand)
    (ho : o.op = .call { callee := .builtin .append, args := #[s, x], argTypes := #[35, 35] }) (v u : Value) (hs : a.eval s = v) (hx : a.eval x = u) (v' : Value) (w' : World)
    (hrun : (Builtin.append_ #[35, 35] o.type #[v, u]).run Tryd.prog w = .ok v' w') (h : wpList Tryd.prog ops Q rest (a.put o.dst v') w') : wpList Tryd.prog ops Q (o :: rest) a w := by
  refine wpList_plain hgd fun K hK => ?_
  unfold Oper.wp
  simp [execOp, ho, resolve, invoke, builtin, hs, hx, hrun, Result.andThen]
  exact hK _ _ h

set_option maxHeartbeats 1000000 in
theorem rNorm_any (xs : List Nat) (ao : Option Addr) (n cap B : Nat) (w : World) (hn : n = xs.length) (hc : n ≤ cap) (hm : n ≤ 35184372088832) (hx : Wf xs) (hR : Rd B w ao xs) (hnil : ao = none → cap = 0) :
    Calls Tryd.prog 126 #[.slice ao n cap] w fun r w' => ∃ v, r = .returned v ∧ Nt w.heap.size w' v (val xs) ∧ Below w.heap.size w w' := by
  have S := hid (size_any xs ao n cap B w hn (by omega) hR)
  have hl := nl_le xs
  have hf := form_eq xs hx
  obtain ⟨v', w', hap, hown, hgrow⟩ := append_words w w.heap.size (.slice none 0 0) 0 [] (xs.take (nl xs)) ao (nl xs) cap B 35 (World.ownsRow_nil _ _ _ _) (by rw [List.length_take]; omega) (hR.take _) hnil (by omega) (Nat.le_refl _)
  have hN : Nt w.heap.size w' v' (val xs) := by
    unfold Nt
    rw [← hf]
    simpa [Nat.min_eq_left hl] using hown
  have hb : Below w.heap.size w w' := (Below.refl _ _).grown hgrow (Nat.le_refl _) (fun k hk => by simp [Value.ownBlock] at hk)
  have HN := (Aside.intro (And.intro hN hb))
  obtain ⟨k, hk⟩ : ∃ k, nl xs = k := ⟨_, rfl⟩
  rw [hk] at S hap hl
  have hkn : k ≤ n := by omega
  have HZ : Aside (n = 0 → val xs = 0) := by intro h0; have : xs = [] := List.length_eq_zero_iff.1 (by omega); rw [this]; rfl
  clear hN hb hown hgrow hf hl hn hx hR hk
  rcases hao : ao with _ | a
  · have hc0 := hnil hao
    subst hc0
    subst hao
    obtain rfl : n = 0 := by omega
    obtain rfl : k = 0 := by omega
    go_enter Tryd.func126, Tryd.ntmps126
    go_wp2_with fail
    refine (Calls.mono S.out) ?_
    rintro r w1 ⟨rfl, rfl⟩
    go_wp2
    go_ret
    rw [HZ.out (by trivial)]
    exact ⟨_, rfl, Nt.nil _ _, Below.refl _ _⟩
  · subst hao
    go_enter Tryd.func126, Tryd.ntmps126
    go_wp2_with fail
    refine (Calls.mono S.out) ?_
    rintro r w1 ⟨rfl, rfl⟩
    have HAP := hid hap
    clear hap
    go_wp2_with (at_builtin; refine wpList_append_run rfl (.tmp 4) (.tmp 8) rfl _ _ rfl rfl _ _ HAP.out ?_)
    go_ret
    exact ⟨_, rfl, HN.out.1, HN.out.2⟩

end Go.Proofs.YtnnlicahgdcbdaaDoor

/- The document's Lent, AsLent. -/
namespace Go.Proofs.YtnnlicahgdcbdaaDoor
open Go.RowKit
set_option linter.unusedVariables false
set_option maxRecDepth 20000

theorem But.drewN {g : Nat} {a w : World} (h : But g a w) (n : Nat) : But g a (w.drewN n) := ⟨h.os, h.tape, h.output, h.size, h.block⟩

end Go.Proofs.YtnnlicahgdcbdaaDoor

/- Rows of words that are kept in a book: what is appended, what stays; the document's Take. -/
namespace Go.Proofs.YtnnlicahgdcbdaaDoor
open Go.RowKit
set_option linter.unusedVariables false
set_option maxRecDepth 20000

/-- A row of words. -/
abbrev Rw (lo : Nat) (w : World) (v : Value) (n : Nat) (ys : List Value) : Prop := w.ownsRow lo 60 1 v n ys

theorem Tryd.info35 : (Tryd.prog.info? 35).map (fun i => (i.zero, i.size, i.bytes)) = some (some (.slice none 0 0), 1, 24) := by kernel_rfl

theorem row_other {w w' : World} {lo e s : Nat} {v : Value} {n : Nat} {ys : List Value} (h : w.ownsRow lo e s v n ys) (hb : ∀ g, v.ownBlock = some g → w'.heap[g]? = w.heap[g]?) : w'.ownsRow lo e s v n ys := by
  refine ⟨h.1, ?_⟩
  rcases h.2 with hn | ⟨g, cap, cur, rfl, hlo, hg, rest⟩
  · exact .inl hn
  · refine .inr ⟨g, cap, cur, rfl, hlo, ?_, rest⟩
    rw [hb g rfl]; exact hg

/-- One word appended to a row of words: what else there is, and what is shorter in the same row, stays. -/
theorem append_word (w : World) (lo : Nat) (v : Value) (n : Nat) (ys : List Value) (x : Value) (s : Nat) (ty : TypeId) (hown : Rw lo w v n ys) (hx : w.cell? ⟨s, 0, none⟩ = some x) (h1 : x.oneCell' = true)
    (hbig : n + 1 ≤ 35184372088832) (hlo : lo ≤ w.heap.size) :
    ∃ v' w', (Builtin.append_ #[35, 35] ty #[v, .slice (some ⟨s, 0, none⟩) 1 1]).run Tryd.prog w = .ok v' w' ∧ Rw lo w' v' (n + 1) (ys ++ [x]) ∧ w.grownBy w' v.ownBlock ∧
      (v'.ownBlock = v.ownBlock ∨ ∃ g, v'.ownBlock = some g ∧ w.heap.size ≤ g) ∧ (∀ (u : Value) (k : Nat) (zs : List Value), Rw lo w u k zs → (u.ownBlock = v.ownBlock → k ≤ n) → Rw lo w' u k zs) := by
  obtain ⟨i0, hi, hz0, hz1, hz2⟩ := info_parts Tryd.info60
  have hnews : ∀ j u, [x][j]? = some u → w.cell? ((⟨s, 0, none⟩ : Addr).add j) = some u := by
    intro j u hj
    match j, hj with
    | 0, hj => simp at hj; subst hj; simpa [Addr.add] using hx
  have h1' : ∀ u ∈ [x], u.oneCell' = true := by intro u hu; simp at hu; subst hu; exact h1
  have keep : ∀ w', w.grownBy w' none → ∀ (u : Value) (k : Nat) (zs : List Value), Rw lo w u k zs → Rw lo w' u k zs := by
    intro w' hg u k zs hr
    rcases hr.2 with hn | ⟨g, cap, cur, rfl, hl, hgb, rest⟩
    · exact ⟨hr.1, .inl hn⟩
    · refine ⟨hr.1, .inr ⟨g, cap, cur, rfl, hl, ?_, rest⟩⟩
      rw [hg.block g (Array.getElem?_eq_some_iff.1 hgb).1 (by simp)]; exact hgb
  have newb : ∀ (v' : Value) (w' : World) (m : Nat) (zs : List Value), w'.ownsRow w.heap.size 60 1 v' (m + 1) zs → ∃ g, v'.ownBlock = some g ∧ w.heap.size ≤ g := by
    intro v' w' m zs h
    rcases h.2 with ⟨_, h0⟩ | ⟨g, cap, cur, rfl, hl, _⟩
    · omega
    · exact ⟨g, rfl, hl⟩
  have mono : ∀ (v' : Value) (w' : World) (m : Nat) (zs : List Value), w'.ownsRow w.heap.size 60 1 v' m zs → Rw lo w' v' m zs := by
    intro v' w' m zs h
    refine ⟨h.1, ?_⟩
    rcases h.2 with hn | ⟨g, cap, cur, rfl, hl, rest⟩
    · exact .inl hn
    · exact .inr ⟨g, cap, cur, rfl, by omega, rest⟩
  rcases hown.2 with ⟨rfl, rfl⟩ | ⟨g, cap, cur, rfl, hlg, hg, hnc, hm, hs, ht⟩
  · obtain ⟨v', w', r1, r2, r3, _, _⟩ := run_append_own_at (P := Tryd.prog) w w.heap.size 35 ty 60 i0 (.int .u32 0) 1 4 Tryd.underlying35 hi hz0 hz1 hz2 rfl (by decide) (.slice none 0 0) 0 [] (World.ownsRow_nil _ _ _ _) ⟨s, 0, none⟩ 1 1 [x] rfl hnews h1' (by unfold maxLen; omega) (by omega) (Nat.le_refl _)
    have hy : ys = [] := List.eq_nil_of_length_eq_zero (by simpa using hown.1)
    subst hy
    exact ⟨v', w', r1, mono _ _ _ _ (by simpa using r2), r3, .inr (newb _ _ 0 _ (by simpa using r2)), fun u k zs hr _ => keep _ r3 u k zs hr⟩
  · by_cases hroom : n + 1 ≤ cap
    · have hr := run_append_room (P := Tryd.prog) w 35 ty 60 i0 Tryd.underlying35 hi g n cap cur hg ⟨s, 0, none⟩ 1 1 [x] (by rw [hz1]; rfl) hnews h1' hroom (by rw [hz1, hs]; simp; omega)
      rw [hz1] at hr
      refine ⟨_, _, hr, ⟨by simpa using hown.1, .inr ⟨g, cap, _, rfl, hlg, setRow_heap w g cur _ 60 _ hg, hroom, hm, ?_, ?_⟩⟩, ⟨rfl, rfl, rfl, by simp, fun k _ hk => setRow_other w g k _ (fun e => hk (by simp [Value.ownBlock, e]))⟩, .inl rfl, ?_⟩
      · simp only [List.size_toArray, List.length_append, List.length_take, List.length_drop, Array.length_toList, List.length_cons, List.length_nil]
        omega
      · rw [ht]
        have hyl : ys.length = n := by simpa using hown.1
        simp only [Nat.mul_one, List.append_assoc]
        rw [← List.append_assoc]
        rw [List.take_append_of_le_length (by simp [hyl])]
        rw [List.take_of_length_le (by simp [hyl])]
      · intro u k zs hr2 hle
        rcases hr2.2 with hn | ⟨g2, cap2, cur2, rfl, hl2, hg2, hnc2, hm2, hs2, ht2⟩
        · exact ⟨hr2.1, .inl hn⟩
        · by_cases he : g2 = g
          · subst he
            rw [hg] at hg2
            cases hg2
            have hk := hle rfl
            refine ⟨hr2.1, .inr ⟨g2, cap2, _, rfl, hl2, setRow_heap w g2 cur _ 60 _ hg, hnc2, hm2, ?_, ?_⟩⟩
            · simp only [List.size_toArray, List.length_append, List.length_take, List.length_drop, Array.length_toList, List.length_cons, List.length_nil]
              omega
            · have hcl : cur.toList.length = cap2 := by simpa using hs2
              rw [← ht2]
              simp only [Nat.mul_one, List.append_assoc]
              rw [List.take_append_of_le_length (by rw [List.length_take]; omega), List.take_take, Nat.min_eq_left hk]
          · refine ⟨hr2.1, .inr ⟨g2, cap2, cur2, rfl, hl2, ?_, hnc2, hm2, hs2, ht2⟩⟩
            rw [setRow_other w g g2 _ he]; exact hg2
    · obtain ⟨v', w', r1, r2, r3⟩ := run_append_arg_grows (P := Tryd.prog) w 35 ty 60 i0 (.int .u32 0) 1 4 Tryd.underlying35 hi hz0 hz1 hz2 rfl (by decide) ⟨g, 0, none⟩ n cap ys (by simpa using hown.1) (fun j u hj => hown.cells (g := g) (by simp [Value.ownBlock]) j u hj) ⟨s, 0, none⟩ 1 1 [x] rfl hnews (by omega) (by unfold maxLen; omega) (by omega)
      exact ⟨v', w', r1, mono _ _ _ _ r2, ⟨r3.os, r3.tape, r3.output, r3.size, fun k hk _ => r3.block k hk (by simp)⟩, .inr (newb _ _ n _ r2), fun u k zs hr _ => keep _ r3 u k zs hr⟩

/-- The law for the walk, of whatever slices. -/
theorem wpList_append_run2 {w : World} {ops : Array Oper} {rest : List Oper} {o : Oper} {a : Act} {Q : Exit → Act → World → Prop} (hgd : o.guard = none) (s x : Operand) (t : TypeId)
    (ho : o.op = .call { callee := .builtin .append, args := #[s, x], argTypes := #[t, t] }) (v u : Value) (hs : a.eval s = v) (hx : a.eval x = u) (v' : Value) (w' : World)
    (hrun : (Builtin.append_ #[t, t] o.type #[v, u]).run Tryd.prog w = .ok v' w') (h : wpList Tryd.prog ops Q rest (a.put o.dst v') w') : wpList Tryd.prog ops Q (o :: rest) a w := by
  refine wpList_plain hgd fun K hK => ?_
  unfold Oper.wp
  simp [execOp, ho, resolve, invoke, builtin, hs, hx, hrun, Result.andThen]
  exact hK _ _ h

end Go.Proofs.YtnnlicahgdcbdaaDoor

/- What Owned keeps to, phase by phase. -/
namespace Go.Proofs.YtnnlicahgdcbdaaDoor
open Go.RowKit
set_option linter.unusedVariables false
set_option maxRecDepth 20000

def slen : Value → Nat
  | .slice _ n _ => n
  | _ => 0
def nth (vs : List Value) (i : Nat) : Value := vs.getD i (.slice none 0 0)

theorem Rw.len {lo : Nat} {w : World} {v : Value} {n : Nat} {ys : List Value} (h : Rw lo w v n ys) : slen v = n := by
  rcases h.2 with ⟨rfl, h0⟩ | ⟨g, cap, cur, rfl, _⟩
  · exact h0.symm
  · rfl

theorem Rw.lt {lo : Nat} {w : World} {v : Value} {n : Nat} {ys : List Value} (h : Rw lo w v n ys) (b : Nat) (hb : v.ownBlock = some b) : lo ≤ b ∧ b < w.heap.size ∧ ∃ cur, w.heap[b]? = some (.cells cur 60 (0, 0)) := by
  rcases h.2 with ⟨rfl, h0⟩ | ⟨g, cap, cur, rfl, hlo, hg, _⟩
  · cases hb
  · cases hb
    exact ⟨hlo, (Array.getElem?_eq_some_iff.1 hg).1, cur, hg⟩

/-- Nats of one's own, in rows apart. -/
structure Nice (lo : Nat) (w : World) (vs : List Value) : Prop where
  rows : ∀ i, i < vs.length → ∃ ys, Rw lo w (nth vs i) (slen (nth vs i)) ys
  small : ∀ i, i < vs.length → slen (nth vs i) ≤ 35184372088000
  apart : ∀ i j, i < vs.length → j < vs.length → i ≠ j → ∀ b, (nth vs i).ownBlock = some b → (nth vs j).ownBlock ≠ some b

end Go.Proofs.YtnnlicahgdcbdaaDoor

/- The document's Owned. -/
namespace Go.Proofs.YtnnlicahgdcbdaaDoor
open Go.RowKit
set_option linter.unusedVariables false
set_option maxRecDepth 20000

theorem Rw.cell {lo : Nat} {w : World} {g n cap : Nat} {ys : List Value} (h : Rw lo w (.slice (some ⟨g, 0, none⟩) n cap) n ys) (k : Nat) (u : Value) (hk : ys[k]? = some u) : w.cell? ⟨g, k, none⟩ = some u := by
  have h1 := h.cells (g := g) (by simp [Value.ownBlock]) k u hk
  have e : (⟨g, 0, none⟩ : Addr).add k = ⟨g, k, none⟩ := by unfold Addr.add; split <;> simp_all
  rw [e] at h1
  exact h1

theorem Rw.frozen {lo : Nat} {w : World} {g n cap : Nat} {ys : List Value} (h : Rw lo w (.slice (some ⟨g, 0, none⟩) n cap) n ys) (k : Nat) : w.frozen? ⟨g, k, none⟩ = false := by
  rcases h.2 with ⟨e, _⟩ | ⟨g2, cap2, cur2, e, _, hg2, _⟩
  · cases e
  · cases e
    simp [World.frozen?, hg2]

theorem Rw.shape {lo : Nat} {w : World} {v : Value} {n : Nat} {ys : List Value} (h : Rw lo w v n ys) : ∃ ao cap, v = .slice ao n cap ∧ n ≤ cap ∧ cap ≤ maxLen ∧ (0 < n → ∃ g, ao = some ⟨g, 0, none⟩) := by
  rcases h.2 with ⟨rfl, h0⟩ | ⟨g, cap, cur, rfl, _, _, hn, hm, _⟩
  · exact ⟨none, 0, by rw [h0], by omega, by unfold maxLen; omega, fun h => absurd h (by omega)⟩
  · exact ⟨_, cap, rfl, hn, hm, fun _ => ⟨g, rfl⟩⟩

end Go.Proofs.YtnnlicahgdcbdaaDoor

/- The document's at, Plus, Minus. -/
namespace Go.Proofs.YtnnlicahgdcbdaaDoor
open Go.RowKit
set_option linter.unusedVariables false
set_option maxRecDepth 20000

theorem Rw.words {lo : Nat} {w : World} {v : Value} {n : Nat} {L : List Nat} (h : Rw lo w v n (L.map U)) : ∃ ao cap, v = .slice ao n cap ∧ n ≤ cap ∧ n = L.length ∧ (ao = none → cap = 0) ∧ Rd w.heap.size w ao L := by
  have hl : n = L.length := by have := h.1; simp at this; omega
  rcases h.2 with ⟨rfl, h0⟩ | ⟨g, cap, cur, rfl, hlo, hg, hn, hm, hs, ht⟩
  · refine ⟨none, 0, by rw [h0], by omega, hl, fun _ => rfl, ?_⟩
    have : L = [] := List.length_eq_zero_iff.1 (by omega)
    rw [this]; exact Rd.nil _ _ _
  · refine ⟨_, cap, rfl, hn, hl, (fun e => by cases e), fun _ => ⟨g, 0, (Array.getElem?_eq_some_iff.1 hg).1, rfl, fun i hi => ?_⟩⟩
    have h1 := Rw.cell h i (U (L.getD i 0)) (by simp [hi])
    rw [Nat.zero_add]
    exact h1

theorem val_take_all (xs : List Nat) (k : Nat) : val (xs.take (k + 1)) = val (xs.take k) + pw k * xs.getD k 0 := by
  by_cases h : k < xs.length
  · exact val_take_succ xs k h
  · rw [List.take_of_length_le (by omega), List.take_of_length_le (by omega)]
    simp [List.getD_eq_getElem?_getD, List.getElem?_eq_none (show xs.length ≤ k by omega)]

theorem minus_step (p V c a b x y s d : Nat) (h : V + b = a + c * p) (e : s + y + c = x + d * 4294967296) : (V + p * s) + (b + p * y) = (a + p * x) + d * (4294967296 * p) := borrow_step p a b V c x y s d h e

set_option maxHeartbeats 1000000 in
theorem at_any (xs : List Nat) (ao : Option Addr) (n cap B i : Nat) (w : World) (hn : n = xs.length) (hm : n ≤ 70368744177664) (hx : Wf xs) (hR : Rd B w ao xs) (hi : i ≤ 70368744177664) :
    Calls Tryd.prog 141 #[.slice ao n cap, .int .i64 (i : Nat)] w fun r w' => r = .returned (.int .u64 ((xs.getD i 0 : Nat) : Int)) ∧ w' = w := by
  by_cases hin : i < n
  · obtain ⟨b, off, hB, rfl, hcell⟩ := hR (by intro e; subst e; simp at hn; omega)
    have hck := hcell i (by omega)
    have hxl := hx.get i
    obtain ⟨t, ht⟩ : ∃ t, xs.getD i 0 = t := ⟨_, rfl⟩
    rw [ht] at hck hxl ⊢
    clear hcell hR hn hx ht
    go_enter Tryd.func141, Tryd.ntmps141
    go_wp2
    go_ret
    exact ⟨rfl, rfl⟩
  · have e : xs.getD i 0 = 0 := by simp [List.getD_eq_getElem?_getD, List.getElem?_eq_none (show xs.length ≤ i by omega)]
    rw [e]
    clear hR hn hx e
    go_enter Tryd.func141, Tryd.ntmps141
    go_wp2
    go_ret
    exact ⟨rfl, rfl⟩

end Go.Proofs.YtnnlicahgdcbdaaDoor

/- Bit, Small. -/
namespace Go.Proofs.YtnnlicahgdcbdaaDoor
open Go.RowKit
set_option linter.unusedVariables false
set_option maxRecDepth 20000

theorem bit_words (xs : List Nat) (hx : Wf xs) (k r : Nat) (hk : k < xs.length) (hr : r < 32) : val xs / 2 ^ (32 * k + r) % 2 = xs.getD k 0 / 2 ^ r % 2 := by
  have e := val_take_drop xs k (by omega)
  have hl : val (xs.take k) < pw k := by
    have := val_lt _ (hx.take k)
    rwa [List.length_take, Nat.min_eq_left (by omega)] at this
  rw [pw_two, ← Nat.div_div_eq_div_mul, e, Nat.add_mul_div_left _ _ (pw_pos k), Nat.div_eq_of_lt hl, Nat.zero_add, val_drop_succ xs k hk]
  have e2 : 4294967296 * val (xs.drop (k + 1)) = 2 ^ r * (2 * (2 ^ (31 - r) * val (xs.drop (k + 1)))) := by
    have : (4294967296 : Nat) = 2 ^ r * (2 * 2 ^ (31 - r)) := by
      rw [← Nat.mul_assoc, Nat.mul_comm (2 ^ r) 2, Nat.mul_assoc, ← Nat.pow_add, show r + (31 - r) = 31 by omega]
    rw [this]; grind
  rw [e2, Nat.add_mul_div_left _ _ (Nat.two_pow_pos r), Nat.add_mul_mod_self_left]

theorem bit_beyond (xs : List Nat) (hx : Wf xs) (i : Nat) (h : xs.length ≤ i / 32) : val xs / 2 ^ i % 2 = 0 := by
  have h1 := val_lt xs hx
  have h2 : pw xs.length ≤ 2 ^ i := by
    have : pw xs.length = 2 ^ (32 * xs.length) := by rw [← Nat.add_zero (32 * xs.length), pw_two]; simp
    rw [this]
    exact Nat.pow_le_pow_right (by decide) (by omega)
  rw [Nat.div_eq_of_lt (by omega)]

theorem and_one (z : Nat) (h : z < 4294967296) : bits BinOp.and IntKind.u32 (z : Int) 1 = ((z % 2 : Nat) : Int) := by
  have := and32 z 1 h (by decide)
  rw [Nat.and_one_is_mod] at this
  exact this

set_option maxHeartbeats 1000000 in
theorem bit_neg (ao : Option Addr) (n cap : Nat) (i : Int) (w : World) (hi : i < 0) :
    Calls Tryd.prog 116 #[.slice ao n cap, .int .i64 i] w fun r w' => r = .returned (.bool false) ∧ w' = w := by
  go_enter Tryd.func116, Tryd.ntmps116
  go_wp2
  go_ret
  exact ⟨rfl, rfl⟩

set_option maxHeartbeats 1000000 in
theorem bit_any (xs : List Nat) (ao : Option Addr) (n cap B i : Nat) (w : World) (hn : n = xs.length) (hx : Wf xs) (hR : Rd B w ao xs) (hi : i ≤ 9223372036854775807) :
    Calls Tryd.prog 116 #[.slice ao n cap, .int .i64 (i : Int)] w fun r w' => r = .returned (.bool (decide (val xs / 2 ^ i % 2 = 1))) ∧ w' = w := by
  obtain ⟨k, hk⟩ : ∃ k, k = i / 32 := ⟨_, rfl⟩
  obtain ⟨r, hr⟩ : ∃ r, r = i % 32 := ⟨_, rfl⟩
  have e1 : (i : Int) / 32 = (k : Int) := by omega
  have e2 : (i : Int) % 32 = (r : Int) := by omega
  by_cases hkn : k < n
  · have hb := bit_words xs hx k r (by omega) (by omega)
    rw [show 32 * k + r = i by omega] at hb
    rw [hb]
    obtain ⟨b, off, hB, rfl, hcell⟩ := hR (by intro e; subst e; simp at hn; omega)
    have hck := hcell k (by omega)
    obtain ⟨t, ht⟩ : ∃ t, xs.getD k 0 = t := ⟨_, rfl⟩
    have htl : t < 4294967296 := ht ▸ hx.get k
    rw [ht] at hck ⊢
    obtain ⟨z, hz⟩ : ∃ z, z = t / 2 ^ r := ⟨_, rfl⟩
    have hzt : z ≤ t := by rw [hz]; exact Nat.div_le_self _ _
    have e3 : (t : Int) / 2 ^ r = (z : Int) := by rw [hz]; simp
    have e4 := and_one z (by omega)
    have hr32 : r < 32 := by omega
    rw [← hz]
    clear hb hn hx hR hcell ht hz hk hr
    rcases (by omega : z % 2 = 0 ∨ z % 2 = 1) with hz2 | hz2
    · rw [hz2] at e4 ⊢
      clear hz2
      go_enter Tryd.func116, Tryd.ntmps116
      go_wp2
      go_ret
      exact ⟨rfl, rfl⟩
    · rw [hz2] at e4 ⊢
      clear hz2
      go_enter Tryd.func116, Tryd.ntmps116
      go_wp2
      go_ret
      exact ⟨rfl, rfl⟩
  · rw [bit_beyond xs hx i (by omega)]
    clear hn hx hR hk hr
    go_enter Tryd.func116, Tryd.ntmps116
    go_wp2
    go_ret
    exact ⟨rfl, rfl⟩

/-- What Small answers. -/
def smallV (X : Nat) : Value := if X < 18446744073709551616 then .tuple #[.int .u64 (X : Int), .int .i64 0] else .tuple #[.int .u64 0, .int .i64 2]

theorem nl_two (xs : List Nat) (hx : Wf xs) : nl xs ≤ 2 ↔ val xs < 18446744073709551616 := by
  rw [nl_eq_length xs hx, ws_len_le]
  rfl

set_option maxHeartbeats 1000000 in
theorem small_any (xs : List Nat) (ao : Option Addr) (n cap B : Nat) (w : World) (hn : n = xs.length) (hc : n ≤ cap) (hm : n ≤ 70368744177664) (hx : Wf xs) (hR : Rd B w ao xs) :
    Calls Tryd.prog 115 #[.slice ao n cap] w fun r w' => r = .returned (smallV (val xs)) ∧ w' = w := by
  have H := hid (trim_any xs ao n cap B w hn hc (by omega) hR)
  have hl := nl_le xs
  have h2 := nl_two xs hx
  have hf := val_form xs hx
  obtain ⟨m, hm'⟩ : ∃ m, nl xs = m := ⟨_, rfl⟩
  rw [hm'] at H hl h2 hf
  unfold smallV
  by_cases h : 2 < m
  · rw [if_neg (by omega)]
    clear h2 hl hn hx hR hm' hf
    go_enter Tryd.func115, Tryd.ntmps115
    go_wp2_with fail
    refine (Calls.mono H.out) ?_
    rintro r w1 ⟨rfl, rfl⟩
    go_wp2
    go_ret2
    exact ⟨rfl, rfl⟩
  · rw [if_pos (by omega)]
    rw [← sg_val_take] at hf
    have HR := (Aside.intro (And.intro hR (And.intro hn (And.intro hx (And.intro hl hf)))))
    have hm2 : m ≤ 2 := by omega
    clear h2 hl hn hx hR hm' hf h
    go_enter Tryd.func115, Tryd.ntmps115
    go_wp2_with fail
    refine (Calls.mono H.out) ?_
    rintro r w1 ⟨rfl, rfl⟩
    go_wp2
    go_loopg [4, 14] m (fun gk s i wr => ∃ (k sv : Nat), gk + k = m ∧ s = .int .u64 (sv : Nat) ∧ i = .int .i64 (k : Nat) ∧ wr = w1 ∧ Aside (sv = sg xs 0 k))
    case atStart => exact ⟨0, 0, by omega, rfl, rfl, rfl, (sg_zero _ _).symm⟩
    case round =>
      obtain ⟨k, sv, hgk, rfl, rfl, rfl, HA⟩ := hrel
      by_cases hk : k < m
      · obtain ⟨hR, hn, hx, hl, hf⟩ := HR.out
        obtain ⟨b, off, hB, rfl, hcell⟩ := hR (by intro e; subst e; simp at hl; omega)
        have hck := hcell k (by omega)
        obtain ⟨t, ht⟩ : ∃ t, xs.getD k 0 = t := ⟨_, rfl⟩
        have htl : t < 4294967296 := ht ▸ hx.get k
        rw [ht] at hck
        have hs1 := sg_lt xs 0 k hx (by omega)
        have hs2 := sg_succ xs 0 k (by omega)
        rw [Nat.zero_add, ht, ← HA.out] at hs2
        rw [← HA.out] at hs1
        have HX := (Aside.intro (And.intro hs1 hs2))
        clear hR hn hx hl hf hcell ht hs1 hs2
        rcases (by omega : k = 0 ∨ k = 1) with rfl | rfl
        · have hsv : sv = 0 := by have := HX.out.1; rw [pw_zero] at this; omega
          have e : bits BinOp.or IntKind.u64 (sv : Int) (t : Int) = (t : Int) := by rw [bits_or_u64_nat _ _ (by omega) (by omega), hsv, Nat.zero_or]
          rw [Nat.add_zero] at hck
          have HS := (Aside.intro hsv)
          clear hsv
          go_wp2
          go_roundg (gk - 1)
          case measure => omega
          case rel =>
            refine ⟨1, t, by omega, by first | rfl | rw [e], by go_num, rfl, ?_⟩
            have := HX.out.2
            rw [pw_zero, HS.out] at this
            rw [Aside, this]; omega
        · have hsv : sv < 4294967296 := by have := HX.out.1; rw [show (1 : Nat) = 0 + 1 from rfl, pw_succ, pw_zero] at this; omega
          have e := or64_join2 t sv htl hsv
          go_wp2
          go_roundg (gk - 1)
          case measure => omega
          case rel =>
            refine ⟨2, sv + t * 4294967296, by omega, by first | rfl | rw [e] | (rw [e]; rfl), by go_num, rfl, ?_⟩
            have := HX.out.2
            rw [show pw 1 = 4294967296 from rfl] at this
            rw [Aside, this]; omega
      · obtain rfl : k = m := by omega
        go_wp2
        go_ret2
        obtain ⟨hR, hn, hx, hl, hf⟩ := HR.out
        rw [← hf, ← HA.out]
        exact ⟨rfl, rfl⟩
end Go.Proofs.YtnnlicahgdcbdaaDoor

/- The document's Minus, Cmp, Bit. -/
namespace Go.Proofs.YtnnlicahgdcbdaaDoor
open Go.RowKit
set_option linter.unusedVariables false
set_option maxRecDepth 20000

theorem val_take_small (ys : List Nat) (hy : Wf ys) (n : Nat) (h : val ys < pw n) : val (ys.take n) = val ys := by
  by_cases hn : n ≤ ys.length
  · have h1 := val_take_drop ys n hn
    have : val (ys.drop n) = 0 := by
      rcases Nat.eq_zero_or_pos (val (ys.drop n)) with h0 | h0
      · exact h0
      · have h2 : pw n * 1 ≤ pw n * val (ys.drop n) := Nat.mul_le_mul_left _ h0
        omega
    rw [this] at h1
    omega
  · rw [List.take_of_length_le (by omega)]

theorem minus_end (V Y X c p : Nat) (hV : V < p) (hle : Y ≤ X) (hc : c ≤ 1) (h : V + Y = X + c * p) : V = X - Y := by
  rcases (by omega : c = 0 ∨ c = 1) with rfl | rfl <;> omega

set_option maxHeartbeats 2000000 in
theorem rMinus_any (xs ys : List Nat) (ao bo : Option Addr) (n cap m capb B : Nat) (w : World) (hn : n = xs.length) (hm : m = ys.length) (hc : n ≤ cap) (hcb : m ≤ capb) (hbig : n ≤ 35184372088000) (hbig2 : m ≤ 35184372088000)
    (hx : Wf xs) (hy : Wf ys) (hR : Rd B w ao xs) (hS : Rd B w bo ys) (hB : B ≤ w.heap.size) (hle : val ys ≤ val xs) :
    Calls Tryd.prog 139 #[.slice ao n cap, .slice bo m capb] w fun r w' => ∃ v, r = .returned v ∧ Nt w.heap.size w' v (val xs - val ys) ∧ Below w.heap.size w w' := by
  have hX := val_lt xs hx
  rw [← hn] at hX
  have HR := (Aside.intro (And.intro hR (And.intro hS (And.intro hn (And.intro hm (And.intro hx (And.intro hy (And.intro hB (And.intro hX hle)))))))))
  clear hR hS hn hm hx hy hB hX hle
  go_enter Tryd.func139, Tryd.ntmps139
  go_wp2
  go_loopg [5, 6, 7] n (fun gk ov cv iv wr => ∃ (i c : Nat) (L : List Nat), gk + i = n ∧ cv = .int .u64 (c : Nat) ∧ c ≤ 1 ∧ iv = .int .i64 (i : Nat) ∧ Hid (Rw w.heap.size wr ov i (L.map U)) ∧ Hid (Below w.heap.size w wr) ∧
      Aside (Wf L ∧ val L + val (ys.take i) = val (xs.take i) + c * pw i))
  case atStart => exact ⟨0, 0, [], by omega, rfl, by omega, rfl, World.ownsRow_nil _ _ _ _, Below.refl _ _, Wf.nil, by simp [val]⟩
  case round =>
    obtain ⟨i, c, L, hgi, rfl, hc1, rfl, HO, HB, HA⟩ := hrel
    by_cases hgo : i < n
    · obtain ⟨hR, hS, hn, hm, hx, hy, hB, hX, hle⟩ := HR.out
      have HA1 := hid (at_any xs ao n cap B i wr hn (by omega) hx (hR.below (HB.out.mono hB)) (by omega))
      have HA2 := hid (at_any ys bo m capb B i wr hm (by omega) hy (hS.below (HB.out.mono hB)) (by omega))
      obtain ⟨x, hxx⟩ : ∃ x, xs.getD i 0 = x := ⟨_, rfl⟩
      obtain ⟨y, hyy⟩ : ∃ y, ys.getD i 0 = y := ⟨_, rfl⟩
      have hxl : x < 4294967296 := hxx ▸ hx.get i
      have hyl : y < 4294967296 := hyy ▸ hy.get i
      rw [hxx] at HA1
      rw [hyy] at HA2
      obtain ⟨s, hs⟩ : ∃ s : Nat, s = (x + 4294967296 - y - c) % 4294967296 := ⟨_, rfl⟩
      obtain ⟨q, hq⟩ : ∃ q : Nat, q = (x + 4294967296 - y - c) / 4294967296 := ⟨_, rfl⟩
      obtain ⟨d, hd⟩ : ∃ d : Nat, d = 1 - q := ⟨_, rfl⟩
      have e1 : ((x : Int) + 4294967296 - y - c) % 4294967296 = (s : Int) := by omega
      have e2 : ((x : Int) + 4294967296 - y - c) / 4294967296 = (q : Int) := by omega
      have e3 : (1 : Int) - (q : Int) = (d : Int) := by omega
      have hsz := HB.out.size
      obtain ⟨v', w', hap, hown, hgrow, _, _⟩ := append_word (wr.alloc (.cells #[.int .u32 (s : Nat)] 60)) w.heap.size u5 i (L.map U) (.int .u32 (s : Nat)) wr.heap.size 35 (HO.out.alloc _) (by unfold World.cell?; simp only [heap_alloc_new]; rfl) rfl (by omega) (by simp; omega)
      have HX : Aside (xs.getD i 0 = x ∧ ys.getD i 0 = y ∧ s + y + c = x + d * 4294967296 ∧ s < 4294967296 ∧ d ≤ 1) := ⟨hxx, hyy, by omega, by omega, by omega⟩
      have hbel : Below w.heap.size w w' := (HB.out.alloc hsz _).grown hgrow (by simp; omega) (fun k hk => (HO.out.lt k hk).1)
      have HI := (Aside.intro (And.intro hown hbel))
      have HAP := hid hap
      clear hap hown hgrow hbel hs hd hq hxx hyy hR hS hn hm hx hy hB hX hsz hle
      go_wp2_with fail
      refine (Calls.mono HA1.out) ?_
      rintro r w1 ⟨rfl, rfl⟩
      go_wp2_with fail
      refine (Calls.mono HA2.out) ?_
      rintro r w1 ⟨rfl, rfl⟩
      go_wp2_with (at_builtin; refine wpList_append_run2 rfl (.tmp 25) (.tmp 28) 35 rfl _ _ rfl rfl _ _ HAP.out ?_)
      go_roundg (gk - 1)
      case measure => omega
      case rel =>
        obtain ⟨a1, a2, a3, a4, a5⟩ := HX.out
        obtain ⟨hLw, hLv⟩ := HA.out
        refine ⟨i + 1, d, L ++ [s], by omega, by first | rfl | rw [e3] | rw [e2, e3], a5, by first | go_num | (congr 1; omega), by rw [List.map_append]; exact HI.out.1, HI.out.2, hLw.append (Wf.cons a4 Wf.nil), ?_⟩
        have hLl : L.length = i := by have := HO.out.1; simp at this; omega
        rw [val_append, hLl, val_take_all, val_take_all, a1, a2, pw_succ]
        simpa [val] using minus_step (pw i) _ _ _ _ x y s d hLv a3
    · obtain rfl : i = n := by omega
      obtain ⟨aoo, capo, hsh, hcap, hl, hnil, hRo⟩ := HO.out.words
      subst hsh
      obtain ⟨hR, hS, hn, hm, hx, hy, hB, hX, hle⟩ := HR.out
      have HNm := hid (rNorm_any L aoo i capo wr.heap.size wr hl hcap (by omega) HA.out.1 hRo hnil)
      have hLv : val L = val xs - val ys := by
        have h1 := HA.out.2
        rw [List.take_of_length_le (l := xs) (by omega), val_take_small ys hy i (by omega)] at h1
        have h2 := val_lt L HA.out.1
        rw [← hl] at h2
        exact minus_end _ _ _ _ _ h2 hle hc1 h1
      rw [hLv] at HNm
      clear hR hS hn hm hx hy hB hX hl hnil hRo hLv hgo HO hle
      go_wp2_with fail
      refine (Calls.mono HNm.out) ?_
      rintro r w1 ⟨v, rfl, hNt, hb⟩
      have HZ := (Aside.intro (And.intro hNt hb))
      clear hNt hb
      go_wp2
      go_ret
      have hsz := HB.out.size
      exact ⟨v, rfl, HZ.out.1.mono hsz, HB.out.trans (HZ.out.2.mono hsz)⟩

theorem Below.drewN' {B : Nat} {a w : World} (h : Below B a w) (n : Nat) : Below B a (w.drewN n) := ⟨h.os, h.tape, h.output, h.size, h.block⟩

set_option maxHeartbeats 2000000 in
theorem rCmp_any (xs ys : List Nat) (ao bo : Option Addr) (n cap m capb B : Nat) (w : World) (hn : n = xs.length) (hm : m = ys.length) (hbig : n ≤ 70368744177664) (hbig2 : m ≤ 70368744177664)
    (hx : Wf xs) (hy : Wf ys) (hR : Rd B w ao xs) (hS : Rd B w bo ys) :
    Calls Tryd.prog 137 #[.slice ao n cap, .slice bo m capb] w fun r w' => r = .returned (.int .i64 (cmpI (val xs) (val ys))) ∧ Below w.heap.size w w' := by
  have H1 := hid (size_any xs ao n cap B w hn (by omega) hR)
  have H2 := hid (size_any ys bo m capb B w hm (by omega) hS)
  have hl1 := nl_le xs
  have hl2 := nl_le ys
  have f1 := val_form xs hx
  have f2 := val_form ys hy
  rw [← sg_val_take] at f1 f2
  rcases Nat.lt_trichotomy (nl xs) (nl ys) with he | he | he
  · rw [cmpI_lt (cmp_len xs ys hx hy he)]
    obtain ⟨k1, hk1⟩ : ∃ k, nl xs = k := ⟨_, rfl⟩
    obtain ⟨k2, hk2⟩ : ∃ k, nl ys = k := ⟨_, rfl⟩
    rw [hk1] at H1 he
    rw [hk2] at H2 he
    clear hk1 hk2 hn hm hx hy hR hS f1 f2 hl1 hl2
    go_enter Tryd.func137, Tryd.ntmps137
    go_wp2_with fail
    refine (Calls.mono H1.out) ?_
    rintro r w1 ⟨rfl, rfl⟩
    go_wp2_with fail
    refine (Calls.mono H2.out) ?_
    rintro r w1 ⟨rfl, rfl⟩
    have hne : decide (k1 = k2) = false := decide_eq_false (by omega)
    have hne2 : k1 ≠ k2 := by omega
    go_wp2
    go_ret
    exact ⟨rfl, Below.refl _ _⟩
  · obtain ⟨k0, hk0⟩ : ∃ k, nl ys = k := ⟨_, rfl⟩
    rw [he] at H1 hl1 f1
    rw [hk0] at H1 H2 hl1 hl2 f1 f2
    have HR := (Aside.intro (And.intro hR (And.intro hS (And.intro hn (And.intro hm (And.intro hx (And.intro hy (And.intro hl1 (And.intro hl2 (And.intro f1 f2))))))))))
    have hkn : k0 ≤ n := by omega
    have hkm : k0 ≤ m := by omega
    clear hR hS hn hm hx hy hl1 hl2 f1 f2 he hk0
    go_enter Tryd.func137, Tryd.ntmps137
    go_wp2_with fail
    refine (Calls.mono H1.out) ?_
    rintro r w1 ⟨rfl, rfl⟩
    go_wp2_with fail
    refine (Calls.mono H2.out) ?_
    rintro r w1 ⟨rfl, rfl⟩
    go_wp2
    go_loopg [5] k0 (fun k i wr => k ≤ k0 ∧ i = .int .i64 ((k : Int) - 1) ∧ Hid (Below w1.heap.size w1 wr) ∧ Aside (sg xs k (k0 - k) = sg ys k (k0 - k)))
    case atStart => exact ⟨Nat.le_refl _, by first | rfl | go_num, Below.refl _ _, by rw [Nat.sub_self, sg_zero, sg_zero]; exact rfl⟩
    case round =>
      obtain ⟨hk, rfl, HB, HA⟩ := hrel
      by_cases hk0 : gk = 0
      · subst hk0
        go_wp2
        go_ret
        obtain ⟨hR, hS, hn, hm, hx, hy, hl1, hl2, f1, f2⟩ := HR.out
        have h := HA.out
        rw [Nat.sub_zero, f1, f2] at h
        rw [cmpI_eq h]
        exact ⟨rfl, HB.out⟩
      · obtain ⟨k, rfl⟩ : ∃ k, gk = k + 1 := ⟨gk - 1, by omega⟩
        obtain ⟨hR, hS, hn, hm, hx, hy, hl1, hl2, f1, f2⟩ := HR.out
        obtain ⟨b, off, hB1, rfl, hc1⟩ := hR (by intro e; subst e; simp at hl1; omega)
        obtain ⟨b2, off2, hB2, rfl, hc2⟩ := hS (by intro e; subst e; simp at hl2; omega)
        have g1 : wr.cell? ⟨b, off + k, none⟩ = some (.int .u32 ((xs.getD k 0 : Nat) : Int)) :=
          (HB.out.cell (p := ⟨b, off + k, none⟩) (World.block_lt_of_cell? w1 ⟨b, off + k, none⟩ (hc1 k (by omega)))).trans (hc1 k (by omega))
        have g2 : wr.cell? ⟨b2, off2 + k, none⟩ = some (.int .u32 ((ys.getD k 0 : Nat) : Int)) :=
          (HB.out.cell (p := ⟨b2, off2 + k, none⟩) (World.block_lt_of_cell? w1 ⟨b2, off2 + k, none⟩ (hc2 k (by omega)))).trans (hc2 k (by omega))
        obtain ⟨x, hxx⟩ : ∃ x : Nat, xs.getD k 0 = x := ⟨_, rfl⟩
        obtain ⟨y, hyy⟩ : ∃ y : Nat, ys.getD k 0 = y := ⟨_, rfl⟩
        rw [hxx] at g1
        rw [hyy] at g2
        have HX := (Aside.intro (And.intro hxx hyy))
        have hki : (k : Int) < (n : Int) := by omega
        have hki0 : 0 ≤ (k : Int) := by omega
        have hki2 : (k : Int) < (m : Int) := by omega
        clear hR hS hn hm hx hy hl1 hl2 f1 f2 hc1 hc2 hxx hyy hk0
        rcases Nat.lt_trichotomy x y with hxy | hxy | hxy
        · go_wp2
          go_quiet (fail)
          go_wp2
          go_ret
          obtain ⟨hR, hS, hn, hm, hx, hy, hl1, hl2, f1, f2⟩ := HR.out
          have h := HA.out
          have t1 := cmp_words xs ys hx hy k (k0 - (k + 1)) (by omega) (by omega) h (by rw [HX.out.1, HX.out.2]; exact hxy)
          rw [show k + 1 + (k0 - (k + 1)) = k0 by omega, f1, f2] at t1
          rw [cmpI_lt t1]
          exact ⟨rfl, Below.drewN' HB.out _⟩
        · subst hxy
          go_wp2
          go_quiet (fail)
          go_wp2
          go_quiet (fail)
          go_wp2
          go_roundg k
          case measure => omega
          case rel =>
            obtain ⟨hR, hS, hn, hm, hx, hy, hl1, hl2, f1, f2⟩ := HR.out
            refine ⟨by omega, by first | go_num | (congr 1; omega), hid (Below.drewN' HB.out _), ?_⟩
            have h := HA.out
            obtain ⟨r, hr⟩ : ∃ r, k0 - k = r + 1 := ⟨k0 - (k + 1), by omega⟩
            rw [show k0 - (k + 1) = r by omega] at h
            rw [Aside, hr, sg_front xs k r (by omega), sg_front ys k r (by omega), h, HX.out.1, HX.out.2]
        · have hxy2 : decide (x < y) = false := decide_eq_false (by omega)
          go_wp2
          go_quiet (fail)
          go_wp2
          go_quiet (fail)
          go_wp2
          go_ret
          obtain ⟨hR, hS, hn, hm, hx, hy, hl1, hl2, f1, f2⟩ := HR.out
          have h := HA.out
          have t1 := cmp_words ys xs hy hx k (k0 - (k + 1)) (by omega) (by omega) h.symm (by rw [HX.out.1, HX.out.2]; exact hxy)
          rw [show k + 1 + (k0 - (k + 1)) = k0 by omega, f1, f2] at t1
          rw [cmpI_gt t1]
          exact ⟨rfl, Below.drewN' (Below.drewN' HB.out _) _⟩
  · rw [cmpI_gt (cmp_len ys xs hy hx he)]
    obtain ⟨k1, hk1⟩ : ∃ k, nl xs = k := ⟨_, rfl⟩
    obtain ⟨k2, hk2⟩ : ∃ k, nl ys = k := ⟨_, rfl⟩
    rw [hk1] at H1 he
    rw [hk2] at H2 he
    clear hk1 hk2 hn hm hx hy hR hS f1 f2 hl1 hl2
    go_enter Tryd.func137, Tryd.ntmps137
    go_wp2_with fail
    refine (Calls.mono H1.out) ?_
    rintro r w1 ⟨rfl, rfl⟩
    go_wp2_with fail
    refine (Calls.mono H2.out) ?_
    rintro r w1 ⟨rfl, rfl⟩
    have hne : decide (k1 = k2) = false := decide_eq_false (by omega)
    have hlt : decide (k1 < k2) = false := decide_eq_false (by omega)
    have hne2 : k1 ≠ k2 := by omega
    go_wp2
    go_ret
    exact ⟨rfl, Below.refl _ _⟩

set_option maxHeartbeats 1000000 in
theorem rBit_any (xs : List Nat) (ao : Option Addr) (n cap B i : Nat) (w : World) (hn : n = xs.length) (hx : Wf xs) (hR : Rd B w ao xs) (hi : i ≤ 9223372036854775807) :
    Calls Tryd.prog 132 #[.slice ao n cap, .int .i64 (i : Int)] w fun r w' => r = .returned (.bool (decide (val xs / 2 ^ i % 2 = 1))) ∧ w' = w := by
  obtain ⟨k, hk⟩ : ∃ k, k = i / 32 := ⟨_, rfl⟩
  obtain ⟨r, hr⟩ : ∃ r, r = i % 32 := ⟨_, rfl⟩
  have e1 : (i : Int) / 32 = (k : Int) := by omega
  have e2 : (i : Int) % 32 = (r : Int) := by omega
  by_cases hkn : k < n
  · have hb := bit_words xs hx k r (by omega) (by omega)
    rw [show 32 * k + r = i by omega] at hb
    rw [hb]
    obtain ⟨b, off, hB, rfl, hcell⟩ := hR (by intro e; subst e; simp at hn; omega)
    have hck := hcell k (by omega)
    obtain ⟨t, ht⟩ : ∃ t, xs.getD k 0 = t := ⟨_, rfl⟩
    have htl : t < 4294967296 := ht ▸ hx.get k
    rw [ht] at hck ⊢
    obtain ⟨z, hz⟩ : ∃ z, z = t / 2 ^ r := ⟨_, rfl⟩
    have hzt : z ≤ t := by rw [hz]; exact Nat.div_le_self _ _
    have e3 : (t : Int) / 2 ^ r = (z : Int) := by rw [hz]; simp
    have e4 := and_one z (by omega)
    have hr32 : r < 32 := by omega
    have hnk : decide ((n : Int) ≤ (k : Int)) = false := decide_eq_false (by omega)
    have hnk2 : decide (n ≤ k) = false := decide_eq_false (by omega)
    rw [← hz]
    clear hb hn hx hR hcell ht hz hk hr
    rcases (by omega : z % 2 = 0 ∨ z % 2 = 1) with hz2 | hz2
    · rw [hz2] at e4 ⊢
      clear hz2
      go_enter Tryd.func132, Tryd.ntmps132
      go_wp2
      go_ret
      exact ⟨rfl, rfl⟩
    · rw [hz2] at e4 ⊢
      clear hz2
      go_enter Tryd.func132, Tryd.ntmps132
      go_wp2
      go_ret
      exact ⟨rfl, rfl⟩
  · rw [bit_beyond xs hx i (by omega)]
    have hnk : decide ((n : Int) ≤ (k : Int)) = true := decide_eq_true (by omega)
    clear hn hx hR hk hr
    go_enter Tryd.func132, Tryd.ntmps132
    go_wp2
    go_ret
    exact ⟨rfl, rfl⟩
end Go.Proofs.YtnnlicahgdcbdaaDoor

