/- The document's Times. -/
import Derived.Test.YtonhahbmdekkdaaDoorW44
import Derived.Test.YtonhahbmdekkdaaDoorM8x
namespace Go.Proofs.YtonhahbmdekkdaaDoor
open Go.RowKit
set_option linter.unusedVariables false
set_option maxRecDepth 20000

theorem times_round (M M2 xs bs : List Nat) (k n m c y : Nat) (hMl : M.length = n + m) (hk : k < n) (hn : n = xs.length) (hm : m = bs.length) (hMs : sg M 0 (k + m) = sg xs 0 k * val bs) (hy : xs.getD k 0 = y)
    (hout : Out M M2 k m) (hsum : sg M2 k m + c * pw m = sg M k m + val bs * y) : sg (M2.set (k + m) c) 0 (k + 1 + m) = sg xs 0 (k + 1) * val bs := by
  have e1 := sg_set_last M2 0 (k + m) c (by rw [hout.1]; omega)
  rw [Nat.zero_add] at e1
  have e2 := sg_add M2 0 k m (by rw [hout.1]; omega)
  have e3 := sg_add M 0 k m (by omega)
  rw [Nat.zero_add] at e2 e3
  have e4 := hout.below 0 k (by omega) (by omega)
  rw [show k + 1 + m = k + m + 1 by omega, e1, e2, e4, sg_succ xs 0 k (by omega), Nat.zero_add, hy, pw_add]
  rw [e3] at hMs
  rw [Nat.mul_comm c] at hsum
  have := mul_step (pw k) _ _ y _ _ c hMs
  rw [← hsum] at this
  rw [← this, Nat.mul_add, Nat.mul_assoc, Nat.add_assoc]

set_option maxHeartbeats 4000000 in
theorem rTimes_any (xs bs : List Nat) (ao bo : Option Addr) (n cap m capb B : Nat) (w : World) (hn : n = xs.length) (hm : m = bs.length) (hc : n ≤ cap) (hcb : m ≤ capb) (hbig : n + m ≤ 35184372088832)
    (hx : Wf xs) (hb : Wf bs) (hR : Rd B w ao xs) (hS : Rd B w bo bs) (hB : B ≤ w.heap.size) :
    Calls Tryd.prog 80 #[.slice ao n cap, .slice bo m capb] w fun r w' => ∃ v, r = .returned v ∧ Nt w.heap.size w' v (val xs * val bs) ∧ Below w.heap.size w w' := by
  obtain ⟨W1, hW1⟩ : ∃ W, W = w.alloc (.cells (madeCells #[.int .u32 0] (n + m)) 63) := ⟨_, rfl⟩
  have hO1 : Own W1 w.heap.size (List.replicate (n + m) 0) := by rw [hW1]; exact Own.made w (n + m)
  have hB1 : Below w.heap.size w W1 := by rw [hW1]; exact (Below.refl _ _).alloc (Nat.le_refl _) _
  have hmk := make_words ((n : Int) + m) (n + m) (by omega) (by omega) w
  rw [← hW1] at hmk
  have hR1 : Rd B W1 ao xs := hR.below (hB1.mono hB)
  have hS1 : Rd B W1 bo bs := hS.below (hB1.mono hB)
  obtain ⟨g, hg⟩ : ∃ g, g = w.heap.size := ⟨_, rfl⟩
  rw [← hg] at hO1 hmk hB1 hB
  have HR := (Aside.intro (And.intro hR1 (And.intro hS1 (And.intro hm (And.intro hb (And.intro hx (And.intro hn (And.intro hB1 hg))))))))
  have HO := hid hO1
  clear hn hm hx hb hR hS hO1 hB1 hW1 hR1 hS1 hg
  go_enter Tryd.func80, Tryd.ntmps80
  go_wp2
  go_loopg [6] n (fun gk i wr => ∃ (k : Nat) (M : List Nat), gk + k = n ∧ i = .int .i64 (k : Nat) ∧
      Hid (Own wr g M) ∧ Aside (Wf M ∧ M.length = n + m ∧ sg M 0 (k + m) = sg xs 0 k * val bs ∧ But g W1 wr))
  case atStart => exact ⟨0, _, by omega, rfl, HO, Wf.zeros _, by simp, by rw [sg_zeros, sg_zero]; simp, But.refl _ _⟩
  case round =>
    obtain ⟨i, L, hgk, rfl, HM, HA⟩ := hrel
    by_cases hi : i < n
    · obtain ⟨hR, hS, hm, hb, hx, hn, hB1, hg⟩ := HR.out
      obtain ⟨a, aoff, haB, rfl, hac⟩ := hR (by intro e; subst e; simp at hn; omega)
      have hW1s : g ≤ W1.heap.size := by have := hB1.size; omega
      have HAC : Aside (W1.cell? ⟨a, aoff + i, none⟩ = some (.int .u32 ((xs.getD i 0 : Nat) : Int)) ∧ a < B ∧ a < W1.heap.size) := ⟨hac i (by omega), haB, World.block_lt_of_cell? W1 ⟨a, aoff + i, none⟩ (hac i (by omega))⟩
      obtain ⟨q, hq⟩ : ∃ q : Nat, xs.getD i 0 = q := ⟨_, rfl⟩
      have hql : q < 4294967296 := hq ▸ hx.get _
      rw [hq] at HAC
      have HQ := Aside.intro hq
      clear hq hR hS hm hb hx hn hB1 hg hac
      go_wp2
      go_loopg [7, 8] m (fun gk c kv w2 => ∃ (k cv : Nat) (M : List Nat), gk + k = m ∧ c = .int .u64 (cv : Nat) ∧ cv < 4294967296 ∧ kv = .int .i64 (k : Nat) ∧
          Hid (Own w2 g M) ∧ Aside (Wf M ∧ Out L M i k ∧ sg M i k + cv * pw k = sg L i k + sg bs 0 k * q ∧ But g W1 w2))
      case atStart => exact ⟨0, 0, L, by omega, rfl, by omega, rfl, HM, HA.out.1, Out.refl _ _ _, by simp [sg_zero], HA.out.2.2.2⟩
      case round =>
        obtain ⟨k, cv, M, hgk2, rfl, hcv, rfl, HN, HC⟩ := hrel
        by_cases hk : k < m
        · obtain ⟨hR, hS, hm, hb, hx, hn, hB1, hg⟩ := HR.out
          obtain ⟨hMw, hMo, hMs, hbut⟩ := HC.out
          obtain ⟨hLw, hLl, _, _⟩ := HA.out
          obtain ⟨b, boff, hbB, rfl, hbc⟩ := hS (by intro e; subst e; simp at hm; omega)
          have hbk : wr.cell? ⟨b, boff + k, none⟩ = some (.int .u32 ((bs.getD k 0 : Nat) : Int)) := by
            have h1 := hbut.block b (World.block_lt_of_cell? W1 ⟨b, boff + k, none⟩ (hbc k (by omega))) (by omega)
            exact (World.cell?_of_block (a := ⟨b, boff + k, none⟩) h1).trans (hbc k (by omega))
          have hak : wr.cell? ⟨a, aoff + i, none⟩ = some (.int .u32 (q : Nat)) := by
            have h1 := hbut.block a HAC.out.2.2 (by have := HAC.out.2.1; omega)
            exact (World.cell?_of_block (a := ⟨a, aoff + i, none⟩) h1).trans HAC.out.1
          have hgc := HN.out.cell (i + k) (by rw [hMo.1]; omega)
          have hgf := HN.out.frozen (i + k)
          obtain ⟨x, hxx⟩ : ∃ x : Nat, M.getD (i + k) 0 = x := ⟨_, rfl⟩
          obtain ⟨y, hyy⟩ : ∃ y : Nat, bs.getD k 0 = y := ⟨_, rfl⟩
          have hxl : x < 4294967296 := hxx ▸ hMw.get _
          have hyl : y < 4294967296 := hyy ▸ hb.get _
          rw [hxx] at hgc
          rw [hyy] at hbk
          have hp0 := mul_bound q y hql hyl
          have hp2 : (q : Int) * (y : Int) ≤ 18446744065119617025 := by rw [← Int.natCast_mul]; omega
          have hp1 : 0 ≤ (q : Int) * (y : Int) := by rw [← Int.natCast_mul]; omega
          obtain ⟨s, hs⟩ : ∃ s : Nat, s = (q * y + x + cv) % 4294967296 := ⟨_, rfl⟩
          obtain ⟨d, hd⟩ : ∃ d : Nat, d = (q * y + x + cv) / 4294967296 := ⟨_, rfl⟩
          have e0 : ((q * y + x + cv : Nat) : Int) = (q : Int) * y + x + cv := by simp only [Int.natCast_add, Int.natCast_mul]
          have e1 : ((q : Int) * y + x + cv) % 4294967296 = (s : Int) := by rw [← e0]; omega
          have e2 : ((q : Int) * y + x + cv) / 4294967296 = (d : Int) := by rw [← e0]; omega
          have HX : Aside (M.getD (i + k) 0 = x ∧ bs.getD k 0 = y ∧ s + d * 4294967296 = y * q + x + cv ∧ s < 4294967296 ∧ d < 4294967296) := ⟨hxx, hyy, by rw [Nat.mul_comm y q]; omega, by omega, by omega⟩
          have hik : i + k < n + m := by omega
          clear hxx hyy hs hd hR hS hm hb hx hn hB1 hg hMw hMo hMs hbut hbc e0 hp0 hLw hLl
          go_wp2
          go_quiet (fail)
          go_wp2
          go_roundg (gk - 1)
          case measure => omega
          case rel =>
            obtain ⟨hxx, hyy, he, hs, hd⟩ := HX.out
            obtain ⟨hR, hS, hm, hb, hx, hn, hB1, hg⟩ := HR.out
            obtain ⟨hMw, hMo, hMs, hbut⟩ := HC.out
            obtain ⟨hLw, hLl, _, _⟩ := HA.out
            refine ⟨k + 1, d, M.set (i + k) s, by omega, by first | rfl | rw [e2], hd, by first | go_num | (congr 1; omega), HN.out.set _ _, hMw.set _ _ hs, (hMo.mono (by omega)).set _ _ (by omega) (by omega), ?_, (But.drewN hbut _).set _ _⟩
            rw [sg_set_last _ _ _ _ (by rw [hMo.1]; omega), sg_succ L i k (by omega), sg_succ bs 0 k (by omega), Nat.zero_add, hyy, pw_succ]
            have e : L.getD (i + k) 0 = x := by rw [← hxx]; exact (hMo.2 _ (by omega)).symm
            rw [e]
            exact times_step _ _ _ _ _ _ _ _ _ _ hMs he
        · obtain rfl : k = m := by omega
          obtain ⟨hLw, hLl, hLs, hLb⟩ := HA.out
          have hgc := HN.out.cell (i + k) (by rw [HC.out.2.1.1]; omega)
          have hgf := HN.out.frozen (i + k)
          have hik : i + k < n + k := by omega
          have hcm : (cv : Int) % 4294967296 = (cv : Int) := by omega
          clear hLw hLl hLs hLb
          go_wp2
          go_roundg (n - (i + 1))
          case measure => omega
          case rel =>
            obtain ⟨hR, hS, hm, hb, hx, hn, hB1, hg⟩ := HR.out
            obtain ⟨hMw, hMo, hMs, hbut⟩ := HC.out
            obtain ⟨hLw, hLl, hLs, hLb⟩ := HA.out
            refine ⟨i + 1, M.set (i + k) cv, by omega, by first | go_num | (congr 1; omega), HN.out.set _ _, hMw.set _ _ hcv, by simp [hMo.1, hLl], ?_, hbut.set _ _⟩
            have e2 : sg bs 0 k = val bs := by rw [hm]; exact sg_all bs
            rw [e2] at hMs
            exact times_round L M xs bs i n k cv q hLl hi hn hm hLs HQ.out hMo hMs
    · obtain rfl : i = n := by omega
      obtain ⟨hMw, hMl, hMs, hbut⟩ := HA.out
      have T := hid (rNorm_any L (some ⟨g, 0, none⟩) (i + m) (i + m) (g + 1) wr hMl.symm (Nat.le_refl _) (by omega) hMw (by simpa [hMl, List.take_of_length_le] using Rd.ofOwn HM.out 0 (i + m)) (fun e => by cases e))
      clear hMw hMl hMs hbut
      go_wp2_with fail
      refine (Calls.mono T.out) ?_
      rintro r w1 ⟨v, rfl, hNt, hbb⟩
      have HZ := (Aside.intro (And.intro hNt hbb))
      clear hNt hbb
      go_wp2
      go_ret
      obtain ⟨hR, hS, hm, hb, hx, hn, hB1, hg⟩ := HR.out
      obtain ⟨hMw, hMl, hMs, hbut⟩ := HA.out
      have e1 : sg L 0 (i + m) = val L := by rw [← hMl]; exact sg_all L
      have e2 : sg xs 0 i = val xs := by rw [hn]; exact sg_all xs
      rw [e1, e2] at hMs
      have hsz1 := hB1.size
      have hsz2 := hbut.size
      have hbel : Below g w wr := But.below hB1 hbut (by omega) (Nat.le_refl _)
      rw [← hMs, ← hg]
      exact ⟨v, rfl, HZ.out.1.mono (by omega), hbel.trans (HZ.out.2.mono (by omega))⟩
end Go.Proofs.YtonhahbmdekkdaaDoor
