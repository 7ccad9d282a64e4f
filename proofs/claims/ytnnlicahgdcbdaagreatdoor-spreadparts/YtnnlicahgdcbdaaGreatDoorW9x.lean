/- sub: a difference in new memory. -/
import Derived.Test.YtnnlicahgdcbdaaGreatDoorM2x
import Derived.Deep.RegionWith
import Derived.BigQuiet
import Derived.ArgAppend
import Derived.Maps.AppendAt
import Derived.WalkMore
namespace Go.Proofs.YtnnlicahgdcbdaaGreatDoor
open Go.RowKit
set_option linter.unusedVariables false
set_option maxRecDepth 20000

set_option maxHeartbeats 2000000 in
theorem sub_any (xs bs : List Nat) (ao bo : Option Addr) (n cap m capb B : Nat) (w : World) (hn : n = xs.length) (hm : m = bs.length) (hmn : m ≤ n) (hc : n ≤ cap) (hcb : m ≤ capb) (hbig : n ≤ 35184372088833)
    (hx : Wf xs) (hb : Wf bs) (hle : val bs ≤ val xs) (hR0 : Rd B w ao xs) (hS : Rd B w bo bs) (hB : B ≤ w.heap.size) :
    Calls Tryz.prog 202 #[.slice ao n cap, .slice bo m capb] w fun r w' => ∃ v, r = .returned v ∧ Nt w.heap.size w' v (val xs - val bs) ∧ Below w.heap.size w w' := by
  obtain ⟨W1, hW1⟩ : ∃ W, W = w.alloc (.cells (madeCells #[.int .u32 0] n) 86) := ⟨_, rfl⟩
  have hO1 : Own W1 w.heap.size (List.replicate n 0) := by rw [hW1]; exact Own.made w n
  have hB1 : Below w.heap.size w W1 := by rw [hW1]; exact (Below.refl _ _).alloc (Nat.le_refl _) _
  obtain ⟨W2, hcp, hO2, hb2⟩ := copy_words W1 w.heap.size n n ao n cap B 3 (List.replicate n 0) xs hO1 (by simp) hn (hR0.below (hB1.mono hB)) (by omega)
  rw [List.drop_of_length_le (by simp), List.append_nil] at hO2
  have hB2 : Below w.heap.size w W2 := But.below hB1 hb2 hB1.size (Nat.le_refl _)
  have hmk := make_words (n : Int) n rfl (by omega) w
  rw [← hW1] at hmk
  have hR : Rd B W2 bo bs := hS.below (hB2.mono hB)
  obtain ⟨g, hg⟩ : ∃ g, g = w.heap.size := ⟨_, rfl⟩
  rw [← hg] at hO2 hcp hmk hB2 hB
  have HR := (Aside.intro (And.intro hR (And.intro hm (And.intro hb (And.intro hx (And.intro hn (And.intro hle (And.intro hB2 hg))))))))
  have HO := hid hO2
  have HA32 : Hid (∀ x y c s d w, _ → _ → _ → _ → _ → _) := sub32_nat
  clear hn hm hx hb hR0 hS hO1 hB1 hO2 hb2 hB2 hW1 hle hR hg
  go_enter Tryz.func202, Tryz.ntmps202
  go_wp2
  go_loopg [6, 18] m (fun gk c i wr => ∃ (k cv : Nat) (M : List Nat), gk + k = m ∧ c = .int .u32 (cv : Nat) ∧ cv ≤ 1 ∧ i = .int .i64 (k : Nat) ∧
      Hid (Own wr g M) ∧ Aside (Wf M ∧ Out xs M 0 k ∧ sg M 0 k + sg bs 0 k = sg xs 0 k + cv * pw k ∧ But g W2 wr))
  case atStart => exact ⟨0, 0, xs, by omega, rfl, by omega, rfl, HO, HR.out.2.2.2.1, Out.refl _ _ _, by simp [sg_zero], But.refl _ _⟩
  case round =>
    obtain ⟨k, cv, M, hgk, rfl, hcv, rfl, HM, HA⟩ := hrel
    by_cases hk : k < m
    · obtain ⟨hR, hm, hb, hx, hn, hle, hB2, hg⟩ := HR.out
      obtain ⟨hMw, hMo, hMs, hbut⟩ := HA.out
      obtain ⟨b, boff, hbB, rfl, hbc⟩ := hR (by intro e; subst e; simp at hm; omega)
      have hbk : wr.cell? ⟨b, boff + k, none⟩ = some (.int .u32 ((bs.getD k 0 : Nat) : Int)) := by
        have h1 := hbut.block b (World.block_lt_of_cell? W2 ⟨b, boff + k, none⟩ (hbc k (by omega))) (by omega)
        exact (World.cell?_of_block (a := ⟨b, boff + k, none⟩) h1).trans (hbc k (by omega))
      have hgc := HM.out.cell k (by rw [hMo.1]; omega)
      have hgf := HM.out.frozen k
      obtain ⟨x, hxx⟩ : ∃ x : Nat, M.getD k 0 = x := ⟨_, rfl⟩
      obtain ⟨y, hy⟩ : ∃ y : Nat, bs.getD k 0 = y := ⟨_, rfl⟩
      have hxl : x < 4294967296 := hxx ▸ hMw.get _
      have hyl : y < 4294967296 := hy ▸ hb.get _
      rw [hxx] at hgc
      rw [hy] at hbk
      obtain ⟨s, hs⟩ : ∃ s : Nat, (s : Int) = ((x : Int) - y - cv) % 4294967296 := ⟨(((x : Int) - y - cv) % 4294967296).toNat, by omega⟩
      obtain ⟨d, hd⟩ : ∃ d : Nat, d = if x < y + cv then 1 else 0 := ⟨_, rfl⟩
      have HX := (Aside.intro (And.intro hxx (And.intro hy (And.intro hs hd))))
      clear hxx hy hs hd hR hm hb hx hn hle hB2 hg hMw hMo hMs hbut hbc
      go_wp2_with fail
      refine (HA32.out x y cv s d _ hxl hyl hcv HX.out.2.2.1 HX.out.2.2.2).mono ?_
      rintro r w1 ⟨rfl, rfl⟩
      go_wp2
      go_roundg (gk - 1)
      case measure => omega
      case rel =>
        obtain ⟨hxx, hy, hs, hd⟩ := HX.out
        obtain ⟨hR, hm, hb, hx, hn, hle, hB2, hg⟩ := HR.out
        obtain ⟨hMw, hMo, hMs, hbut⟩ := HA.out
        have hd1 : d ≤ 1 := by rw [hd]; split <;> omega
        have hsum : s + y + cv = x + d * 4294967296 := by rw [hd]; split <;> omega
        refine ⟨k + 1, d, M.set k s, by omega, rfl, hd1, by go_num, HM.out.set _ _, hMw.set _ _ (by omega), (hMo.mono (by omega)).set _ _ (by omega) (by omega), ?_, hbut.set _ _⟩
        have e1 := sg_set_last M 0 k s (by rw [hMo.1]; omega)
        rw [Nat.zero_add] at e1
        rw [e1, sg_succ xs 0 k (by omega), sg_succ bs 0 k (by omega), Nat.zero_add, hy, pw_succ]
        have e : xs.getD k 0 = x := by rw [← hxx]; exact (hMo.2 _ (by omega)).symm
        rw [e]
        exact borrow_step _ _ _ _ _ _ _ _ _ hMs hsum
    · obtain rfl : k = m := by omega
      have HA2 : Aside (Wf M ∧ Out xs M 0 k ∧ sg M 0 k + val bs = sg xs 0 k + cv * pw k ∧ But g W2 wr) := by
        obtain ⟨hR, hm, hb, hx, hn, hle, hB2, hg⟩ := HR.out
        obtain ⟨hMw, hMo, hMs, hbut⟩ := HA.out
        refine ⟨hMw, hMo, ?_, hbut⟩
        rw [← hMs, hm, sg_all]
      clear HA hgk HO hk
      go_wp2
      go_loopg [6, 9] (n - k + 1) (fun g2 c i w2 => ∃ (j cv : Nat) (M : List Nat), g2 + j = n + 1 ∧ k ≤ j ∧ j ≤ n ∧ c = .int .u32 (cv : Nat) ∧ cv ≤ 1 ∧ i = .int .i64 (j : Nat) ∧
        Hid (Own w2 g M) ∧ Aside (Wf M ∧ Out xs M 0 j ∧ sg M 0 j + val bs = sg xs 0 j + cv * pw j ∧ But g W2 w2))
      case atStart => exact ⟨k, cv, M, by omega, Nat.le_refl _, hmn, rfl, hcv, rfl, HM, HA2.out⟩
      case round =>
        clear HM HA2 hcv
        obtain ⟨j, cv, M, hgj, hkj, hjn, rfl, hcv, rfl, HM, HA⟩ := hrel
        by_cases h0 : cv = 0
        · subst h0
          obtain ⟨hR, hm, hb, hx, hn, hle, hB2, hg⟩ := HR.out
          obtain ⟨hMw, hMo, hMs, hbut⟩ := HA.out
          have hl : M.length = n := by rw [hMo.1, hn]
          have T := hid (trim_any M (some ⟨g, 0, none⟩) n n (g + 1) wr hl.symm (Nat.le_refl _) (by omega) (by simpa [hl, List.take_of_length_le] using Rd.ofOwn HM.out 0 n))
          clear hR hm hb hx hn hle hB2 hg hMw hMo hMs hbut
          go_wp2_with fail
          refine (Calls.mono T.out) ?_
          rintro r w1 ⟨rfl, rfl⟩
          go_wp2
          go_ret
          obtain ⟨hR, hm, hb, hx, hn, hle, hB2, hg⟩ := HR.out
          obtain ⟨hMw, hMo, hMs, hbut⟩ := HA.out
          rw [Nat.zero_mul, Nat.add_zero] at hMs
          have hv := seg_rest2 (n := n) hjn (by omega) hMo hMs
          have e1 : sg M 0 n = val M := by rw [← hl]; exact sg_all M
          have e2 : sg xs 0 n = val xs := by rw [hn]; exact sg_all xs
          rw [e1, e2] at hv
          refine ⟨_, rfl, ?_, ?_⟩
          · have N := Nt.ofOwn (lo := g) HM.out (Nat.le_refl _) hMw (by rw [hl]; unfold maxLen; omega)
            rw [show val xs - val bs = val M by omega, ← hg]
            rw [hl] at N
            exact N
          · rw [← hg]
            exact But.below hB2 hbut (by have := hB2.size; omega) (Nat.le_refl _)
        · obtain rfl : cv = 1 := by omega
          obtain ⟨hR, hm, hb, hx, hn, hle, hB2, hg⟩ := HR.out
          obtain ⟨hMw, hMo, hMs, hbut⟩ := HA.out
          have hj : j < n := by
            by_cases hj : j = n
            · exfalso
              subst hj
              have h1 := sg_lt M 0 j hMw (by rw [hMo.1]; omega)
              have e2 : sg xs 0 j = val xs := by rw [hn]; exact sg_all xs
              omega
            · omega
          have hgc := HM.out.cell j (by rw [hMo.1]; omega)
          have hgf := HM.out.frozen j
          obtain ⟨x, hxx⟩ : ∃ x : Nat, M.getD j 0 = x := ⟨_, rfl⟩
          have hxl : x < 4294967296 := hxx ▸ hMw.get _
          rw [hxx] at hgc
          obtain ⟨s, hs⟩ : ∃ s : Nat, (s : Int) = ((x : Int) - (0 : Nat) - (1 : Nat)) % 4294967296 := ⟨(((x : Int) - (0 : Nat) - (1 : Nat)) % 4294967296).toNat, by omega⟩
          obtain ⟨d, hd⟩ : ∃ d : Nat, d = if x < 0 + 1 then 1 else 0 := ⟨_, rfl⟩
          have HX := (Aside.intro (And.intro hxx (And.intro hs hd)))
          clear hxx hs hd hR hm hb hx hn hle hB2 hg hMw hMo hMs hbut h0
          go_wp2_with fail
          refine (HA32.out x 0 1 s d _ hxl (by omega) (by omega) HX.out.2.1 HX.out.2.2).mono ?_
          rintro r w1 ⟨rfl, rfl⟩
          go_wp2
          go_roundg (gk - 1)
          case measure => omega
          case rel =>
            obtain ⟨hxx, hs, hd⟩ := HX.out
            obtain ⟨hR, hm, hb, hx, hn, hle, hB2, hg⟩ := HR.out
            obtain ⟨hMw, hMo, hMs, hbut⟩ := HA.out
            have hd1 : d ≤ 1 := by rw [hd]; split <;> omega
            have hsum : s + 0 + 1 = x + d * 4294967296 := by rw [hd]; split <;> omega
            refine ⟨j + 1, d, M.set j s, by omega, by omega, by omega, rfl, hd1, by go_num, HM.out.set _ _, hMw.set _ _ (by omega), (hMo.mono (by omega)).set _ _ (by omega) (by omega), ?_, hbut.set _ _⟩
            have e1 := sg_set_last M 0 j s (by rw [hMo.1]; omega)
            rw [Nat.zero_add] at e1
            rw [e1, sg_succ xs 0 j (by omega), Nat.zero_add, pw_succ]
            have e : xs.getD j 0 = x := by rw [← hxx]; exact (hMo.2 _ (by omega)).symm
            rw [e]
            have := borrow_step (pw j) _ _ _ _ x 0 s d hMs hsum
            omega
end Go.Proofs.YtnnlicahgdcbdaaGreatDoor

/- addTimes: a product added in place. -/
namespace Go.Proofs.YtnnlicahgdcbdaaGreatDoor
open Go.RowKit
set_option linter.unusedVariables false
set_option maxRecDepth 20000

set_option maxHeartbeats 2000000 in
theorem addTimes_any (L bs : List Nat) (g off n cap : Nat) (ao : Option Addr) (m capb B q : Nat) (w : World)
    (hO : Own w g L) (hoff : off + n ≤ L.length) (hm : m = bs.length) (hmn : m ≤ n) (hcap : n ≤ cap) (hbig : n ≤ 4611686018427387904) (hL : Wf L) (hb : Wf bs) (hR : Rd B w ao bs) (hB : B ≤ g) (hq : q < 4294967296) :
    Calls Tryz.prog 205 #[.slice (some ⟨g, off, none⟩) n cap, .slice ao m capb, .int .u32 (q : Nat)] w fun r w' =>
      ∃ M c, r = .returned (.int .u32 (c : Nat)) ∧ c < 4294967296 ∧ Own w' g M ∧ Wf M ∧ Out L M off m ∧ sg M off m + c * pw m = sg L off m + val bs * q ∧ But g w w' := by
  have HR : Aside (Rd B w ao bs ∧ m = bs.length ∧ Wf bs ∧ Wf L ∧ off + n ≤ L.length) := ⟨hR, hm, hb, hL, hoff⟩
  have HO : Hid (Own w g L) := hO
  clear hR hm hb hL hO hoff
  go_enter Tryz.func205, Tryz.ntmps205
  go_wp2
  go_loopg [7, 13] m (fun gk c i wr => ∃ (k cv : Nat) (M : List Nat), gk + k = m ∧ c = .int .u64 (cv : Nat) ∧ cv < 4294967296 ∧ i = .int .i64 (k : Nat) ∧
      Hid (Own wr g M) ∧ Aside (Wf M ∧ Out L M off k ∧ sg M off k + cv * pw k = sg L off k + sg bs 0 k * q ∧ But g w wr))
  case atStart => exact ⟨0, 0, L, by omega, rfl, by omega, rfl, HO, HR.out.2.2.2.1, Out.refl _ _ _, by simp [sg_zero], But.refl _ _⟩
  case round =>
    obtain ⟨k, cv, M, hgk, rfl, hcv, rfl, HM, HA⟩ := hrel
    by_cases hk : k < m
    · obtain ⟨hR, hm, hb, hL, hoff⟩ := HR.out
      obtain ⟨hMw, hMo, hMs, hbut⟩ := HA.out
      obtain ⟨b, boff, hbB, rfl, hbc⟩ := hR (by intro e; subst e; simp at hm; omega)
      have hbk : wr.cell? ⟨b, boff + k, none⟩ = some (.int .u32 ((bs.getD k 0 : Nat) : Int)) := by
        have h1 := hbut.block b (World.block_lt_of_cell? w ⟨b, boff + k, none⟩ (hbc k (by omega))) (by omega)
        exact (World.cell?_of_block (a := ⟨b, boff + k, none⟩) h1).trans (hbc k (by omega))
      have hgc := HM.out.cell (off + k) (by rw [hMo.1]; omega)
      have hgf := HM.out.frozen (off + k)
      obtain ⟨x, hx⟩ : ∃ x : Nat, M.getD (off + k) 0 = x := ⟨_, rfl⟩
      obtain ⟨y, hy⟩ : ∃ y : Nat, bs.getD k 0 = y := ⟨_, rfl⟩
      have hxl : x < 4294967296 := hx ▸ hMw.get _
      have hyl : y < 4294967296 := hy ▸ hb.get _
      rw [hx] at hgc
      rw [hy] at hbk
      have hp0 := mul_bound y q hyl hq
      have hp2 : (y : Int) * (q : Int) ≤ 18446744065119617025 := by rw [← Int.natCast_mul]; omega
      have hp1 : 0 ≤ (y : Int) * (q : Int) := by rw [← Int.natCast_mul]; omega
      obtain ⟨s, hs⟩ : ∃ s : Nat, s = (y * q + x + cv) % 4294967296 := ⟨_, rfl⟩
      obtain ⟨d, hd⟩ : ∃ d : Nat, d = (y * q + x + cv) / 4294967296 := ⟨_, rfl⟩
      have e0 : ((y * q + x + cv : Nat) : Int) = (y : Int) * q + x + cv := by simp only [Int.natCast_add, Int.natCast_mul]
      have e1 : ((y : Int) * q + x + cv) % 4294967296 = (s : Int) := by rw [← e0]; omega
      have e2 : ((y : Int) * q + x + cv) / 4294967296 = (d : Int) := by rw [← e0]; omega
      have HX : Aside (M.getD (off + k) 0 = x ∧ bs.getD k 0 = y ∧ s + d * 4294967296 = y * q + x + cv ∧ s < 4294967296 ∧ d < 4294967296) := ⟨hx, hy, by omega, by omega, by omega⟩
      clear hx hy hs hd hR hm hb hL hoff hMw hMo hMs hbut hbc e0 hp0
      go_wp2
      go_roundg (gk - 1)
      case measure => omega
      case rel =>
        obtain ⟨hx, hy, he, hs, hd⟩ := HX.out
        obtain ⟨hR, hm, hb, hL, hoff⟩ := HR.out
        obtain ⟨hMw, hMo, hMs, hbut⟩ := HA.out
        refine ⟨k + 1, d, M.set (off + k) s, by omega, rfl, hd, by go_num, HM.out.set _ _, hMw.set _ _ hs, (hMo.mono (by omega)).set _ _ (by omega) (by omega), ?_, hbut.set _ _⟩
        rw [sg_set_last _ _ _ _ (by rw [hMo.1]; omega), sg_succ L off k (by omega), sg_succ bs 0 k (by omega), Nat.zero_add, hy, pw_succ]
        have e : L.getD (off + k) 0 = x := by rw [← hx]; exact (hMo.2 _ (by omega)).symm
        rw [e]
        exact times_step _ _ _ _ _ _ _ _ _ _ hMs he
    · obtain rfl : k = m := by omega
      go_wp2
      go_ret
      obtain ⟨hR, hm, hb, hL, hoff⟩ := HR.out
      obtain ⟨hMw, hMo, hMs, hbut⟩ := HA.out
      refine ⟨M, cv, rfl, hcv, HM.out, hMw, hMo, ?_, hbut⟩
      rw [hMs, hm, sg_all]
end Go.Proofs.YtnnlicahgdcbdaaGreatDoor

/- mul: a product in new memory. -/
namespace Go.Proofs.YtnnlicahgdcbdaaGreatDoor
open Go.RowKit
set_option linter.unusedVariables false
set_option maxRecDepth 20000

theorem mul_step (p V b x r q c : Nat) (h : V + p * r = b * q) : V + p * (r + q * x) = (b + p * x) * q := by grind

set_option maxHeartbeats 2000000 in
theorem mul_any (xs bs : List Nat) (ao bo : Option Addr) (n cap m capb B : Nat) (w : World) (hn : n = xs.length) (hm : m = bs.length) (hc : n ≤ cap) (hcb : m ≤ capb) (hbig : n + m ≤ 70368744177664)
    (hx : Wf xs) (hb : Wf bs) (hR : Rd B w ao xs) (hS : Rd B w bo bs) (hB : B ≤ w.heap.size) :
    Calls Tryz.prog 189 #[.slice ao n cap, .slice bo m capb] w fun r w' => ∃ v, r = .returned v ∧ Nt w.heap.size w' v (val xs * val bs) ∧ Below w.heap.size w w' := by
  obtain ⟨W1, hW1⟩ : ∃ W, W = w.alloc (.cells (madeCells #[.int .u32 0] (n + m)) 86) := ⟨_, rfl⟩
  have hO1 : Own W1 w.heap.size (List.replicate (n + m) 0) := by rw [hW1]; exact Own.made w (n + m)
  have hB1 : Below w.heap.size w W1 := by rw [hW1]; exact (Below.refl _ _).alloc (Nat.le_refl _) _
  have hmk := make_words ((n : Int) + m) (n + m) (by omega) (by omega) w
  rw [← hW1] at hmk
  have hR1 : Rd B W1 ao xs := hR.below (hB1.mono hB)
  have hS1 : Rd B W1 bo bs := hS.below (hB1.mono hB)
  obtain ⟨g, hg⟩ : ∃ g, g = w.heap.size := ⟨_, rfl⟩
  rw [← hg] at hO1 hmk hB1 hB
  have HR := (Aside.intro (And.intro hR1 (And.intro hS1 (And.intro hm (And.intro hb (And.intro hx (And.intro hn (And.intro hB1 hg))))))))
  have HO := hid hO1
  clear hn hm hx hb hR hS hO1 hB1 hW1 hR1 hS1 hg
  go_enter Tryz.func189, Tryz.ntmps189
  go_wp2
  go_loopg [16] n (fun gk i wr => ∃ (k : Nat) (M : List Nat), gk + k = n ∧ i = .int .i64 (k : Nat) ∧
      Hid (Own wr g M) ∧ Aside (Wf M ∧ M.length = n + m ∧ sg M 0 (k + m) = sg xs 0 k * val bs ∧ But g W1 wr))
  case atStart => exact ⟨0, _, by omega, rfl, HO, Wf.zeros _, by simp, by rw [sg_zeros, sg_zero]; simp, But.refl _ _⟩
  case round =>
    obtain ⟨k, M, hgk, rfl, HM, HA⟩ := hrel
    by_cases hk : k < n
    · obtain ⟨hR, hS, hm, hb, hx, hn, hB1, hg⟩ := HR.out
      obtain ⟨hMw, hMl, hMs, hbut⟩ := HA.out
      have hW1s : g ≤ W1.heap.size := by have := hB1.size; omega
      obtain ⟨b, boff, hbB, rfl, hbc⟩ := hR (by intro e; subst e; simp at hn; omega)
      have hbk : wr.cell? ⟨b, boff + k, none⟩ = some (.int .u32 ((xs.getD k 0 : Nat) : Int)) := by
        have h1 := hbut.block b (World.block_lt_of_cell? W1 ⟨b, boff + k, none⟩ (hbc k (by omega))) (by omega)
        exact (World.cell?_of_block (a := ⟨b, boff + k, none⟩) h1).trans (hbc k (by omega))
      obtain ⟨y, hy⟩ : ∃ y : Nat, xs.getD k 0 = y := ⟨_, rfl⟩
      have hyl : y < 4294967296 := hy ▸ hx.get _
      rw [hy] at hbk
      have H := hid (addTimes_any M bs g k m (n + m - k) bo m capb B y wr HM.out (by omega) hm (Nat.le_refl _) (by omega) (by omega) hMw hb (hS.but hbut (by omega) hB) hB hyl)
      have HX := (Aside.intro (And.intro hy hn))
      clear hy hR hS hm hb hx hn hB1 hg hMw hMl hMs hbut hbc hW1s
      go_wp2_with fail
      refine (Calls.mono H.out) ?_
      rintro r W3 ⟨M2, c, rfl, hc1, hO3, hM2, hout, hsum, hbut2⟩
      obtain ⟨hMw, hMl, hMs, hbut⟩ := HA.out
      have hgc := hO3.cell (k + m) (by rw [hout.1]; omega)
      have hgf := hO3.frozen (k + m)
      have HI := (Aside.intro (And.intro hc1 (And.intro hO3 (And.intro hM2 (And.intro hout (And.intro hsum hbut2))))))
      clear hc1 hO3 hM2 hout hsum hbut2 hMw hMl hMs hbut H
      go_wp2
      go_roundg (gk - 1)
      case measure => omega
      case rel =>
        obtain ⟨hy, hn⟩ := HX.out
        obtain ⟨hMw, hMl, hMs, hbut⟩ := HA.out
        obtain ⟨hc1, hO3, hM2, hout, hsum, hbut2⟩ := HI.out
        refine ⟨k + 1, M2.set (k + m) c, by omega, by go_num, hO3.set _ _, hM2.set _ _ hc1, by simp [hout.1, hMl], ?_, (hbut.trans hbut2).set _ _⟩
        have e1 := sg_set_last M2 0 (k + m) c (by rw [hout.1]; omega)
        rw [Nat.zero_add] at e1
        have e2 := sg_add M2 0 k m (by rw [hout.1]; omega)
        have e3 := sg_add M 0 k m (by omega)
        rw [Nat.zero_add] at e2 e3
        have e4 := hout.below 0 k (by omega) (by omega)
        rw [show k + 1 + m = k + m + 1 by omega, e1, e2, e4, sg_succ xs 0 k (by omega), Nat.zero_add, hy, pw_add]
        rw [e3] at hMs
        rw [Nat.mul_comm c] at hsum
        have := mul_step (pw k) _ _ y _ _ c hMs
        rw [← hsum] at this
        rw [← this, Nat.mul_add, Nat.mul_assoc, Nat.add_assoc]
    · obtain rfl : k = n := by omega
      obtain ⟨hMw, hMl, hMs, hbut⟩ := HA.out
      have T := hid (trim_any M (some ⟨g, 0, none⟩) (k + m) (k + m) (g + 1) wr hMl.symm (Nat.le_refl _) (by omega) (by simpa [hMl, List.take_of_length_le] using Rd.ofOwn HM.out 0 (k + m)))
      clear hMw hMl hMs hbut
      go_wp2_with fail
      refine (Calls.mono T.out) ?_
      rintro r w1 ⟨rfl, rfl⟩
      go_wp2
      go_ret
      obtain ⟨hR, hS, hm, hb, hx, hn, hB1, hg⟩ := HR.out
      obtain ⟨hMw, hMl, hMs, hbut⟩ := HA.out
      have e1 : sg M 0 (k + m) = val M := by rw [← hMl]; exact sg_all M
      have e2 : sg xs 0 k = val xs := by rw [hn]; exact sg_all xs
      rw [e1, e2] at hMs
      refine ⟨_, rfl, ?_, ?_⟩
      · have N := Nt.ofOwn (lo := g) HM.out (Nat.le_refl _) hMw (by rw [hMl]; unfold maxLen; omega)
        rw [← hMs, ← hg]
        rw [hMl] at N
        exact N
      · rw [← hg]
        exact But.below hB1 hbut (by have := hB1.size; omega) (Nat.le_refl _)
end Go.Proofs.YtnnlicahgdcbdaaGreatDoor

/- Cmp, same. -/
namespace Go.Proofs.YtnnlicahgdcbdaaGreatDoor
open Go.RowKit
set_option linter.unusedVariables false
set_option maxRecDepth 20000

/-- Which of two is greater, by their highest words that differ. -/
theorem cmp_words (xs ys : List Nat) (hx : Wf xs) (hy : Wf ys) (j d : Nat) (h1 : j + 1 + d ≤ xs.length) (h2 : j + 1 + d ≤ ys.length) (ht : sg xs (j + 1) d = sg ys (j + 1) d) (hlt : xs.getD j 0 < ys.getD j 0) :
    sg xs 0 (j + 1 + d) < sg ys 0 (j + 1 + d) := by
  rw [sg_add xs 0 (j + 1) d (by omega), sg_add ys 0 (j + 1) d (by omega), Nat.zero_add, ht, sg_succ xs 0 j (by omega), sg_succ ys 0 j (by omega), Nat.zero_add]
  have h3 := sg_lt xs 0 j hx (by omega)
  have h4 : pw j * (xs.getD j 0 + 1) ≤ pw j * ys.getD j 0 := Nat.mul_le_mul_left _ hlt
  rw [Nat.mul_add] at h4
  omega

theorem cmp_len (xs ys : List Nat) (hx : Wf xs) (hy : Wf ys) (h : nl xs < nl ys) : val xs < val ys := by
  rw [nl_eq_length xs hx, nl_eq_length ys hy] at h
  have h1 := ws_len_lt (val xs)
  have h2 : val ys ≠ 0 := by intro e; rw [e, ws_zero] at h; simp at h
  have h3 := ws_len_ge (val ys) h2
  have h4 := pw_mono (show (ws (val xs)).length ≤ (ws (val ys)).length - 1 by omega)
  omega

theorem cmpI_lt {x y : Nat} (h : x < y) : cmpI x y = -1 := by simp [cmpI, h]
theorem cmpI_gt {x y : Nat} (h : y < x) : cmpI x y = 1 := by simp [cmpI, h]; omega
theorem cmpI_eq {x y : Nat} (h : x = y) : cmpI x y = 0 := by simp [cmpI, h]
theorem cmpI_congr {a b x y : Nat} (h1 : a < b ↔ x < y) (h2 : b < a ↔ y < x) : cmpI a b = cmpI x y := by simp [cmpI, h1, h2]

set_option maxHeartbeats 2000000 in
theorem cmp_any (xs ys : List Nat) (ao bo : Option Addr) (n cap m capb B : Nat) (w : World) (hn : n = xs.length) (hm : m = ys.length) (hc : n ≤ cap) (hcb : m ≤ capb) (hbig : n ≤ 70368744177664) (hbig2 : m ≤ 70368744177664)
    (hx : Wf xs) (hy : Wf ys) (hR : Rd B w ao xs) (hS : Rd B w bo ys) :
    Calls Tryz.prog 174 #[.slice ao n cap, .slice bo m capb] w fun r w' => r = .returned (.int .i64 (cmpI (val xs) (val ys))) ∧ Below w.heap.size w w' := by
  have H1 := hid (trim_any xs ao n cap B w hn hc (by omega) hR)
  have H2 := hid (trim_any ys bo m capb B w hm hcb (by omega) hS)
  have hl1 := nl_le xs
  have hl2 := nl_le ys
  have f1 := val_form xs hx
  have f2 := val_form ys hy
  rw [← sg_val_take] at f1 f2
  by_cases he : nl xs = nl ys
  · obtain ⟨k0, hk0⟩ : ∃ k, nl ys = k := ⟨_, rfl⟩
    rw [he] at H1 hl1 f1
    rw [hk0] at H1 H2 hl1 hl2 f1 f2
    have HR := (Aside.intro (And.intro hR (And.intro hS (And.intro hn (And.intro hm (And.intro hx (And.intro hy (And.intro hl1 (And.intro hl2 (And.intro f1 f2))))))))))
    have HC : Hid (∀ x y w, _) := compare_u
    have hkn : k0 ≤ n := by omega
    have hkm : k0 ≤ m := by omega
    clear hR hS hn hm hx hy hl1 hl2 f1 f2 he hk0
    go_enter Tryz.func174, Tryz.ntmps174
    go_wp2_with fail
    refine (Calls.mono H1.out) ?_
    rintro r w1 ⟨rfl, rfl⟩
    go_wp2_with fail
    refine (Calls.mono H2.out) ?_
    rintro r w1 ⟨rfl, rfl⟩
    go_wp2
    go_loopg [5] k0 (fun k i wr => k ≤ k0 ∧ i = .int .i64 ((k : Int) - 1) ∧ Hid (Below w1.heap.size w1 wr) ∧ Aside (sg xs k (k0 - k) = sg ys k (k0 - k)))
    case atStart => exact ⟨Nat.le_refl _, rfl, Below.refl _ _, by rw [Nat.sub_self, sg_zero, sg_zero]; exact rfl⟩
    case round =>
      obtain ⟨hk, rfl, HB, HA⟩ := hrel
      by_cases hk0 : gk = 0
      · subst hk0
        go_wp2
        go_ret
        obtain ⟨hR, hS, hn, hm, hx, hy, hl1, hl2, f1, f2⟩ := HR.out
        have h := HA.out
        rw [Nat.sub_zero, f1, f2] at h
        rw [cmpI_eq h]
        exact ⟨rfl, HB.out⟩
      · obtain ⟨k, rfl⟩ : ∃ k, gk = k + 1 := ⟨gk - 1, by omega⟩
        obtain ⟨hR, hS, hn, hm, hx, hy, hl1, hl2, f1, f2⟩ := HR.out
        obtain ⟨b, off, hB1, rfl, hc1⟩ := hR (by intro e; subst e; simp at hl1; omega)
        obtain ⟨b2, off2, hB2, rfl, hc2⟩ := hS (by intro e; subst e; simp at hl2; omega)
        have g1 : wr.cell? ⟨b, off + k, none⟩ = some (.int .u32 ((xs.getD k 0 : Nat) : Int)) :=
          (HB.out.cell (p := ⟨b, off + k, none⟩) (World.block_lt_of_cell? w1 ⟨b, off + k, none⟩ (hc1 k (by omega)))).trans (hc1 k (by omega))
        have g2 : wr.cell? ⟨b2, off2 + k, none⟩ = some (.int .u32 ((ys.getD k 0 : Nat) : Int)) :=
          (HB.out.cell (p := ⟨b2, off2 + k, none⟩) (World.block_lt_of_cell? w1 ⟨b2, off2 + k, none⟩ (hc2 k (by omega)))).trans (hc2 k (by omega))
        obtain ⟨x, hxx⟩ : ∃ x : Nat, xs.getD k 0 = x := ⟨_, rfl⟩
        obtain ⟨y, hyy⟩ : ∃ y : Nat, ys.getD k 0 = y := ⟨_, rfl⟩
        rw [hxx] at g1
        rw [hyy] at g2
        have HX := (Aside.intro (And.intro hxx hyy))
        clear hR hS hn hm hx hy hl1 hl2 f1 f2 hc1 hc2 hxx hyy hk0
        by_cases hxy : x = y
        · subst hxy
          go_wp2
          go_region
          all_goals (
            go_wp2
            go_roundg k
            case measure => omega
            case rel =>
              obtain ⟨hR, hS, hn, hm, hx, hy, hl1, hl2, f1, f2⟩ := HR.out
              refine ⟨by omega, by first | go_num | (congr 1; omega), HB.out.drew, ?_⟩
              have h := HA.out
              obtain ⟨r, hr⟩ : ∃ r, k0 - k = r + 1 := ⟨k0 - (k + 1), by omega⟩
              rw [show k0 - (k + 1) = r by omega] at h
              rw [Aside, hr, sg_front xs k r (by omega), sg_front ys k r (by omega), h, HX.out.1, HX.out.2])
        · have hne : ((x : Int) == (y : Int)) = false := by simp; omega
          have hki : (k : Int) < (k0 : Int) := by omega
          have hki0 : 0 ≤ (k : Int) := by omega
          have hki2 : k < k0 := by omega
          go_wp2
          go_region
          all_goals (
            go_wp2
            go_region_with (go_at_call 201; refine (compare_u x y _).mono ?_; rintro r w2 ⟨rfl, rfl⟩))
          all_goals (
            go_wp2
            go_ret
            obtain ⟨hR, hS, hn, hm, hx, hy, hl1, hl2, f1, f2⟩ := HR.out
            have h := HA.out
            have e : cmpI (val xs) (val ys) = cmpI x y := by
              rw [← f1, ← f2]
              have hk2 : k + 1 + (k0 - (k + 1)) = k0 := by omega
              have t1 := cmp_words xs ys hx hy k (k0 - (k + 1)) (by omega) (by omega) h
              have t2 := cmp_words ys xs hy hx k (k0 - (k + 1)) (by omega) (by omega) h.symm
              rw [hk2, HX.out.1, HX.out.2] at t1 t2
              apply cmpI_congr <;> omega
            rw [e]
            exact ⟨rfl, by first | exact HB.out.drew.drew | exact HB.out.drew | skip⟩)
  · have e : cmpI (val xs) (val ys) = cmpI (nl xs) (nl ys) := by
      rcases Nat.lt_or_gt_of_ne he with h | h
      · rw [cmpI_lt h, cmpI_lt (cmp_len xs ys hx hy h)]
      · rw [cmpI_gt h, cmpI_gt (cmp_len ys xs hy hx h)]
    rw [e]
    obtain ⟨k1, hk1⟩ : ∃ k, nl xs = k := ⟨_, rfl⟩
    obtain ⟨k2, hk2⟩ : ∃ k, nl ys = k := ⟨_, rfl⟩
    rw [hk1] at H1 he ⊢
    rw [hk2] at H2 he ⊢
    have hne : ((k1 : Int) == (k2 : Int)) = false := by simp; omega
    have hne2 : ¬ (k1 : Int) = (k2 : Int) := by omega
    have H3 := hid (compare_i k1 k2 w)
    clear hR hS hn hm hx hy hl1 hl2 f1 f2 hk1 hk2 e he
    go_enter Tryz.func174, Tryz.ntmps174
    go_wp2_with fail
    refine (Calls.mono H1.out) ?_
    rintro r w1 ⟨rfl, rfl⟩
    go_wp2_with fail
    refine (Calls.mono H2.out) ?_
    rintro r w1 ⟨rfl, rfl⟩
    go_wp2_with fail
    refine (Calls.mono H3.out) ?_
    rintro r w1 ⟨rfl, rfl⟩
    go_wp2
    go_ret
    exact ⟨rfl, Below.refl _ _⟩

end Go.Proofs.YtnnlicahgdcbdaaGreatDoor

/- Add, Sub. -/
namespace Go.Proofs.YtnnlicahgdcbdaaGreatDoor
open Go.RowKit
set_option linter.unusedVariables false
set_option maxRecDepth 20000

/-- Is a number long? -/
abbrev LG (X : Nat) : Prop := 8192 < (ws X).length
/-- What is answered: a number, an error. -/
def addS (X Y : Nat) : Nat × Int := if LG (X + Y) then (0, 2) else (X + Y, 0)
def subS (X Y : Nat) : Nat × Int := if LG X ∨ LG Y then (0, 2) else if X < Y then (0, 20) else (X - Y, 0)
def mulS (X Y : Nat) : Nat × Int := if LG X ∨ LG Y then (0, 2) else if LG (X * Y) then (0, 2) else (X * Y, 0)
def shiftS (X : Nat) (by' : Int) : Nat × Int := if LG X then (0, 2) else if X = 0 then (0, 0) else if by' < 0 then (X / 2 ^ (-by').toNat, 0) else if 262144 - (bl X : Int) < by' then (0, 2) else (X * 2 ^ by'.toNat, 0)

/-- A Nat in new memory, and an error. -/
def One (lo : Nat) (w : World) (r : Ending) (a : Nat × Int) : Prop := ∃ v, r = .returned (.tuple #[v, .int .i64 a.2]) ∧ Nt lo w v a.1

theorem trimX (xs : List Nat) (ao : Option Addr) (n cap B : Nat) (w : World) (hn : n = xs.length) (hc : n ≤ cap) (hm : n ≤ 70368744177664) (hx : Wf xs) (hR : Rd B w ao xs) :
    (Calls Tryz.prog 167 #[.slice ao n cap] w fun r w' => r = .returned (.slice ao (ws (val xs)).length cap) ∧ w' = w) ∧ Rd B w ao (ws (val xs)) ∧ (ws (val xs)).length ≤ n := by
  have T := trim_any xs ao n cap B w hn hc (by omega) hR
  have hl := nl_le xs
  have hf := form_eq xs hx
  have hlen := nl_eq_length xs hx
  rw [hlen] at T hl hf
  exact ⟨T, by rw [← hf]; exact hR.take _, by omega⟩

set_option maxHeartbeats 2000000 in
theorem Add_any (xs ys : List Nat) (ao bo : Option Addr) (n cap m capb B : Nat) (w : World) (hn : n = xs.length) (hm : m = ys.length) (hc : n ≤ cap) (hcb : m ≤ capb) (hbig : n ≤ 35184372088833) (hbig2 : m ≤ 35184372088833)
    (hx : Wf xs) (hy : Wf ys) (hR : Rd B w ao xs) (hS : Rd B w bo ys) (hB : B ≤ w.heap.size) :
    Calls Tryz.prog 173 #[.slice ao n cap, .slice bo m capb] w fun r w' => One w.heap.size w' r (addS (val xs) (val ys)) ∧ Below w.heap.size w w' := by
  obtain ⟨T1, hRX, hl1⟩ := trimX xs ao n cap B w hn hc (by omega) hx hR
  obtain ⟨T2, hRY, hl2⟩ := trimX ys bo m capb B w hm hcb (by omega) hy hS
  generalize val xs = X at *
  generalize val ys = Y at *
  have A0 := add_any (ws X) (ws Y) ao bo _ cap _ capb B w rfl rfl (by omega) (by omega) (by omega) (by omega) (wf_ws X) (wf_ws Y) hRX hRY hB
  rw [val_ws, val_ws] at A0
  have H1 := (hid T1)
  have H2 := (hid T2)
  have H3 := (hid A0)
  clear T1 T2 A0 hRX hRY hn hm hx hy hR hS hl1 hl2
  go_enter Tryz.func173, Tryz.ntmps173
  go_wp2_with fail
  refine (Calls.mono H1.out) ?_
  rintro r w1 ⟨rfl, rfl⟩
  go_wp2_with fail
  refine (Calls.mono H2.out) ?_
  rintro r w1 ⟨rfl, rfl⟩
  go_wp2_with fail
  refine (Calls.mono H3.out) ?_
  rintro r w2 ⟨v, rfl, hN, hb⟩
  obtain ⟨av, cv, rfl, hcv, hcm, hRv⟩ := hN.shape
  have U0 := unlessLong_any (ws (X + Y)).length av cv w2
  have HN := (Aside.intro (And.intro hN hb))
  clear H1 H2 H3 hN hb hRv
  by_cases hL : LG (X + Y)
  · rw [if_pos (show 8192 < (ws (X + Y)).length from hL)] at U0
    have U := (hid U0)
    clear U0
    go_wp2_with fail
    refine (Calls.mono U.out) ?_
    rintro r w3 ⟨rfl, rfl⟩
    go_wp2
    go_ret2
    rw [show addS X Y = (0, 2) by simp [addS, hL]]
    exact ⟨⟨_, rfl, Nt.nil _ _⟩, HN.out.2⟩
  · rw [if_neg (show ¬ 8192 < (ws (X + Y)).length from hL)] at U0
    have U := (hid U0)
    clear U0
    go_wp2_with fail
    refine (Calls.mono U.out) ?_
    rintro r w3 ⟨rfl, rfl⟩
    go_wp2
    go_ret2
    rw [show addS X Y = (X + Y, 0) by simp [addS, hL]]
    exact ⟨⟨_, rfl, HN.out.1⟩, HN.out.2⟩

theorem longb (n : Nat) (ao : Option Addr) (cap : Nat) (w : World) (b : Bool) (hb : decide (8192 < n) = b) :
    Calls Tryz.prog 168 #[.slice ao n cap] w fun r w' => r = .returned (.bool b) ∧ w' = w := by
  have h := long_any n ao cap w
  have e : decide ((8192 : Int) < (n : Int)) = b := by rw [← hb]; simp only [decide_eq_decide]; omega
  rw [e] at h
  exact h

set_option maxHeartbeats 2000000 in
theorem Sub_any (xs ys : List Nat) (ao bo : Option Addr) (n cap m capb B : Nat) (w : World) (hn : n = xs.length) (hm : m = ys.length) (hc : n ≤ cap) (hcb : m ≤ capb) (hbig : n ≤ 35184372088833) (hbig2 : m ≤ 35184372088833)
    (hx : Wf xs) (hy : Wf ys) (hR : Rd B w ao xs) (hS : Rd B w bo ys) (hB : B ≤ w.heap.size) :
    Calls Tryz.prog 175 #[.slice ao n cap, .slice bo m capb] w fun r w' => One w.heap.size w' r (subS (val xs) (val ys)) ∧ Below w.heap.size w w' := by
  obtain ⟨T1, hRX, hl1⟩ := trimX xs ao n cap B w hn hc (by omega) hx hR
  obtain ⟨T2, hRY, hl2⟩ := trimX ys bo m capb B w hm hcb (by omega) hy hS
  generalize val xs = X at *
  generalize val ys = Y at *
  have H1 := (hid T1)
  have H2 := (hid T2)
  have HR := (Aside.intro (And.intro hRX (And.intro hRY (And.intro hl1 hl2))))
  clear T1 T2 hRX hRY hn hm hx hy hR hS hl1 hl2
  by_cases hLX : LG X
  · have L := hid (longb (ws X).length ao cap w true (by simpa [LG] using hLX))
    have e : subS X Y = (0, 2) := by simp [subS, hLX]
    rw [e]
    clear e hLX HR
    go_enter Tryz.func175, Tryz.ntmps175
    go_wp2_with fail
    refine (Calls.mono H1.out) ?_
    rintro r w1 ⟨rfl, rfl⟩
    go_wp2_with fail
    refine (Calls.mono H2.out) ?_
    rintro r w1 ⟨rfl, rfl⟩
    go_wp2_with fail
    refine (Calls.mono L.out) ?_
    rintro r w1 ⟨rfl, rfl⟩
    go_wp2
    go_ret2
    exact ⟨⟨_, rfl, Nt.nil _ _⟩, Below.refl _ _⟩
  · have L := hid (longb (ws X).length ao cap w false (by simpa [LG] using hLX))
    by_cases hLY : LG Y
    · have L2 := hid (longb (ws Y).length bo capb w true (by simpa [LG] using hLY))
      have e : subS X Y = (0, 2) := by simp [subS, hLY]
      rw [e]
      clear e hLX hLY HR
      go_enter Tryz.func175, Tryz.ntmps175
      go_wp2_with fail
      refine (Calls.mono H1.out) ?_
      rintro r w1 ⟨rfl, rfl⟩
      go_wp2_with fail
      refine (Calls.mono H2.out) ?_
      rintro r w1 ⟨rfl, rfl⟩
      go_wp2_with fail
      refine (Calls.mono L.out) ?_
      rintro r w1 ⟨rfl, rfl⟩
      go_wp2_with fail
      refine (Calls.mono L2.out) ?_
      rintro r w1 ⟨rfl, rfl⟩
      go_wp2
      go_ret2
      exact ⟨⟨_, rfl, Nt.nil _ _⟩, Below.refl _ _⟩
    · have L2 := hid (longb (ws Y).length bo capb w false (by simpa [LG] using hLY))
      obtain ⟨hRX, hRY, hl1, hl2⟩ := HR.out
      have C0 := cmp_any (ws X) (ws Y) ao bo _ cap _ capb B w rfl rfl (by omega) (by omega) (by omega) (by omega) (wf_ws X) (wf_ws Y) hRX hRY
      rw [val_ws, val_ws] at C0
      by_cases hlt : X < Y
      · rw [cmpI_lt hlt] at C0
        have C := hid C0
        have e : subS X Y = (0, 20) := by simp [subS, hLX, hLY, hlt]
        rw [e]
        clear e hLX hLY HR C0 hlt hRX hRY hl1 hl2
        go_enter Tryz.func175, Tryz.ntmps175
        go_wp2_with fail
        refine (Calls.mono H1.out) ?_
        rintro r w1 ⟨rfl, rfl⟩
        go_wp2_with fail
        refine (Calls.mono H2.out) ?_
        rintro r w1 ⟨rfl, rfl⟩
        go_wp2_with fail
        refine (Calls.mono L.out) ?_
        rintro r w1 ⟨rfl, rfl⟩
        go_wp2_with fail
        refine (Calls.mono L2.out) ?_
        rintro r w1 ⟨rfl, rfl⟩
        go_wp2_with fail
        refine (Calls.mono C.out) ?_
        rintro r w2 ⟨rfl, hb⟩
        have HB := (Aside.intro hb)
        clear hb
        go_wp2
        go_ret2
        exact ⟨⟨_, rfl, Nt.nil _ _⟩, HB.out⟩
      · have hc1 : 0 ≤ cmpI X Y := by unfold cmpI; rw [if_neg hlt]; split <;> omega
        obtain ⟨cc, hcc⟩ : ∃ cc, cmpI X Y = cc := ⟨_, rfl⟩
        rw [hcc] at C0 hc1
        have C := hid C0
        have e : subS X Y = (X - Y, 0) := by simp [subS, hLX, hLY, hlt]
        rw [e]
        have HL := (Aside.intro hlt)
        clear e hLX hLY C0 hlt hRX hRY hl1 hl2 hcc
        go_enter Tryz.func175, Tryz.ntmps175
        go_wp2_with fail
        refine (Calls.mono H1.out) ?_
        rintro r w1 ⟨rfl, rfl⟩
        go_wp2_with fail
        refine (Calls.mono H2.out) ?_
        rintro r w1 ⟨rfl, rfl⟩
        go_wp2_with fail
        refine (Calls.mono L.out) ?_
        rintro r w1 ⟨rfl, rfl⟩
        go_wp2_with fail
        refine (Calls.mono L2.out) ?_
        rintro r w1 ⟨rfl, rfl⟩
        go_wp2_with fail
        refine (Calls.mono C.out) ?_
        rintro r w2 ⟨rfl, hb⟩
        obtain ⟨hRX, hRY, hl1, hl2⟩ := HR.out
        have hs := hb.size
        have S0 := sub_any (ws X) (ws Y) ao bo _ cap _ capb B w2 rfl rfl (ws_len_mono (by have := HL.out; omega)) (by omega) (by omega) (by omega) (wf_ws X) (wf_ws Y) (by rw [val_ws, val_ws]; have := HL.out; omega) (hRX.below (hb.mono hB)) (hRY.below (hb.mono hB)) (by omega)
        rw [val_ws, val_ws] at S0
        have S := hid S0
        have HB := (Aside.intro (And.intro hb hs))
        clear hb hRX hRY hl1 hl2 S0 hs C
        go_wp2_with fail
        refine (Calls.mono S.out) ?_
        rintro r w3 ⟨v, rfl, hN, hb2⟩
        have HN := (Aside.intro (And.intro hN hb2))
        clear hN hb2 S
        go_wp2
        go_ret2
        obtain ⟨hb, hs⟩ := HB.out
        exact ⟨⟨_, rfl, HN.out.1.mono hs⟩, hb.trans (HN.out.2.mono hs)⟩
end Go.Proofs.YtnnlicahgdcbdaaGreatDoor

/- Mul, Div. -/
namespace Go.Proofs.YtnnlicahgdcbdaaGreatDoor
open Go.RowKit
set_option linter.unusedVariables false
set_option maxRecDepth 20000

set_option maxHeartbeats 2000000 in
theorem Mul_any (xs ys : List Nat) (ao bo : Option Addr) (n cap m capb B : Nat) (w : World) (hn : n = xs.length) (hm : m = ys.length) (hc : n ≤ cap) (hcb : m ≤ capb) (hbig : n ≤ 35184372088833) (hbig2 : m ≤ 35184372088833)
    (hx : Wf xs) (hy : Wf ys) (hR : Rd B w ao xs) (hS : Rd B w bo ys) (hB : B ≤ w.heap.size) :
    Calls Tryz.prog 140 #[.slice ao n cap, .slice bo m capb] w fun r w' => One w.heap.size w' r (mulS (val xs) (val ys)) ∧ Below w.heap.size w w' := by
  obtain ⟨T1, hRX, hl1⟩ := trimX xs ao n cap B w hn hc (by omega) hx hR
  obtain ⟨T2, hRY, hl2⟩ := trimX ys bo m capb B w hm hcb (by omega) hy hS
  generalize val xs = X at *
  generalize val ys = Y at *
  have H1 := (hid T1)
  have H2 := (hid T2)
  have HR := (Aside.intro (And.intro hRX (And.intro hRY (And.intro hl1 hl2))))
  clear T1 T2 hRX hRY hn hm hx hy hR hS hl1 hl2
  by_cases hLX : LG X
  · have L := hid (longb (ws X).length ao cap w true (by simpa [LG] using hLX))
    have e : mulS X Y = (0, 2) := by simp [mulS, hLX]
    rw [e]
    clear e hLX HR
    go_enter Tryz.func140, Tryz.ntmps140
    go_wp2_with fail
    refine (Calls.mono H1.out) ?_
    rintro r w1 ⟨rfl, rfl⟩
    go_wp2_with fail
    refine (Calls.mono H2.out) ?_
    rintro r w1 ⟨rfl, rfl⟩
    go_wp2_with fail
    refine (Calls.mono L.out) ?_
    rintro r w1 ⟨rfl, rfl⟩
    go_wp2
    go_ret2
    exact ⟨⟨_, rfl, Nt.nil _ _⟩, Below.refl _ _⟩
  · have L := hid (longb (ws X).length ao cap w false (by simpa [LG] using hLX))
    by_cases hLY : LG Y
    · have L2 := hid (longb (ws Y).length bo capb w true (by simpa [LG] using hLY))
      have e : mulS X Y = (0, 2) := by simp [mulS, hLY]
      rw [e]
      clear e hLX hLY HR
      go_enter Tryz.func140, Tryz.ntmps140
      go_wp2_with fail
      refine (Calls.mono H1.out) ?_
      rintro r w1 ⟨rfl, rfl⟩
      go_wp2_with fail
      refine (Calls.mono H2.out) ?_
      rintro r w1 ⟨rfl, rfl⟩
      go_wp2_with fail
      refine (Calls.mono L.out) ?_
      rintro r w1 ⟨rfl, rfl⟩
      go_wp2_with fail
      refine (Calls.mono L2.out) ?_
      rintro r w1 ⟨rfl, rfl⟩
      go_wp2
      go_ret2
      exact ⟨⟨_, rfl, Nt.nil _ _⟩, Below.refl _ _⟩
    · have L2 := hid (longb (ws Y).length bo capb w false (by simpa [LG] using hLY))
      have hz1 : (ws X).length = 0 → X = 0 := (ws_len_zero X).1
      have hz2 : (ws Y).length = 0 → Y = 0 := (ws_len_zero Y).1
      by_cases h1 : (ws X).length = 0
      · have e : mulS X Y = (0, 0) := by
          have := hz1 h1; subst this
          unfold mulS
          rw [if_neg (by simp [hLX, hLY]), Nat.zero_mul, if_neg hLX]
        rw [e]
        have hh := hid h1
        rw [h1] at H1 L
        have h1b : ((ws X).length : Int) = 0 := by omega
        clear e hLX hLY HR hz1 hz2 h1 h1b hh
        go_enter Tryz.func140, Tryz.ntmps140
        go_wp2_with fail
        refine (Calls.mono H1.out) ?_
        rintro r w1 ⟨rfl, rfl⟩
        go_wp2_with fail
        refine (Calls.mono H2.out) ?_
        rintro r w1 ⟨rfl, rfl⟩
        go_wp2_with fail
        refine (Calls.mono L.out) ?_
        rintro r w1 ⟨rfl, rfl⟩
        go_wp2_with fail
        refine (Calls.mono L2.out) ?_
        rintro r w1 ⟨rfl, rfl⟩
        go_wp2
        go_ret2
        exact ⟨⟨_, rfl, Nt.nil _ _⟩, Below.refl _ _⟩
      · by_cases h2 : (ws Y).length = 0
        · have e : mulS X Y = (0, 0) := by
            have := hz2 h2; subst this
            unfold mulS
            rw [if_neg (by simp [hLX, hLY]), Nat.mul_zero, if_neg hLY]
          rw [e]
          rw [h2] at H2 L2
          obtain ⟨k1, hk1⟩ : ∃ k, (ws X).length = k := ⟨_, rfl⟩
          rw [hk1] at H1 L h1
          have h1b : ((k1 : Int) == 0) = false := by simp; omega
          clear e hLX hLY HR hz1 hz2 h2 hk1
          go_enter Tryz.func140, Tryz.ntmps140
          go_wp2_with fail
          refine (Calls.mono H1.out) ?_
          rintro r w1 ⟨rfl, rfl⟩
          go_wp2_with fail
          refine (Calls.mono H2.out) ?_
          rintro r w1 ⟨rfl, rfl⟩
          go_wp2_with fail
          refine (Calls.mono L.out) ?_
          rintro r w1 ⟨rfl, rfl⟩
          go_wp2_with fail
          refine (Calls.mono L2.out) ?_
          rintro r w1 ⟨rfl, rfl⟩
          go_wp2
          go_ret2
          exact ⟨⟨_, rfl, Nt.nil _ _⟩, Below.refl _ _⟩
        · have hX0 : X ≠ 0 := fun e => h1 ((ws_len_zero X).2 e)
          have hY0 : Y ≠ 0 := fun e => h2 ((ws_len_zero Y).2 e)
          have hlow : pw ((ws X).length + (ws Y).length - 2) ≤ X * Y := by
            have a := Nat.mul_le_mul (ws_len_ge X hX0) (ws_len_ge Y hY0)
            rw [← pw_add] at a
            rw [show (ws X).length + (ws Y).length - 2 = (ws X).length - 1 + ((ws Y).length - 1) by omega]; exact a
          obtain ⟨hRX, hRY, hl1, hl2⟩ := HR.out
          have M0 := mul_any (ws X) (ws Y) ao bo _ cap _ capb B w rfl rfl (by omega) (by omega) (by unfold LG at hLX hLY; omega) (wf_ws X) (wf_ws Y) hRX hRY hB
          rw [val_ws, val_ws] at M0
          have hsmall1 : (ws X).length ≤ 8192 := by unfold LG at hLX; omega
          have hsmall2 : (ws Y).length ≤ 8192 := by unfold LG at hLY; omega
          obtain ⟨k1, hk1⟩ : ∃ k, (ws X).length = k := ⟨_, rfl⟩
          obtain ⟨k2, hk2⟩ : ∃ k, (ws Y).length = k := ⟨_, rfl⟩
          rw [hk1] at H1 L h1 M0 hlow hsmall1
          rw [hk2] at H2 L2 h2 M0 hlow hsmall2
          have h1b : ((k1 : Int) == 0) = false := by simp; omega
          have h2b : ((k2 : Int) == 0) = false := by simp; omega
          by_cases h3 : 8192 < k1 + k2 - 1
          · have hLG : LG (X * Y) := by
              unfold LG
              by_cases h4 : (ws (X * Y)).length ≤ 8192
              · have := (ws_len_le _ _).1 h4
                have := pw_mono (show 8192 ≤ k1 + k2 - 2 by omega)
                omega
              · omega
            have e : mulS X Y = (0, 2) := by simp [mulS, hLG]
            rw [e]
            have h3i : (8192 : Int) < (k1 : Int) + (k2 : Int) - 1 := by omega
            clear e hLX hLY HR hz1 hz2 hk1 hk2 hRX hRY hl1 hl2 M0 hX0 hY0 hlow hLG h3
            go_enter Tryz.func140, Tryz.ntmps140
            go_wp2_with fail
            refine (Calls.mono H1.out) ?_
            rintro r w1 ⟨rfl, rfl⟩
            go_wp2_with fail
            refine (Calls.mono H2.out) ?_
            rintro r w1 ⟨rfl, rfl⟩
            go_wp2_with fail
            refine (Calls.mono L.out) ?_
            rintro r w1 ⟨rfl, rfl⟩
            go_wp2_with fail
            refine (Calls.mono L2.out) ?_
            rintro r w1 ⟨rfl, rfl⟩
            go_wp2
            go_ret2
            exact ⟨⟨_, rfl, Nt.nil _ _⟩, Below.refl _ _⟩
          · have h3i : (k1 : Int) + (k2 : Int) - 1 ≤ 8192 := by omega
            have h3b : decide ((8192 : Int) < (k1 : Int) + (k2 : Int) - 1) = false := decide_eq_false (by omega)
            have M := hid M0
            have HL := (Aside.intro (And.intro hLX hLY))
            clear hLX hLY HR hz1 hz2 hk1 hk2 hRX hRY hl1 hl2 M0 hX0 hY0 hlow h3
            go_enter Tryz.func140, Tryz.ntmps140
            go_wp2_with fail
            refine (Calls.mono H1.out) ?_
            rintro r w1 ⟨rfl, rfl⟩
            go_wp2_with fail
            refine (Calls.mono H2.out) ?_
            rintro r w1 ⟨rfl, rfl⟩
            go_wp2_with fail
            refine (Calls.mono L.out) ?_
            rintro r w1 ⟨rfl, rfl⟩
            go_wp2_with fail
            refine (Calls.mono L2.out) ?_
            rintro r w1 ⟨rfl, rfl⟩
            go_wp2_with fail
            refine (Calls.mono M.out) ?_
            rintro r w2 ⟨v, rfl, hN, hb⟩
            obtain ⟨av, cv, rfl, hcv, hcm, hRv⟩ := hN.shape
            have U0 := unlessLong_any (ws (X * Y)).length av cv w2
            have HN := (Aside.intro (And.intro hN hb))
            clear M hN hb hRv
            by_cases hL : LG (X * Y)
            · rw [if_pos (show 8192 < (ws (X * Y)).length from hL)] at U0
              have U := (hid U0)
              clear U0
              go_wp2_with fail
              refine (Calls.mono U.out) ?_
              rintro r w3 ⟨rfl, rfl⟩
              go_wp2
              go_ret2
              rw [show mulS X Y = (0, 2) by simp [mulS, hL]]
              exact ⟨⟨_, rfl, Nt.nil _ _⟩, HN.out.2⟩
            · rw [if_neg (show ¬ 8192 < (ws (X * Y)).length from hL)] at U0
              have U := (hid U0)
              clear U0
              go_wp2_with fail
              refine (Calls.mono U.out) ?_
              rintro r w3 ⟨rfl, rfl⟩
              go_wp2
              go_ret2
              rw [show mulS X Y = (X * Y, 0) by simp [mulS, HL.out.1, HL.out.2, hL]]
              exact ⟨⟨_, rfl, HN.out.1⟩, HN.out.2⟩

end Go.Proofs.YtnnlicahgdcbdaaGreatDoor

/- Shift. -/
namespace Go.Proofs.YtnnlicahgdcbdaaGreatDoor
open Go.RowKit
set_option linter.unusedVariables false
set_option maxRecDepth 20000

theorem bl_le_words (X k : Nat) (h : X < pw k) : bl X ≤ 32 * k := by
  by_cases h0 : X = 0
  · subst h0; rw [bl_zero]; omega
  · have h1 := bl_ge X h0
    have h3 : pw k = 2 ^ (32 * k) := by rw [← Nat.add_zero (32 * k), pw_two]; simp
    rw [h3] at h
    have := (Nat.pow_lt_pow_iff_right (a := 2) (by decide)).1 (Nat.lt_of_le_of_lt h1 h)
    omega

theorem bl_small (X : Nat) (h : ¬ LG X) : bl X ≤ 262144 :=
  bl_le_words X 8192 ((ws_len_le X 8192).1 (by unfold LG at h; omega))

set_option maxHeartbeats 2000000 in
theorem Shift_any (xs : List Nat) (ao : Option Addr) (n cap B : Nat) (by' : Int) (w : World) (hn : n = xs.length) (hc : n ≤ cap) (hbig : n ≤ 35184372088833)
    (hx : Wf xs) (hR : Rd B w ao xs) (hB : B ≤ w.heap.size) (hb0 : -9223372036854775808 ≤ by') (hb1 : by' ≤ 9223372036854775807) :
    Calls Tryz.prog 121 #[.slice ao n cap, .int .i64 by'] w fun r w' => One w.heap.size w' r (shiftS (val xs) by') ∧ Below w.heap.size w w' := by
  obtain ⟨T1, hRX, hl1⟩ := trimX xs ao n cap B w hn hc (by omega) hx hR
  generalize val xs = X at *
  have N0 := len_any (ws X) ao _ cap B w rfl (by omega) (by omega) (wf_ws X) hRX
  rw [val_ws] at N0
  have H1 := (hid T1)
  have H2 := (hid N0)
  have HR := (Aside.intro (And.intro hRX hl1))
  clear T1 N0 hRX hn hx hR hl1
  by_cases hLX : LG X
  · have L := hid (longb (ws X).length ao cap w true (by simpa [LG] using hLX))
    have e : shiftS X by' = (0, 2) := by simp [shiftS, hLX]
    rw [e]
    clear e hLX HR
    generalize bl X = c at *
    go_enter Tryz.func121, Tryz.ntmps121
    go_wp2_with fail
    refine (Calls.mono H1.out) ?_
    rintro r w1 ⟨rfl, rfl⟩
    go_wp2_with fail
    refine (Calls.mono H2.out) ?_
    rintro r w1 ⟨rfl, rfl⟩
    go_wp2_with fail
    refine (Calls.mono L.out) ?_
    rintro r w1 ⟨rfl, rfl⟩
    go_wp2
    go_ret2
    exact ⟨⟨_, rfl, Nt.nil _ _⟩, Below.refl _ _⟩
  · have L := hid (longb (ws X).length ao cap w false (by simpa [LG] using hLX))
    have hbs := bl_small X hLX
    obtain ⟨c, hcc⟩ : ∃ c, bl X = c := ⟨_, rfl⟩
    by_cases h0 : X = 0
    · have e : shiftS X by' = (0, 0) := by unfold shiftS; rw [if_neg hLX, if_pos h0]
      rw [e]
      subst h0
      rw [ws_zero] at H1 H2 L
      rw [bl_zero] at H2
      clear e hLX HR hbs hcc
      go_enter Tryz.func121, Tryz.ntmps121
      go_wp2_with fail
      refine (Calls.mono H1.out) ?_
      rintro r w1 ⟨rfl, rfl⟩
      go_wp2_with fail
      refine (Calls.mono H2.out) ?_
      rintro r w1 ⟨rfl, rfl⟩
      go_wp2_with fail
      refine (Calls.mono L.out) ?_
      rintro r w1 ⟨rfl, rfl⟩
      go_wp2
      go_ret2
      exact ⟨⟨_, rfl, Nt.nil _ _⟩, Below.refl _ _⟩
    · have hcp := bl_pos X h0
      have hlt := bl_lt X
      rw [hcc] at hcp hbs H2 hlt
      have hcne : ((c : Int) == 0) = false := by simp; omega
      by_cases hneg : by' < 0
      · obtain ⟨d, hd⟩ : ∃ d : Nat, (d : Int) = -by' := ⟨(-by').toNat, by omega⟩
        have e : shiftS X by' = (X / 2 ^ d, 0) := by
          unfold shiftS; rw [if_neg hLX, if_neg h0, if_pos hneg, ← hd, Int.toNat_natCast]
        rw [e]
        by_cases hbig2 : by' ≤ -(c : Int)
        · have e2 : X / 2 ^ d = 0 := Nat.div_eq_of_lt (Nat.lt_of_lt_of_le hlt (Nat.pow_le_pow_right (by decide) (by omega)))
          rw [e2]
          clear e e2 hLX HR hcc hlt hd h0
          go_enter Tryz.func121, Tryz.ntmps121
          go_wp2_with fail
          refine (Calls.mono H1.out) ?_
          rintro r w1 ⟨rfl, rfl⟩
          go_wp2_with fail
          refine (Calls.mono H2.out) ?_
          rintro r w1 ⟨rfl, rfl⟩
          go_wp2_with fail
          refine (Calls.mono L.out) ?_
          rintro r w1 ⟨rfl, rfl⟩
          go_wp2
          go_ret2
          exact ⟨⟨_, rfl, Nt.nil _ _⟩, Below.refl _ _⟩
        · obtain ⟨hRX, hl1⟩ := HR.out
          have D0 := down_any (ws X) ao _ cap B d (d / 32) (d % 32) w rfl (by omega) (by omega) (by omega) (by omega) (by omega) (wf_ws X) hRX hB
          rw [val_ws] at D0
          have D := hid D0
          have hgt : -(c : Int) < by' := by omega
          have hd' : -by' = (d : Int) := hd.symm
          clear e hLX HR hcc hlt h0 hRX hl1 D0 hbig2 hd
          go_enter Tryz.func121, Tryz.ntmps121
          go_wp2_with fail
          refine (Calls.mono H1.out) ?_
          rintro r w1 ⟨rfl, rfl⟩
          go_wp2_with fail
          refine (Calls.mono H2.out) ?_
          rintro r w1 ⟨rfl, rfl⟩
          go_wp2_with fail
          refine (Calls.mono L.out) ?_
          rintro r w1 ⟨rfl, rfl⟩
          go_wp2_with fail
          try rw [hd']
          refine (Calls.mono D.out) ?_
          rintro r w2 ⟨v, rfl, hN, hb⟩
          have HN := (Aside.intro (And.intro hN hb))
          clear hN hb D
          go_wp2
          go_ret2
          exact ⟨⟨_, rfl, HN.out.1⟩, HN.out.2⟩
      · obtain ⟨d, rfl⟩ : ∃ d : Nat, by' = (d : Int) := ⟨by'.toNat, by omega⟩
        by_cases hover : 262144 - (c : Int) < (d : Int)
        · have e : shiftS X (d : Int) = (0, 2) := by unfold shiftS; rw [if_neg hLX, if_neg h0, if_neg hneg, hcc, if_pos hover]
          rw [e]
          clear e hLX HR hcc hlt h0 hneg
          go_enter Tryz.func121, Tryz.ntmps121
          go_wp2_with fail
          refine (Calls.mono H1.out) ?_
          rintro r w1 ⟨rfl, rfl⟩
          go_wp2_with fail
          refine (Calls.mono H2.out) ?_
          rintro r w1 ⟨rfl, rfl⟩
          go_wp2_with fail
          refine (Calls.mono L.out) ?_
          rintro r w1 ⟨rfl, rfl⟩
          go_wp2
          go_ret2
          exact ⟨⟨_, rfl, Nt.nil _ _⟩, Below.refl _ _⟩
        · have e : shiftS X (d : Int) = (X * 2 ^ d, 0) := by unfold shiftS; rw [if_neg hLX, if_neg h0, if_neg hneg, hcc, if_neg hover, Int.toNat_natCast]
          rw [e]
          obtain ⟨hRX, hl1⟩ := HR.out
          have D0 := up_any (ws X) ao _ cap B d (d / 32) (d % 32) w rfl (by omega) (by omega) (by omega) (by unfold LG at hLX; omega) (wf_ws X) hRX hB
          rw [val_ws] at D0
          have D := hid D0
          have hle : (d : Int) ≤ 262144 - (c : Int) := by omega
          have hleb : decide (262144 - (c : Int) < (d : Int)) = false := decide_eq_false (by omega)
          clear e hLX HR hcc hlt h0 hRX hl1 D0 hover hneg
          go_enter Tryz.func121, Tryz.ntmps121
          go_wp2_with fail
          refine (Calls.mono H1.out) ?_
          rintro r w1 ⟨rfl, rfl⟩
          go_wp2_with fail
          refine (Calls.mono H2.out) ?_
          rintro r w1 ⟨rfl, rfl⟩
          go_wp2_with fail
          refine (Calls.mono L.out) ?_
          rintro r w1 ⟨rfl, rfl⟩
          go_wp2_with fail
          refine (Calls.mono D.out) ?_
          rintro r w2 ⟨v, rfl, hN, hb⟩
          have HN := (Aside.intro (And.intro hN hb))
          clear hN hb D
          go_wp2
          go_ret2
          exact ⟨⟨_, rfl, HN.out.1⟩, HN.out.2⟩
end Go.Proofs.YtnnlicahgdcbdaaGreatDoor

/- The document's Norm, Len; Formed; pick, few. -/
namespace Go.Proofs.YtnnlicahgdcbdaaGreatDoor
open Go.RowKit
set_option linter.unusedVariables false
set_option maxRecDepth 20000

theorem append_words (w : World) (lo : Nat) (v : Value) (n : Nat) (xs src : List Nat) (ao : Option Addr) (m c B : Nat) (ty : TypeId) (hown : w.ownsRow lo 86 1 v n (xs.map U)) (hm : m = src.length) (hR : Rd B w ao src)
    (hnil : ao = none → c = 0) (hbig : n + m ≤ 35184372088832) (hlo : lo ≤ w.heap.size) :
    ∃ v' w', (Builtin.append_ #[31, 31] ty #[v, .slice ao m c]).run Tryz.prog w = .ok v' w' ∧ w'.ownsRow lo 86 1 v' (n + m) ((xs ++ src).map U) ∧ w.grownBy w' v.ownBlock := by
  obtain ⟨i0, hi, hz0, hz1, hz2⟩ := info_parts Tryz.info86
  subst hm
  rcases hao : ao with _ | a
  · have h0 : src = [] := by
      by_cases h : src = []
      · exact h
      · obtain ⟨b, off, _, e, _⟩ := hR h
        rw [hao] at e; cases e
    subst h0
    have hc := hnil hao
    subst hc
    exact ⟨v, w, run_append_owned_none (P := Tryz.prog) w lo 31 ty 86 i0 1 Tryz.underlying31 hi v n _ hown, by simpa using hown, World.grownBy.refl _ _⟩
  · obtain ⟨v', w', h1, h2, h3, _⟩ := run_append_own (P := Tryz.prog) w lo 31 ty 86 i0 (.int .u32 0) 1 4 Tryz.underlying31 hi hz0 hz1 hz2 rfl (by decide) v n (xs.map U) hown a src.length c (src.map U) (by simp) (by
      intro j u hj
      have hj2 : j < src.length := by have := (List.getElem?_eq_some_iff.1 hj).1; simpa using this
      obtain ⟨b, off, _, e, hc⟩ := hR (by intro e; subst e; simp at hj2)
      rw [hao] at e
      cases e
      have hadd : (⟨b, off, none⟩ : Addr).add j = ⟨b, off + j, none⟩ := by unfold Addr.add; split <;> simp_all
      rw [hadd, hc j hj2]
      simp [hj2, U] at hj
      simp [hj2, ← hj]) (by
      intro u hu
      obtain ⟨x, _, rfl⟩ := List.mem_map.1 hu
      rfl) (by unfold maxLen; omega) (by omega) hlo
    exact ⟨v', w', h1, by rw [List.map_append]; exact h2, h3⟩

/-- An append whose run is known, as a law for the walk. -/
theorem wpList_append_run {w : World} {ops : Array Oper} {rest : List Oper} {o : Oper} {a : Act} {Q : Exit → Act → World → Prop} (hgd : o.guard = none) (s x : Operand)
    (ho : o.op = .call { callee := .builtin .append, args := #[s, x], argTypes := #[31, 31] }) (v u : Value) (hs : a.eval s = v) (hx : a.eval x = u) (v' : Value) (w' : World)
    (hrun : (Builtin.append_ #[31, 31] o.type #[v, u]).run Tryz.prog w = .ok v' w') (h : wpList Tryz.prog ops Q rest (a.put o.dst v') w') : wpList Tryz.prog ops Q (o :: rest) a w := by
  refine wpList_plain hgd fun K hK => ?_
  unfold Oper.wp
  simp [execOp, ho, resolve, invoke, builtin, hs, hx, hrun, Result.andThen]
  exact hK _ _ h

set_option maxHeartbeats 1000000 in
theorem rNorm_any (xs : List Nat) (ao : Option Addr) (n cap B : Nat) (w : World) (hn : n = xs.length) (hc : n ≤ cap) (hm : n ≤ 35184372088832) (hx : Wf xs) (hR : Rd B w ao xs) (hnil : ao = none → cap = 0) :
    Calls Tryz.prog 116 #[.slice ao n cap] w fun r w' => ∃ v, r = .returned v ∧ Nt w.heap.size w' v (val xs) ∧ Below w.heap.size w w' := by
  have S := hid (size_any xs ao n cap B w hn (by omega) hR)
  have hl := nl_le xs
  have hf := form_eq xs hx
  obtain ⟨v', w', hap, hown, hgrow⟩ := append_words w w.heap.size (.slice none 0 0) 0 [] (xs.take (nl xs)) ao (nl xs) cap B 31 (World.ownsRow_nil _ _ _ _) (by rw [List.length_take]; omega) (hR.take _) hnil (by omega) (Nat.le_refl _)
  have hN : Nt w.heap.size w' v' (val xs) := by
    unfold Nt
    rw [← hf]
    simpa [Nat.min_eq_left hl] using hown
  have hb : Below w.heap.size w w' := (Below.refl _ _).grown hgrow (Nat.le_refl _) (fun k hk => by simp [Value.ownBlock] at hk)
  have HN := (Aside.intro (And.intro hN hb))
  obtain ⟨k, hk⟩ : ∃ k, nl xs = k := ⟨_, rfl⟩
  rw [hk] at S hap hl
  have hkn : k ≤ n := by omega
  have HZ : Aside (n = 0 → val xs = 0) := by intro h0; have : xs = [] := List.length_eq_zero_iff.1 (by omega); rw [this]; rfl
  clear hN hb hown hgrow hf hl hn hx hR hk
  rcases hao : ao with _ | a
  · have hc0 := hnil hao
    subst hc0
    subst hao
    obtain rfl : n = 0 := by omega
    obtain rfl : k = 0 := by omega
    go_enter Tryz.func116, Tryz.ntmps116
    go_wp2_with fail
    refine (Calls.mono S.out) ?_
    rintro r w1 ⟨rfl, rfl⟩
    go_wp2
    go_ret
    rw [HZ.out (by trivial)]
    exact ⟨_, rfl, Nt.nil _ _, Below.refl _ _⟩
  · subst hao
    go_enter Tryz.func116, Tryz.ntmps116
    go_wp2_with fail
    refine (Calls.mono S.out) ?_
    rintro r w1 ⟨rfl, rfl⟩
    have HAP := hid hap
    clear hap
    go_wp2_with (at_builtin; refine wpList_append_run rfl (.tmp 4) (.tmp 8) rfl _ _ rfl rfl _ _ HAP.out ?_)
    go_ret
    exact ⟨_, rfl, HN.out.1, HN.out.2⟩

theorem bl_half (x : Nat) (h : x ≠ 0) : bl x = bl (x / 2) + 1 := by
  by_cases h1 : x = 1
  · subst h1; decide
  · have hx2 : x / 2 ≠ 0 := by omega
    obtain ⟨c, hc⟩ : ∃ c, bl (x / 2) = c + 1 := ⟨bl (x / 2) - 1, by have := bl_pos _ hx2; omega⟩
    have a := bl_ge _ hx2
    have b := bl_lt (x / 2)
    rw [hc] at a b ⊢
    rw [Nat.add_sub_cancel] at a
    exact bl_eq x (c + 1) (by rw [Nat.pow_succ]; omega) (by rw [Nat.pow_succ]; omega)

set_option maxHeartbeats 1000000 in
theorem rLen_any (xs : List Nat) (ao : Option Addr) (n cap B : Nat) (w : World) (hn : n = xs.length) (hm : n ≤ 70368744177664) (hx : Wf xs) (hR : Rd B w ao xs) :
    Calls Tryz.prog 137 #[.slice ao n cap] w fun r w' => r = .returned (.int .i64 (bl (val xs) : Nat)) ∧ w' = w := by
  have H := hid (size_any xs ao n cap B w hn (by omega) hR)
  have hl := nl_le xs
  rcases hk : nl xs with _ | k
  · rw [(nl_zero_iff xs).1 hk, bl_zero]
    rw [hk] at H
    clear hk hl hn hx hR
    go_enter Tryz.func137, Tryz.ntmps137
    go_wp2_with fail
    refine (Calls.mono H.out) ?_
    rintro r w1 ⟨rfl, rfl⟩
    go_wp2
    go_ret
    exact ⟨rfl, rfl⟩
  · have hbw := bl_words xs hx k hk
    rw [hk] at H hl
    obtain ⟨e, hlt, h0, hl2⟩ := form_top xs hx k hk
    obtain ⟨b, off, hB, rfl, hcell⟩ := hR (by intro e; subst e; simp at hl)
    have hck := hcell k hl2
    obtain ⟨t, ht⟩ : ∃ t, xs.getD k 0 = t := ⟨_, rfl⟩
    have htl : t < 4294967296 := ht ▸ hx.get k
    rw [ht] at hck hbw
    have hb := bl_le32 t htl
    have hkn : k < n := by omega
    have HB := (Aside.intro (And.intro hbw hb))
    clear hk hl hn hx hR e hlt h0 hl2 hcell ht hbw hb
    go_enter Tryz.func137, Tryz.ntmps137
    go_wp2_with fail
    refine (Calls.mono H.out) ?_
    rintro r w1 ⟨rfl, rfl⟩
    go_wp2
    go_loopg [4, 5] t (fun gk bv xv wr => ∃ c : Nat, bv = .int .i64 (c : Nat) ∧ xv = .int .u32 (gk : Nat) ∧ gk ≤ t ∧ c ≤ 32 * k + 32 ∧ wr = w1 ∧ Aside (c + bl gk = 32 * k + bl t))
    case atStart => exact ⟨32 * k, by first | go_num | (congr 1; omega), rfl, Nat.le_refl _, by omega, rfl, rfl⟩
    case round =>
      obtain ⟨c, rfl, rfl, hgt, hc, rfl, HA⟩ := hrel
      by_cases hg0 : gk = 0
      · subst hg0
        go_wp2
        go_ret
        have h1 := HA.out
        rw [bl_zero, Nat.add_zero] at h1
        rw [HB.out.1, ← h1]
        exact ⟨rfl, rfl⟩
      · have hg1 : (0 : Int) < (gk : Int) := by omega
        obtain ⟨g2, hg2⟩ : ∃ g, g = gk / 2 := ⟨_, rfl⟩
        have e2 : (gk : Int) / 2 = (g2 : Int) := by omega
        have HX := (Aside.intro (And.intro hg2 hg0))
        clear hg2 hg0
        go_wp2
        go_roundg g2
        case measure => obtain ⟨hg2, hg0⟩ := HX.out; omega
        case rel =>
          obtain ⟨hg2, hg0⟩ := HX.out
          have h1 := HA.out
          have h2 := bl_half gk hg0
          rw [← hg2] at h2
          have h3 := HB.out.2
          exact ⟨c + 1, by go_num, by first | rfl | rw [e2], by omega, by omega, rfl, by rw [Aside]; omega⟩

end Go.Proofs.YtnnlicahgdcbdaaGreatDoor

/- The document's Lent, AsLent. -/
namespace Go.Proofs.YtnnlicahgdcbdaaGreatDoor
open Go.RowKit
set_option linter.unusedVariables false
set_option maxRecDepth 20000

theorem But.drewN {g : Nat} {a w : World} (h : But g a w) (n : Nat) : But g a (w.drewN n) := ⟨h.os, h.tape, h.output, h.size, h.block⟩

end Go.Proofs.YtnnlicahgdcbdaaGreatDoor

/- Rows of words that are kept in a book: what is appended, what stays; the document's Take. -/
namespace Go.Proofs.YtnnlicahgdcbdaaGreatDoor
open Go.RowKit
set_option linter.unusedVariables false
set_option maxRecDepth 20000

/-- A row of words. -/
abbrev Rw (lo : Nat) (w : World) (v : Value) (n : Nat) (ys : List Value) : Prop := w.ownsRow lo 86 1 v n ys

/-- All rows of words are as they were. -/
def Keep (w w' : World) : Prop := ∀ (g : Nat) (cur : Array Value) (e : TypeId), e ≠ 31 → e ≠ 52 → w.heap[g]? = some (.cells cur e (0, 0)) → w'.heap[g]? = some (.cells cur e (0, 0))

theorem Keep.refl (w : World) : Keep w w := fun _ _ _ _ _ h => h
theorem Keep.trans {a b c : World} (h : Keep a b) (k : Keep b c) : Keep a c := fun g cur t h1 h2 e => k g cur t h1 h2 (h g cur t h1 h2 e)
theorem Keep.row {w w' : World} {lo : Nat} {v : Value} {n : Nat} {ys : List Value} (h : Rw lo w v n ys) (k : Keep w w') : Rw lo w' v n ys := by
  refine ⟨h.1, ?_⟩
  rcases h.2 with hn | ⟨g, cap, cur, rfl, hlo, hg, rest⟩
  · exact .inl hn
  · exact .inr ⟨g, cap, cur, rfl, hlo, k _ _ _ (by decide) (by decide) hg, rest⟩
theorem Keep.below {w w' : World} (h : Below w.heap.size w w') : Keep w w' := fun g cur _ _ _ e => by rw [h.block g (Array.getElem?_eq_some_iff.1 e).1]; exact e

theorem Tryz.info31 : (Tryz.prog.info? 31).map (fun i => (i.zero, i.size, i.bytes)) = some (some (.slice none 0 0), 1, 24) := by kernel_rfl

theorem row_other {w w' : World} {lo e s : Nat} {v : Value} {n : Nat} {ys : List Value} (h : w.ownsRow lo e s v n ys) (hb : ∀ g, v.ownBlock = some g → w'.heap[g]? = w.heap[g]?) : w'.ownsRow lo e s v n ys := by
  refine ⟨h.1, ?_⟩
  rcases h.2 with hn | ⟨g, cap, cur, rfl, hlo, hg, rest⟩
  · exact .inl hn
  · refine .inr ⟨g, cap, cur, rfl, hlo, ?_, rest⟩
    rw [hb g rfl]; exact hg

theorem row_set {w : World} {lo g n cap : Nat} {ys : List Value} (h : Rw lo w (.slice (some ⟨g, 0, none⟩) n cap) n ys) (k : Nat) (hk : k < n) (u : Value) :
    Rw lo (w.setCell ⟨g, k, none⟩ u) (.slice (some ⟨g, 0, none⟩) n cap) n (ys.set k u) := by
  refine ⟨by simpa using h.1, ?_⟩
  rcases h.2 with ⟨e, hn⟩ | ⟨g', cap', cur, e, hlo, hg, hnc, hm, hs, ht⟩
  · omega
  · cases e
    refine .inr ⟨g, cap, cur.set! k u, rfl, hlo, ?_, hnc, hm, by simpa using hs, ?_⟩
    · simp only [World.setCell, Array.getElem?_modify, hg]
      simp
    · rw [← ht]
      simp [List.take_set]

theorem row_setOther {w : World} {lo e s : Nat} {v : Value} {n : Nat} {ys : List Value} (h : w.ownsRow lo e s v n ys) (a : Addr) (u : Value) (ha : v.ownBlock ≠ some a.block) : (w.setCell a u).ownsRow lo e s v n ys :=
  row_other h fun g hg => Below.heap_setCell _ _ _ _ (fun e => ha (by rw [hg, e]))

/-- One word appended to a row of words: what else there is, and what is shorter in the same row, stays. -/
theorem append_word (w : World) (lo : Nat) (v : Value) (n : Nat) (ys : List Value) (x : Value) (s : Nat) (ty : TypeId) (hown : Rw lo w v n ys) (hx : w.cell? ⟨s, 0, none⟩ = some x) (h1 : x.oneCell' = true)
    (hbig : n + 1 ≤ 35184372088832) (hlo : lo ≤ w.heap.size) :
    ∃ v' w', (Builtin.append_ #[31, 31] ty #[v, .slice (some ⟨s, 0, none⟩) 1 1]).run Tryz.prog w = .ok v' w' ∧ Rw lo w' v' (n + 1) (ys ++ [x]) ∧ w.grownBy w' v.ownBlock ∧
      (v'.ownBlock = v.ownBlock ∨ ∃ g, v'.ownBlock = some g ∧ w.heap.size ≤ g) ∧ (∀ (u : Value) (k : Nat) (zs : List Value), Rw lo w u k zs → (u.ownBlock = v.ownBlock → k ≤ n) → Rw lo w' u k zs) := by
  obtain ⟨i0, hi, hz0, hz1, hz2⟩ := info_parts Tryz.info86
  have hnews : ∀ j u, [x][j]? = some u → w.cell? ((⟨s, 0, none⟩ : Addr).add j) = some u := by
    intro j u hj
    match j, hj with
    | 0, hj => simp at hj; subst hj; simpa [Addr.add] using hx
  have h1' : ∀ u ∈ [x], u.oneCell' = true := by intro u hu; simp at hu; subst hu; exact h1
  have keep : ∀ w', w.grownBy w' none → ∀ (u : Value) (k : Nat) (zs : List Value), Rw lo w u k zs → Rw lo w' u k zs := by
    intro w' hg u k zs hr
    rcases hr.2 with hn | ⟨g, cap, cur, rfl, hl, hgb, rest⟩
    · exact ⟨hr.1, .inl hn⟩
    · refine ⟨hr.1, .inr ⟨g, cap, cur, rfl, hl, ?_, rest⟩⟩
      rw [hg.block g (Array.getElem?_eq_some_iff.1 hgb).1 (by simp)]; exact hgb
  have newb : ∀ (v' : Value) (w' : World) (m : Nat) (zs : List Value), w'.ownsRow w.heap.size 86 1 v' (m + 1) zs → ∃ g, v'.ownBlock = some g ∧ w.heap.size ≤ g := by
    intro v' w' m zs h
    rcases h.2 with ⟨_, h0⟩ | ⟨g, cap, cur, rfl, hl, _⟩
    · omega
    · exact ⟨g, rfl, hl⟩
  have mono : ∀ (v' : Value) (w' : World) (m : Nat) (zs : List Value), w'.ownsRow w.heap.size 86 1 v' m zs → Rw lo w' v' m zs := by
    intro v' w' m zs h
    refine ⟨h.1, ?_⟩
    rcases h.2 with hn | ⟨g, cap, cur, rfl, hl, rest⟩
    · exact .inl hn
    · exact .inr ⟨g, cap, cur, rfl, by omega, rest⟩
  rcases hown.2 with ⟨rfl, rfl⟩ | ⟨g, cap, cur, rfl, hlg, hg, hnc, hm, hs, ht⟩
  · obtain ⟨v', w', r1, r2, r3, _, _⟩ := run_append_own_at (P := Tryz.prog) w w.heap.size 31 ty 86 i0 (.int .u32 0) 1 4 Tryz.underlying31 hi hz0 hz1 hz2 rfl (by decide) (.slice none 0 0) 0 [] (World.ownsRow_nil _ _ _ _) ⟨s, 0, none⟩ 1 1 [x] rfl hnews h1' (by unfold maxLen; omega) (by omega) (Nat.le_refl _)
    have hy : ys = [] := List.eq_nil_of_length_eq_zero (by simpa using hown.1)
    subst hy
    exact ⟨v', w', r1, mono _ _ _ _ (by simpa using r2), r3, .inr (newb _ _ 0 _ (by simpa using r2)), fun u k zs hr _ => keep _ r3 u k zs hr⟩
  · by_cases hroom : n + 1 ≤ cap
    · have hr := run_append_room (P := Tryz.prog) w 31 ty 86 i0 Tryz.underlying31 hi g n cap cur hg ⟨s, 0, none⟩ 1 1 [x] (by rw [hz1]; rfl) hnews h1' hroom (by rw [hz1, hs]; simp; omega)
      rw [hz1] at hr
      refine ⟨_, _, hr, ⟨by simpa using hown.1, .inr ⟨g, cap, _, rfl, hlg, setRow_heap w g cur _ 86 _ hg, hroom, hm, ?_, ?_⟩⟩, ⟨rfl, rfl, rfl, by simp, fun k _ hk => setRow_other w g k _ (fun e => hk (by simp [Value.ownBlock, e]))⟩, .inl rfl, ?_⟩
      · simp only [List.size_toArray, List.length_append, List.length_take, List.length_drop, Array.length_toList, List.length_cons, List.length_nil]
        omega
      · rw [ht]
        have hyl : ys.length = n := by simpa using hown.1
        simp only [Nat.mul_one, List.append_assoc]
        rw [← List.append_assoc]
        rw [List.take_append_of_le_length (by simp [hyl])]
        rw [List.take_of_length_le (by simp [hyl])]
      · intro u k zs hr2 hle
        rcases hr2.2 with hn | ⟨g2, cap2, cur2, rfl, hl2, hg2, hnc2, hm2, hs2, ht2⟩
        · exact ⟨hr2.1, .inl hn⟩
        · by_cases he : g2 = g
          · subst he
            rw [hg] at hg2
            cases hg2
            have hk := hle rfl
            refine ⟨hr2.1, .inr ⟨g2, cap2, _, rfl, hl2, setRow_heap w g2 cur _ 86 _ hg, hnc2, hm2, ?_, ?_⟩⟩
            · simp only [List.size_toArray, List.length_append, List.length_take, List.length_drop, Array.length_toList, List.length_cons, List.length_nil]
              omega
            · have hcl : cur.toList.length = cap2 := by simpa using hs2
              rw [← ht2]
              simp only [Nat.mul_one, List.append_assoc]
              rw [List.take_append_of_le_length (by rw [List.length_take]; omega), List.take_take, Nat.min_eq_left hk]
          · refine ⟨hr2.1, .inr ⟨g2, cap2, cur2, rfl, hl2, ?_, hnc2, hm2, hs2, ht2⟩⟩
            rw [setRow_other w g g2 _ he]; exact hg2
    · obtain ⟨v', w', r1, r2, r3⟩ := run_append_arg_grows (P := Tryz.prog) w 31 ty 86 i0 (.int .u32 0) 1 4 Tryz.underlying31 hi hz0 hz1 hz2 rfl (by decide) ⟨g, 0, none⟩ n cap ys (by simpa using hown.1) (fun j u hj => hown.cells (g := g) (by simp [Value.ownBlock]) j u hj) ⟨s, 0, none⟩ 1 1 [x] rfl hnews (by omega) (by unfold maxLen; omega) (by omega)
      exact ⟨v', w', r1, mono _ _ _ _ r2, ⟨r3.os, r3.tape, r3.output, r3.size, fun k hk _ => r3.block k hk (by simp)⟩, .inr (newb _ _ n _ r2), fun u k zs hr _ => keep _ r3 u k zs hr⟩

/-- One Nat appended to a row of Nats. -/
theorem append_nat (w : World) (lo : Nat) (v : Value) (n : Nat) (vs : List Value) (x : Value) (s : Nat) (ty : TypeId) (hown : w.ownsRow lo 31 1 v n vs) (hx : w.cell? ⟨s, 0, none⟩ = some x) (h1 : x.oneCell' = true)
    (hbig : n + 1 ≤ 1000000) (hlo : lo ≤ w.heap.size) :
    ∃ g cap w', (Builtin.append_ #[50, 50] ty #[v, .slice (some ⟨s, 0, none⟩) 1 1]).run Tryz.prog w = .ok (.slice (some ⟨g, 0, none⟩) (n + 1) cap) w' ∧ w'.ownsRow lo 31 1 (.slice (some ⟨g, 0, none⟩) (n + 1) cap) (n + 1) (vs ++ [x]) ∧ w.grownBy w' v.ownBlock ∧ Keep w w' := by
  obtain ⟨i0, hi, hz0, hz1, hz2⟩ := info_parts Tryz.info31
  have hnews : ∀ j u, [x][j]? = some u → w.cell? ((⟨s, 0, none⟩ : Addr).add j) = some u := by
    intro j u hj
    match j, hj with
    | 0, hj => simp at hj; subst hj; simpa [Addr.add] using hx
  have h1' : ∀ u ∈ [x], u.oneCell' = true := by intro u hu; simp at hu; subst hu; exact h1
  obtain ⟨v', w', r1, r2, r3, _, _⟩ := run_append_own_at (P := Tryz.prog) w lo 50 ty 31 i0 (.slice none 0 0) 1 24 Tryz.underlying50 hi hz0 hz1 hz2 rfl (by decide) v n vs hown ⟨s, 0, none⟩ 1 1 [x] rfl hnews h1' (by unfold maxLen; omega) (by omega) hlo
  have hk : Keep w w' := by
    intro g cur te ht1 ht2 hg
    rw [r3.block g (Array.getElem?_eq_some_iff.1 hg).1]
    · exact hg
    · intro e
      rcases hown.2 with ⟨rfl, _⟩ | ⟨g2, cap2, cur2, rfl, _, hg2, _⟩
      · simp [Value.ownBlock] at e
      · simp [Value.ownBlock] at e
        subst e
        rw [hg] at hg2
        cases hg2
        exact ht1 rfl
  rcases r2.2 with ⟨_, h0⟩ | ⟨g, cap, cur, rfl, rest⟩
  · omega
  · exact ⟨g, cap, w', r1, r2, r3, hk⟩

/-- The law for the walk, of whatever slices. -/
theorem wpList_append_run2 {w : World} {ops : Array Oper} {rest : List Oper} {o : Oper} {a : Act} {Q : Exit → Act → World → Prop} (hgd : o.guard = none) (s x : Operand) (t : TypeId)
    (ho : o.op = .call { callee := .builtin .append, args := #[s, x], argTypes := #[t, t] }) (v u : Value) (hs : a.eval s = v) (hx : a.eval x = u) (v' : Value) (w' : World)
    (hrun : (Builtin.append_ #[t, t] o.type #[v, u]).run Tryz.prog w = .ok v' w') (h : wpList Tryz.prog ops Q rest (a.put o.dst v') w') : wpList Tryz.prog ops Q (o :: rest) a w := by
  refine wpList_plain hgd fun K hK => ?_
  unfold Oper.wp
  simp [execOp, ho, resolve, invoke, builtin, hs, hx, hrun, Result.andThen]
  exact hK _ _ h

/-- A book of Nats at block h. -/
def Bk (lo : Nat) (w : World) (h : Nat) (vs : List Value) : Prop := lo ≤ h ∧ ∃ v, w.heap[h]? = some (.cells #[v] 52 (0, 0)) ∧ w.ownsRow lo 31 1 v vs.length vs

theorem Bk.made (lo : Nat) (w : World) (hlo : lo ≤ w.heap.size) : Bk lo (w.alloc (.cells #[.slice none 0 0] 52)) w.heap.size [] :=
  ⟨hlo, _, heap_alloc_new w _, World.ownsRow_nil _ _ _ _⟩

set_option maxHeartbeats 1000000 in
theorem take_any (lo h : Nat) (vs : List Value) (ao : Option Addr) (n cap : Nat) (w : World) (hB : Bk lo w h vs) (hlen : vs.length ≤ 1000) (hlo : lo ≤ w.heap.size) :
    Calls Tryz.prog 57 #[.pointer (some ⟨h, 0, none⟩), .slice ao n cap] w fun r w' => r = .returned (.tuple #[]) ∧ Bk lo w' h (vs ++ [.slice ao n cap]) ∧ Keep w w' ∧ Below lo w w' ∧ w.heap.size ≤ w'.heap.size := by
  obtain ⟨hlh, v, hv, hrow⟩ := hB
  have hhl := (Array.getElem?_eq_some_iff.1 hv).1
  have hc : w.cell? ⟨h, 0, none⟩ = some v := by simp [World.cell?, hv]
  have hrow1 : (w.alloc (.cells #[.slice ao n cap] 31)).ownsRow lo 31 1 v vs.length vs := hrow.alloc _
  obtain ⟨g, cap', w', hap, hown, hgrow, hkeep⟩ := append_nat (w.alloc (.cells #[.slice ao n cap] 31)) lo v vs.length vs (.slice ao n cap) w.heap.size 50 hrow1 (by unfold World.cell?; simp only [heap_alloc_new]; rfl) rfl (by omega) (by simp; omega)
  have hvh : v.ownBlock ≠ some h := by
    intro e
    rcases hrow.2 with ⟨rfl, _⟩ | ⟨g2, cap2, cur2, rfl, _, hg2, _⟩
    · simp [Value.ownBlock] at e
    · simp [Value.ownBlock] at e
      subst e
      rw [hv] at hg2
      cases hg2
  have hh' : w'.heap[h]? = some (.cells #[v] 52 (0, 0)) := by
    rw [hgrow.block h (by simp; omega) (fun e => hvh e.symm), Below.heap_alloc _ _ _ hhl]; exact hv
  have hf' : w'.frozen? ⟨h, 0, none⟩ = false := by simp [World.frozen?, hh']
  have hc' : w'.cell? ⟨h, 0, none⟩ = some v := by simp [World.cell?, hh']
  have hgh : g ≠ h := by
    intro e
    subst e
    rcases hown.2 with ⟨e, _⟩ | ⟨g2, cap2, cur2, e, _, hg2, _⟩
    · cases e
    · cases e
      rw [hh'] at hg2
      cases hg2
  have hbel : Below lo w w' := ((Below.refl lo w).alloc hlo _).grown hgrow (by simp; omega) (fun k hk => by
    rcases hrow.2 with ⟨rfl, _⟩ | ⟨g2, cap2, cur2, rfl, hl2, _⟩
    · simp [Value.ownBlock] at hk
    · simp [Value.ownBlock] at hk; omega)
  have hsz : w.heap.size ≤ w'.heap.size := by have := hgrow.size; simp at this; omega
  have HX := (Aside.intro (And.intro hown (And.intro hkeep (And.intro hh' (And.intro hgh (And.intro hbel (And.intro hlh hsz)))))))
  clear hown hkeep hh' hgh hbel hlh hsz hgrow hvh hrow1 hrow hv hhl
  have HAP := hid hap
  clear hap
  go_enter Tryz.func57, Tryz.ntmps57
  go_wp2_with (at_builtin; refine wpList_append_run2 rfl (.tmp 8) (.tmp 10) 50 rfl _ _ rfl rfl _ _ HAP.out ?_)
  go_end0
  obtain ⟨hown, hkeep, hh', hgh, hbel, hlh, hsz⟩ := HX.out
  refine ⟨rfl, ⟨hlh, .slice (some ⟨g, 0, none⟩) (vs.length + 1) cap', ?_, ?_⟩, ?_, ?_, by simpa [World.setCell] using hsz⟩
  · simp only [World.setCell, Array.getElem?_modify, hh']
    simp
  · have h1 := row_setOther hown ⟨h, 0, none⟩ (.slice (some ⟨g, 0, none⟩) (vs.length + 1) cap') (by simp [Value.ownBlock]; exact hgh)
    simpa using h1
  · intro b cur te ht1 ht2 hb
    have h1 : (w.alloc (.cells #[.slice ao n cap] 31)).heap[b]? = some (.cells cur te (0, 0)) := by rw [Below.heap_alloc _ _ _ (Array.getElem?_eq_some_iff.1 hb).1]; exact hb
    have h2 := hkeep b cur te ht1 ht2 h1
    rw [Below.heap_setCell _ _ _ _ (fun e => by
      subst e
      rw [hh'] at h2
      cases h2
      exact ht2 rfl)]
    exact h2
  · exact hbel.trans ⟨rfl, rfl, rfl, by simp [World.setCell], fun k hk => Below.heap_setCell _ _ _ _ (by simp; omega)⟩
end Go.Proofs.YtnnlicahgdcbdaaGreatDoor

/- What Owned keeps to, phase by phase. -/
namespace Go.Proofs.YtnnlicahgdcbdaaGreatDoor
open Go.RowKit
set_option linter.unusedVariables false
set_option maxRecDepth 20000

def slen : Value → Nat
  | .slice _ n _ => n
  | _ => 0
def nth (vs : List Value) (i : Nat) : Value := vs.getD i (.slice none 0 0)

theorem Rw.len {lo : Nat} {w : World} {v : Value} {n : Nat} {ys : List Value} (h : Rw lo w v n ys) : slen v = n := by
  rcases h.2 with ⟨rfl, h0⟩ | ⟨g, cap, cur, rfl, _⟩
  · exact h0.symm
  · rfl

theorem Rw.lt {lo : Nat} {w : World} {v : Value} {n : Nat} {ys : List Value} (h : Rw lo w v n ys) (b : Nat) (hb : v.ownBlock = some b) : lo ≤ b ∧ b < w.heap.size ∧ ∃ cur, w.heap[b]? = some (.cells cur 86 (0, 0)) := by
  rcases h.2 with ⟨rfl, h0⟩ | ⟨g, cap, cur, rfl, hlo, hg, _⟩
  · cases hb
  · cases hb
    exact ⟨hlo, (Array.getElem?_eq_some_iff.1 hg).1, cur, hg⟩

theorem Rw.noneLen {lo : Nat} {w : World} {v : Value} {n : Nat} {ys : List Value} (h : Rw lo w v n ys) (hb : v.ownBlock = none) : n = 0 := by
  rcases h.2 with ⟨rfl, h0⟩ | ⟨g, cap, cur, rfl, _⟩
  · exact h0
  · cases hb

/-- Nats of one's own, in rows apart. -/
structure Nice (lo : Nat) (w : World) (vs : List Value) : Prop where
  rows : ∀ i, i < vs.length → ∃ ys, Rw lo w (nth vs i) (slen (nth vs i)) ys
  small : ∀ i, i < vs.length → slen (nth vs i) ≤ 35184372088000
  apart : ∀ i j, i < vs.length → j < vs.length → i ≠ j → ∀ b, (nth vs i).ownBlock = some b → (nth vs j).ownBlock ≠ some b

def mrk (i : Nat) : Value := .int .u32 (1000 + (i : Int))

/-- Phase 1: k words of Nat i are written, and all of the Nats ahead of it. -/
structure P1 (lo h : Nat) (v : Value) (vs : List Value) (w : World) (i k : Nat) (wr : World) : Prop where
  book : wr.heap[h]? = some (.cells #[v] 52 (0, 0))
  list : wr.ownsRow lo 31 1 v vs.length vs
  below : Below lo w wr
  size : wr.heap.size = w.heap.size
  rows : ∀ j, j < vs.length → ∃ ys, Rw lo wr (nth vs j) (slen (nth vs j)) ys ∧ (j < i → ys = List.replicate (slen (nth vs j)) (mrk j)) ∧ (j = i → ys.take k = List.replicate k (mrk i))

theorem P1.start {lo h : Nat} {v : Value} {vs : List Value} {w : World} (hv : w.heap[h]? = some (.cells #[v] 52 (0, 0))) (hl : w.ownsRow lo 31 1 v vs.length vs) (hN : Nice lo w vs) : P1 lo h v vs w 0 0 w :=
  ⟨hv, hl, Below.refl _ _, rfl, fun j hj => by
    obtain ⟨ys, hy⟩ := hN.rows j hj
    exact ⟨ys, hy, fun h => absurd h (by omega), fun _ => by simp⟩⟩

theorem P1.next {lo h : Nat} {v : Value} {vs : List Value} {w wr : World} {i : Nat} (H : P1 lo h v vs w i (slen (nth vs i)) wr) : P1 lo h v vs w (i + 1) 0 wr :=
  ⟨H.book, H.list, H.below, H.size, fun j hj => by
    obtain ⟨ys, hy, a, b⟩ := H.rows j hj
    refine ⟨ys, hy, fun h => ?_, fun _ => by simp⟩
    by_cases e : j = i
    · subst e
      have h1 := b rfl
      have hl : ys.length = slen (nth vs j) := by simpa using hy.1
      rwa [← hl, List.take_length, hl] at h1
    · exact a (by omega)⟩

theorem P1.step {lo h : Nat} {v : Value} {vs : List Value} {w wr : World} {i k g n cap : Nat} (H : P1 lo h v vs w i k wr) (hN : Nice lo w vs) (hi : i < vs.length) (hV : nth vs i = .slice (some ⟨g, 0, none⟩) n cap) (hk : k < n) :
    P1 lo h v vs w i (k + 1) (wr.setCell ⟨g, k, none⟩ (mrk i)) := by
  obtain ⟨ys0, hy0, _, _⟩ := H.rows i hi
  obtain ⟨hlg, _, cur, hcur⟩ := hy0.lt g (by rw [hV]; rfl)
  have hgh : h ≠ g := by intro e; subst e; rw [H.book] at hcur; cases hcur
  have hvg : v.ownBlock ≠ some g := by
    intro e
    rcases H.list.2 with ⟨rfl, _⟩ | ⟨g2, cap2, cur2, rfl, _, hg2, _⟩
    · cases e
    · cases e; rw [hcur] at hg2; cases hg2
  refine ⟨?_, row_setOther H.list _ _ hvg, H.below.trans ⟨rfl, rfl, rfl, by simp [World.setCell], fun b hb => Below.heap_setCell _ _ _ _ (by simp; omega)⟩, by simpa [World.setCell] using H.size, fun j hj => ?_⟩
  · rw [Below.heap_setCell _ _ _ _ hgh]; exact H.book
  · obtain ⟨ys, hy, a, b⟩ := H.rows j hj
    by_cases e : j = i
    · subst e
      rw [hV] at hy ⊢
      have h1 := row_set hy k hk (mrk j)
      have hl : ys.length = n := by simpa [slen] using hy.1
      refine ⟨ys.set k (mrk j), h1, fun h => absurd h (by omega), fun _ => ?_⟩
      rw [List.take_succ_eq_append_getElem (by simp; omega), List.take_set_of_le (Nat.le_refl _), b rfl, List.replicate_succ']
      simp
    · refine ⟨ys, row_setOther hy _ _ (fun e2 => hN.apart i j hi hj (fun e3 => e e3.symm) g (by rw [hV]; rfl) e2), a, fun h => absurd h e⟩

/-- Phase 2, ahead of Nat i: what stands in the list, and what is still to come. -/
structure P2 (lo h : Nat) (v : Value) (vs : List Value) (w : World) (i c d : Nat) (av : Value) (es : List Value) (x : Value) (wr : World) : Prop where
  book : wr.heap[h]? = some (.cells #[v] 52 (0, 0))
  list : wr.ownsRow lo 31 1 v vs.length vs
  below : Below lo w wr
  size : w.heap.size ≤ wr.heap.size
  all : wr.ownsRow w.heap.size 31 1 av es.length es
  len : es.length = 5 * i + d
  come : ∀ j, i < j → j < vs.length → Rw lo wr (nth vs j) (slen (nth vs j)) (List.replicate (slen (nth vs j)) (mrk j))
  old : ∀ j, j < es.length → Rw lo wr (nth es j) (slen (nth es j)) (List.replicate (slen (nth es j)) (mrk (j / 5)))
  row : Rw lo wr x (slen x) (List.replicate (slen x) (mrk i))
  more : slen x = slen (nth vs i) + c
  less : ∀ j, j < es.length → (nth es j).ownBlock = x.ownBlock → slen (nth es j) ≤ slen x
  off : ∀ j, i < j → j < vs.length → ∀ b, (nth vs j).ownBlock = some b → x.ownBlock ≠ some b ∧ ∀ k, k < es.length → (nth es k).ownBlock ≠ some b

/-- Between two Nats. -/
structure P2o (lo h : Nat) (v : Value) (vs : List Value) (w : World) (i : Nat) (av : Value) (es : List Value) (wr : World) : Prop where
  book : wr.heap[h]? = some (.cells #[v] 52 (0, 0))
  list : wr.ownsRow lo 31 1 v vs.length vs
  below : Below lo w wr
  size : w.heap.size ≤ wr.heap.size
  all : wr.ownsRow w.heap.size 31 1 av es.length es
  len : es.length = 5 * i
  come : ∀ j, i ≤ j → j < vs.length → Rw lo wr (nth vs j) (slen (nth vs j)) (List.replicate (slen (nth vs j)) (mrk j))
  old : ∀ j, j < es.length → Rw lo wr (nth es j) (slen (nth es j)) (List.replicate (slen (nth es j)) (mrk (j / 5)))
  off : ∀ j, i ≤ j → j < vs.length → ∀ b, (nth vs j).ownBlock = some b → ∀ k, k < es.length → (nth es k).ownBlock ≠ some b

theorem P2o.start {lo h : Nat} {v : Value} {vs : List Value} {w wr : World} (H : P1 lo h v vs w vs.length 0 wr) : P2o lo h v vs w 0 (.slice none 0 0) [] wr :=
  ⟨H.book, H.list, H.below, by rw [H.size]; exact Nat.le_refl _, World.ownsRow_nil _ _ _ _, rfl, fun j _ hj => by
    obtain ⟨ys, hy, a, _⟩ := H.rows j hj
    rw [← a hj]; exact hy, fun j hj => absurd hj (by simp), fun _ _ _ _ _ k hk => absurd hk (by simp)⟩

theorem P2o.enter {lo h : Nat} {v : Value} {vs : List Value} {w wr : World} {i : Nat} {av : Value} {es : List Value} (H : P2o lo h v vs w i av es wr) (hN : Nice lo w vs) (hi : i < vs.length) :
    P2 lo h v vs w i 0 0 av es (nth vs i) wr :=
  ⟨H.book, H.list, H.below, H.size, H.all, H.len, fun j h1 h2 => H.come j (by omega) h2, H.old, H.come i (Nat.le_refl _) hi, rfl, fun j hj e => by
    rcases hb : (nth vs i).ownBlock with _ | b
    · rw [hb] at e
      have := (H.old j hj).noneLen e
      omega
    · rw [hb] at e
      exact absurd e (H.off i (Nat.le_refl _) hi b hb j hj), fun j h1 h2 b hb => ⟨fun e => hN.apart i j hi h2 (by omega) b e hb, H.off j (by omega) h2 b hb⟩⟩

theorem P2.leave {lo h : Nat} {v : Value} {vs : List Value} {w wr : World} {i : Nat} {av x : Value} {es : List Value} {c : Nat} (H : P2 lo h v vs w i c 5 av es x wr) : P2o lo h v vs w (i + 1) av es wr :=
  ⟨H.book, H.list, H.below, H.size, H.all, by rw [H.len]; omega, fun j h1 h2 => H.come j (by omega) h2, H.old, fun j h1 h2 b hb => (H.off j (by omega) h2 b hb).2⟩

theorem nth_append_lt (es : List Value) (x : Value) (j : Nat) (h : j < es.length) : nth (es ++ [x]) j = nth es j := by
  simp [nth, List.getD_eq_getElem?_getD, List.getElem?_append_left h]
theorem nth_append_eq (es : List Value) (x : Value) : nth (es ++ [x]) es.length = x := by
  simp [nth, List.getD_eq_getElem?_getD]

/-- The list takes the Nat. -/
theorem P2.take {lo h : Nat} {v : Value} {vs : List Value} {w wr w' : World} {i c d : Nat} {av av' x : Value} {es : List Value} (H : P2 lo h v vs w i c d av es x wr) (hd : d < 5) (hlo : lo ≤ w.heap.size) (hh : h < w.heap.size) (hvl : ∀ b, v.ownBlock = some b → b < w.heap.size) (o : Obj)
    (hown : w'.ownsRow w.heap.size 31 1 av' (es.length + 1) (es ++ [x])) (hgrow : (wr.alloc o).grownBy w' av.ownBlock) (hkeep : Keep (wr.alloc o) w') :
    P2 lo h v vs w i c (d + 1) av' (es ++ [x]) x w' := by
  have hs := H.size
  have hav : ∀ b, av.ownBlock = some b → w.heap.size ≤ b := by
    intro b hb
    rcases H.all.2 with ⟨rfl, _⟩ | ⟨g, cap, cur, rfl, hl, _⟩
    · cases hb
    · cases hb; exact hl
  have hblk : ∀ b, b < w.heap.size → w'.heap[b]? = wr.heap[b]? := by
    intro b hb
    rw [hgrow.block b (by simp; omega) (fun e => by have := hav b e.symm; omega), Below.heap_alloc _ _ _ (by omega)]
  have hk : Keep wr w' := Keep.trans (fun g cur _ _ _ e => by rw [Below.heap_alloc _ _ _ (Array.getElem?_eq_some_iff.1 e).1]; exact e) hkeep
  refine ⟨by rw [hblk h hh]; exact H.book, row_other H.list (fun g hg => hblk g (hvl g hg)), ?_, by have := hgrow.size; simp at this; omega, by simpa using hown, by simp [H.len]; omega, fun j h1 h2 => Keep.row (H.come j h1 h2) hk, ?_, Keep.row H.row hk, H.more, ?_, ?_⟩
  · exact ((H.below.alloc (by omega) o).grown hgrow (by simp; omega) (fun k hk => by have := hav k hk; omega))
  · intro j hj
    by_cases e : j = es.length
    · subst e
      rw [nth_append_eq, show es.length / 5 = i by rw [H.len]; omega]
      exact Keep.row H.row hk
    · simp at hj
      rw [nth_append_lt _ _ _ (by omega)]
      exact Keep.row (H.old j (by omega)) hk
  · intro j hj e2
    by_cases e : j = es.length
    · subst e
      rw [nth_append_eq]; exact Nat.le_refl _
    · simp at hj
      rw [nth_append_lt _ _ _ (by omega)] at e2 ⊢
      exact H.less j (by omega) e2
  · intro j h1 h2 b hb
    obtain ⟨a1, a2⟩ := H.off j h1 h2 b hb
    refine ⟨a1, fun k hk2 => ?_⟩
    by_cases e : k = es.length
    · subst e
      rw [nth_append_eq]; exact a1
    · simp at hk2
      rw [nth_append_lt _ _ _ (by omega)]
      exact a2 k (by omega)

/-- The Nat grows by a word. -/
theorem P2.grow {lo h : Nat} {v : Value} {vs : List Value} {w wr w' : World} {i c d : Nat} {av x x' : Value} {es : List Value} (H : P2 lo h v vs w i c d av es x wr) (hlo : lo ≤ w.heap.size) (o : Obj)
    (hown : Rw lo w' x' (slen x + 1) (List.replicate (slen x) (mrk i) ++ [mrk i])) (hgrow : (wr.alloc o).grownBy w' x.ownBlock) (hpl : x'.ownBlock = x.ownBlock ∨ ∃ g, x'.ownBlock = some g ∧ (wr.alloc o).heap.size ≤ g)
    (hkeep : ∀ (u : Value) (k : Nat) (zs : List Value), Rw lo (wr.alloc o) u k zs → (u.ownBlock = x.ownBlock → k ≤ slen x) → Rw lo w' u k zs) :
    P2 lo h v vs w i (c + 1) d av es x' w' := by
  have hs := H.size
  have hl' := hown.len
  have hxb : ∀ b, x.ownBlock = some b → ∃ cur, wr.heap[b]? = some (.cells cur 86 (0, 0)) := fun b hb => (H.row.lt b hb).2.2
  have hblk : ∀ b, b < wr.heap.size → x.ownBlock ≠ some b → w'.heap[b]? = wr.heap[b]? := by
    intro b hb hx
    rw [hgrow.block b (by simp; omega) (fun e => hx e.symm), Below.heap_alloc _ _ _ hb]
  have hnb : ∀ b, wr.heap[b]? = some (.cells #[v] 52 (0, 0)) → x.ownBlock ≠ some b := by
    intro b hb e
    obtain ⟨cur, hc⟩ := hxb b e
    rw [hb] at hc; cases hc
  have hrow24 : ∀ (l : Nat) (u : Value) (n : Nat) (zs : List Value), wr.ownsRow l 31 1 u n zs → w'.ownsRow l 31 1 u n zs := by
    intro l u n zs hr
    refine row_other hr fun g hg => ?_
    rcases hr.2 with ⟨rfl, _⟩ | ⟨g2, cap, cur, rfl, _, hg2, _⟩
    · cases hg
    · cases hg
      refine hblk g2 (Array.getElem?_eq_some_iff.1 hg2).1 (fun e => ?_)
      obtain ⟨cur', hc⟩ := hxb g2 e
      rw [hg2] at hc; cases hc
  have hlow : ∀ b, x.ownBlock = some b → lo ≤ b := fun b hb => (H.row.lt b hb).1
  refine ⟨by rw [hblk h (Array.getElem?_eq_some_iff.1 H.book).1 (hnb h H.book)]; exact H.book, hrow24 _ _ _ _ H.list, ?_, by have := hgrow.size; simp at this; omega, hrow24 _ _ _ _ H.all, H.len, ?_, ?_, ?_, by rw [hl', H.more]; omega, ?_, ?_⟩
  · exact ((H.below.alloc (by omega) o).grown hgrow (by simp; omega) hlow)
  · intro j h1 h2
    refine hkeep _ _ _ ((H.come j h1 h2).alloc o) (fun e => ?_)
    rcases hb : (nth vs j).ownBlock with _ | b
    · have := (H.come j h1 h2).noneLen hb
      omega
    · exact absurd (by rw [← e, hb]) (H.off j h1 h2 b hb).1
  · intro j hj
    exact hkeep _ _ _ ((H.old j hj).alloc o) (fun e => H.less j hj e)
  · rw [hl', List.replicate_succ']
    exact hown
  · intro j hj e
    rw [hl']
    rcases hpl with h1 | ⟨g, h1, h2⟩
    · have := H.less j hj (e.trans h1); omega
    · have := (H.old j hj).lt g (e.trans h1)
      simp at h2
      omega
  · intro j h1 h2 b hb
    obtain ⟨a1, a2⟩ := H.off j h1 h2 b hb
    refine ⟨?_, a2⟩
    rcases hpl with h3 | ⟨g, h3, h4⟩
    · rw [h3]; exact a1
    · rw [h3]
      intro e
      cases e
      have := (H.come j h1 h2).lt _ hb
      simp at h4
      omega
end Go.Proofs.YtnnlicahgdcbdaaGreatDoor

