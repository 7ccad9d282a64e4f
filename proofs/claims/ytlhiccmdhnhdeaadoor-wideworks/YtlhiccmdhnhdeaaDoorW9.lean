/- sub: a difference in new memory. -/
import Derived.Test.YtlhiccmdhnhdeaaDoorW7
namespace Go.Proofs.YtlhiccmdhnhdeaaDoor
open Go.RowKit
set_option linter.unusedVariables false

set_option maxHeartbeats 2000000 in
theorem sub_any (xs bs : List Nat) (ao bo : Option Addr) (n cap m capb B : Nat) (w : World) (hn : n = xs.length) (hm : m = bs.length) (hmn : m ≤ n) (hc : n ≤ cap) (hcb : m ≤ capb) (hbig : n ≤ 35184372088833)
    (hx : Wf xs) (hb : Wf bs) (hle : val bs ≤ val xs) (hR0 : Rd B w ao xs) (hS : Rd B w bo bs) (hB : B ≤ w.heap.size) :
    Calls Tryd.prog 97 #[.slice ao n cap, .slice bo m capb] w fun r w' => ∃ v, r = .returned v ∧ Nt w.heap.size w' v (val xs - val bs) ∧ Below w.heap.size w w' := by
  obtain ⟨W1, hW1⟩ : ∃ W, W = w.alloc (.cells (madeCells #[.int .u32 0] n) 57) := ⟨_, rfl⟩
  have hO1 : Own W1 w.heap.size (List.replicate n 0) := by rw [hW1]; exact Own.made w n
  have hB1 : Below w.heap.size w W1 := by rw [hW1]; exact (Below.refl _ _).alloc (Nat.le_refl _) _
  obtain ⟨W2, hcp, hO2, hb2⟩ := copy_words W1 w.heap.size n n ao n cap B 3 (List.replicate n 0) xs hO1 (by simp) hn (hR0.below (hB1.mono hB)) (by omega)
  rw [List.drop_of_length_le (by simp), List.append_nil] at hO2
  have hB2 : Below w.heap.size w W2 := But.below hB1 hb2 hB1.size (Nat.le_refl _)
  have hmk := make_words (n : Int) n rfl (by omega) w
  rw [← hW1] at hmk
  have hR : Rd B W2 bo bs := hS.below (hB2.mono hB)
  obtain ⟨g, hg⟩ : ∃ g, g = w.heap.size := ⟨_, rfl⟩
  rw [← hg] at hO2 hcp hmk hB2 hB
  have HR := (Aside.intro (And.intro hR (And.intro hm (And.intro hb (And.intro hx (And.intro hn (And.intro hle (And.intro hB2 hg))))))))
  have HO := hid hO2
  have HA32 : Hid (∀ x y c s d w, _ → _ → _ → _ → _ → _) := sub32_nat
  clear hn hm hx hb hR0 hS hO1 hB1 hO2 hb2 hB2 hW1 hle hR hg
  go_enter Tryd.func97, Tryd.ntmps97
  go_wp2
  go_loopg [6, 18] m (fun gk c i wr => ∃ (k cv : Nat) (M : List Nat), gk + k = m ∧ c = .int .u32 (cv : Nat) ∧ cv ≤ 1 ∧ i = .int .i64 (k : Nat) ∧
      Hid (Own wr g M) ∧ Aside (Wf M ∧ Out xs M 0 k ∧ sg M 0 k + sg bs 0 k = sg xs 0 k + cv * pw k ∧ But g W2 wr))
  case atStart => exact ⟨0, 0, xs, by omega, rfl, by omega, rfl, HO, HR.out.2.2.2.1, Out.refl _ _ _, by simp [sg_zero], But.refl _ _⟩
  case round =>
    obtain ⟨k, cv, M, hgk, rfl, hcv, rfl, HM, HA⟩ := hrel
    by_cases hk : k < m
    · obtain ⟨hR, hm, hb, hx, hn, hle, hB2, hg⟩ := HR.out
      obtain ⟨hMw, hMo, hMs, hbut⟩ := HA.out
      obtain ⟨b, boff, hbB, rfl, hbc⟩ := hR (by intro e; subst e; simp at hm; omega)
      have hbk : wr.cell? ⟨b, boff + k, none⟩ = some (.int .u32 ((bs.getD k 0 : Nat) : Int)) := by
        have h1 := hbut.block b (World.block_lt_of_cell? W2 ⟨b, boff + k, none⟩ (hbc k (by omega))) (by omega)
        exact (World.cell?_of_block (a := ⟨b, boff + k, none⟩) h1).trans (hbc k (by omega))
      have hgc := HM.out.cell k (by rw [hMo.1]; omega)
      have hgf := HM.out.frozen k
      obtain ⟨x, hxx⟩ : ∃ x : Nat, M.getD k 0 = x := ⟨_, rfl⟩
      obtain ⟨y, hy⟩ : ∃ y : Nat, bs.getD k 0 = y := ⟨_, rfl⟩
      have hxl : x < 4294967296 := hxx ▸ hMw.get _
      have hyl : y < 4294967296 := hy ▸ hb.get _
      rw [hxx] at hgc
      rw [hy] at hbk
      obtain ⟨s, hs⟩ : ∃ s : Nat, (s : Int) = ((x : Int) - y - cv) % 4294967296 := ⟨(((x : Int) - y - cv) % 4294967296).toNat, by omega⟩
      obtain ⟨d, hd⟩ : ∃ d : Nat, d = if x < y + cv then 1 else 0 := ⟨_, rfl⟩
      have HX := (Aside.intro (And.intro hxx (And.intro hy (And.intro hs hd))))
      clear hxx hy hs hd hR hm hb hx hn hle hB2 hg hMw hMo hMs hbut hbc
      go_wp2_with fail
      refine (HA32.out x y cv s d _ hxl hyl hcv HX.out.2.2.1 HX.out.2.2.2).mono ?_
      rintro r w1 ⟨rfl, rfl⟩
      go_wp2
      go_roundg (gk - 1)
      case measure => omega
      case rel =>
        obtain ⟨hxx, hy, hs, hd⟩ := HX.out
        obtain ⟨hR, hm, hb, hx, hn, hle, hB2, hg⟩ := HR.out
        obtain ⟨hMw, hMo, hMs, hbut⟩ := HA.out
        have hd1 : d ≤ 1 := by rw [hd]; split <;> omega
        have hsum : s + y + cv = x + d * 4294967296 := by rw [hd]; split <;> omega
        refine ⟨k + 1, d, M.set k s, by omega, rfl, hd1, by go_num, HM.out.set _ _, hMw.set _ _ (by omega), (hMo.mono (by omega)).set _ _ (by omega) (by omega), ?_, hbut.set _ _⟩
        have e1 := sg_set_last M 0 k s (by rw [hMo.1]; omega)
        rw [Nat.zero_add] at e1
        rw [e1, sg_succ xs 0 k (by omega), sg_succ bs 0 k (by omega), Nat.zero_add, hy, pw_succ]
        have e : xs.getD k 0 = x := by rw [← hxx]; exact (hMo.2 _ (by omega)).symm
        rw [e]
        exact borrow_step _ _ _ _ _ _ _ _ _ hMs hsum
    · obtain rfl : k = m := by omega
      have HA2 : Aside (Wf M ∧ Out xs M 0 k ∧ sg M 0 k + val bs = sg xs 0 k + cv * pw k ∧ But g W2 wr) := by
        obtain ⟨hR, hm, hb, hx, hn, hle, hB2, hg⟩ := HR.out
        obtain ⟨hMw, hMo, hMs, hbut⟩ := HA.out
        refine ⟨hMw, hMo, ?_, hbut⟩
        rw [← hMs, hm, sg_all]
      clear HA hgk HO hk
      go_wp2
      go_loopg [6, 9] (n - k + 1) (fun g2 c i w2 => ∃ (j cv : Nat) (M : List Nat), g2 + j = n + 1 ∧ k ≤ j ∧ j ≤ n ∧ c = .int .u32 (cv : Nat) ∧ cv ≤ 1 ∧ i = .int .i64 (j : Nat) ∧
        Hid (Own w2 g M) ∧ Aside (Wf M ∧ Out xs M 0 j ∧ sg M 0 j + val bs = sg xs 0 j + cv * pw j ∧ But g W2 w2))
      case atStart => exact ⟨k, cv, M, by omega, Nat.le_refl _, hmn, rfl, hcv, rfl, HM, HA2.out⟩
      case round =>
        clear HM HA2 hcv
        obtain ⟨j, cv, M, hgj, hkj, hjn, rfl, hcv, rfl, HM, HA⟩ := hrel
        by_cases h0 : cv = 0
        · subst h0
          obtain ⟨hR, hm, hb, hx, hn, hle, hB2, hg⟩ := HR.out
          obtain ⟨hMw, hMo, hMs, hbut⟩ := HA.out
          have hl : M.length = n := by rw [hMo.1, hn]
          have T := hid (trim_any M (some ⟨g, 0, none⟩) n n (g + 1) wr hl.symm (Nat.le_refl _) (by omega) (by simpa [hl, List.take_of_length_le] using Rd.ofOwn HM.out 0 n))
          clear hR hm hb hx hn hle hB2 hg hMw hMo hMs hbut
          go_wp2_with fail
          refine (Calls.mono T.out) ?_
          rintro r w1 ⟨rfl, rfl⟩
          go_wp2
          go_ret
          obtain ⟨hR, hm, hb, hx, hn, hle, hB2, hg⟩ := HR.out
          obtain ⟨hMw, hMo, hMs, hbut⟩ := HA.out
          rw [Nat.zero_mul, Nat.add_zero] at hMs
          have hv := seg_rest2 (n := n) hjn (by omega) hMo hMs
          have e1 : sg M 0 n = val M := by rw [← hl]; exact sg_all M
          have e2 : sg xs 0 n = val xs := by rw [hn]; exact sg_all xs
          rw [e1, e2] at hv
          refine ⟨_, rfl, ?_, ?_⟩
          · have N := Nt.ofOwn (lo := g) HM.out (Nat.le_refl _) hMw (by rw [hl]; unfold maxLen; omega)
            rw [show val xs - val bs = val M by omega, ← hg]
            rw [hl] at N
            exact N
          · rw [← hg]
            exact But.below hB2 hbut (by have := hB2.size; omega) (Nat.le_refl _)
        · obtain rfl : cv = 1 := by omega
          obtain ⟨hR, hm, hb, hx, hn, hle, hB2, hg⟩ := HR.out
          obtain ⟨hMw, hMo, hMs, hbut⟩ := HA.out
          have hj : j < n := by
            by_cases hj : j = n
            · exfalso
              subst hj
              have h1 := sg_lt M 0 j hMw (by rw [hMo.1]; omega)
              have e2 : sg xs 0 j = val xs := by rw [hn]; exact sg_all xs
              omega
            · omega
          have hgc := HM.out.cell j (by rw [hMo.1]; omega)
          have hgf := HM.out.frozen j
          obtain ⟨x, hxx⟩ : ∃ x : Nat, M.getD j 0 = x := ⟨_, rfl⟩
          have hxl : x < 4294967296 := hxx ▸ hMw.get _
          rw [hxx] at hgc
          obtain ⟨s, hs⟩ : ∃ s : Nat, (s : Int) = ((x : Int) - (0 : Nat) - (1 : Nat)) % 4294967296 := ⟨(((x : Int) - (0 : Nat) - (1 : Nat)) % 4294967296).toNat, by omega⟩
          obtain ⟨d, hd⟩ : ∃ d : Nat, d = if x < 0 + 1 then 1 else 0 := ⟨_, rfl⟩
          have HX := (Aside.intro (And.intro hxx (And.intro hs hd)))
          clear hxx hs hd hR hm hb hx hn hle hB2 hg hMw hMo hMs hbut h0
          go_wp2_with fail
          refine (HA32.out x 0 1 s d _ hxl (by omega) (by omega) HX.out.2.1 HX.out.2.2).mono ?_
          rintro r w1 ⟨rfl, rfl⟩
          go_wp2
          go_roundg (gk - 1)
          case measure => omega
          case rel =>
            obtain ⟨hxx, hs, hd⟩ := HX.out
            obtain ⟨hR, hm, hb, hx, hn, hle, hB2, hg⟩ := HR.out
            obtain ⟨hMw, hMo, hMs, hbut⟩ := HA.out
            have hd1 : d ≤ 1 := by rw [hd]; split <;> omega
            have hsum : s + 0 + 1 = x + d * 4294967296 := by rw [hd]; split <;> omega
            refine ⟨j + 1, d, M.set j s, by omega, by omega, by omega, rfl, hd1, by go_num, HM.out.set _ _, hMw.set _ _ (by omega), (hMo.mono (by omega)).set _ _ (by omega) (by omega), ?_, hbut.set _ _⟩
            have e1 := sg_set_last M 0 j s (by rw [hMo.1]; omega)
            rw [Nat.zero_add] at e1
            rw [e1, sg_succ xs 0 j (by omega), Nat.zero_add, pw_succ]
            have e : xs.getD j 0 = x := by rw [← hxx]; exact (hMo.2 _ (by omega)).symm
            rw [e]
            have := borrow_step (pw j) _ _ _ _ x 0 s d hMs hsum
            omega
end Go.Proofs.YtlhiccmdhnhdeaaDoor
