/- mul: a product in new memory. -/
import Derived.Test.YtlhiccmdhnhdeaaDoorW4
import Derived.Test.YtlhiccmdhnhdeaaDoorW7
namespace Go.Proofs.YtlhiccmdhnhdeaaDoor
open Go.RowKit
set_option linter.unusedVariables false

theorem mul_step (p V b x r q c : Nat) (h : V + p * r = b * q) : V + p * (r + q * x) = (b + p * x) * q := by grind

set_option maxHeartbeats 2000000 in
theorem mul_any (xs bs : List Nat) (ao bo : Option Addr) (n cap m capb B : Nat) (w : World) (hn : n = xs.length) (hm : m = bs.length) (hc : n ≤ cap) (hcb : m ≤ capb) (hbig : n + m ≤ 70368744177664)
    (hx : Wf xs) (hb : Wf bs) (hR : Rd B w ao xs) (hS : Rd B w bo bs) (hB : B ≤ w.heap.size) :
    Calls Tryd.prog 98 #[.slice ao n cap, .slice bo m capb] w fun r w' => ∃ v, r = .returned v ∧ Nt w.heap.size w' v (val xs * val bs) ∧ Below w.heap.size w w' := by
  obtain ⟨W1, hW1⟩ : ∃ W, W = w.alloc (.cells (madeCells #[.int .u32 0] (n + m)) 57) := ⟨_, rfl⟩
  have hO1 : Own W1 w.heap.size (List.replicate (n + m) 0) := by rw [hW1]; exact Own.made w (n + m)
  have hB1 : Below w.heap.size w W1 := by rw [hW1]; exact (Below.refl _ _).alloc (Nat.le_refl _) _
  have hmk := make_words ((n : Int) + m) (n + m) (by omega) (by omega) w
  rw [← hW1] at hmk
  have hR1 : Rd B W1 ao xs := hR.below (hB1.mono hB)
  have hS1 : Rd B W1 bo bs := hS.below (hB1.mono hB)
  obtain ⟨g, hg⟩ : ∃ g, g = w.heap.size := ⟨_, rfl⟩
  rw [← hg] at hO1 hmk hB1 hB
  have HR := (Aside.intro (And.intro hR1 (And.intro hS1 (And.intro hm (And.intro hb (And.intro hx (And.intro hn (And.intro hB1 hg))))))))
  have HO := hid hO1
  clear hn hm hx hb hR hS hO1 hB1 hW1 hR1 hS1 hg
  go_enter Tryd.func98, Tryd.ntmps98
  go_wp2
  go_loopg [16] n (fun gk i wr => ∃ (k : Nat) (M : List Nat), gk + k = n ∧ i = .int .i64 (k : Nat) ∧
      Hid (Own wr g M) ∧ Aside (Wf M ∧ M.length = n + m ∧ sg M 0 (k + m) = sg xs 0 k * val bs ∧ But g W1 wr))
  case atStart => exact ⟨0, _, by omega, rfl, HO, Wf.zeros _, by simp, by rw [sg_zeros, sg_zero]; simp, But.refl _ _⟩
  case round =>
    obtain ⟨k, M, hgk, rfl, HM, HA⟩ := hrel
    by_cases hk : k < n
    · obtain ⟨hR, hS, hm, hb, hx, hn, hB1, hg⟩ := HR.out
      obtain ⟨hMw, hMl, hMs, hbut⟩ := HA.out
      have hW1s : g ≤ W1.heap.size := by have := hB1.size; omega
      obtain ⟨b, boff, hbB, rfl, hbc⟩ := hR (by intro e; subst e; simp at hn; omega)
      have hbk : wr.cell? ⟨b, boff + k, none⟩ = some (.int .u32 ((xs.getD k 0 : Nat) : Int)) := by
        have h1 := hbut.block b (World.block_lt_of_cell? W1 ⟨b, boff + k, none⟩ (hbc k (by omega))) (by omega)
        exact (World.cell?_of_block (a := ⟨b, boff + k, none⟩) h1).trans (hbc k (by omega))
      obtain ⟨y, hy⟩ : ∃ y : Nat, xs.getD k 0 = y := ⟨_, rfl⟩
      have hyl : y < 4294967296 := hy ▸ hx.get _
      rw [hy] at hbk
      have H := hid (addTimes_any M bs g k m (n + m - k) bo m capb B y wr HM.out (by omega) hm (Nat.le_refl _) (by omega) (by omega) hMw hb (hS.but hbut (by omega) hB) hB hyl)
      have HX := (Aside.intro (And.intro hy hn))
      clear hy hR hS hm hb hx hn hB1 hg hMw hMl hMs hbut hbc hW1s
      go_wp2_with fail
      refine (Calls.mono H.out) ?_
      rintro r W3 ⟨M2, c, rfl, hc1, hO3, hM2, hout, hsum, hbut2⟩
      obtain ⟨hMw, hMl, hMs, hbut⟩ := HA.out
      have hgc := hO3.cell (k + m) (by rw [hout.1]; omega)
      have hgf := hO3.frozen (k + m)
      have HI := (Aside.intro (And.intro hc1 (And.intro hO3 (And.intro hM2 (And.intro hout (And.intro hsum hbut2))))))
      clear hc1 hO3 hM2 hout hsum hbut2 hMw hMl hMs hbut H
      go_wp2
      go_roundg (gk - 1)
      case measure => omega
      case rel =>
        obtain ⟨hy, hn⟩ := HX.out
        obtain ⟨hMw, hMl, hMs, hbut⟩ := HA.out
        obtain ⟨hc1, hO3, hM2, hout, hsum, hbut2⟩ := HI.out
        refine ⟨k + 1, M2.set (k + m) c, by omega, by go_num, hO3.set _ _, hM2.set _ _ hc1, by simp [hout.1, hMl], ?_, (hbut.trans hbut2).set _ _⟩
        have e1 := sg_set_last M2 0 (k + m) c (by rw [hout.1]; omega)
        rw [Nat.zero_add] at e1
        have e2 := sg_add M2 0 k m (by rw [hout.1]; omega)
        have e3 := sg_add M 0 k m (by omega)
        rw [Nat.zero_add] at e2 e3
        have e4 := hout.below 0 k (by omega) (by omega)
        rw [show k + 1 + m = k + m + 1 by omega, e1, e2, e4, sg_succ xs 0 k (by omega), Nat.zero_add, hy, pw_add]
        rw [e3] at hMs
        rw [Nat.mul_comm c] at hsum
        have := mul_step (pw k) _ _ y _ _ c hMs
        rw [← hsum] at this
        rw [← this, Nat.mul_add, Nat.mul_assoc, Nat.add_assoc]
    · obtain rfl : k = n := by omega
      obtain ⟨hMw, hMl, hMs, hbut⟩ := HA.out
      have T := hid (trim_any M (some ⟨g, 0, none⟩) (k + m) (k + m) (g + 1) wr hMl.symm (Nat.le_refl _) (by omega) (by simpa [hMl, List.take_of_length_le] using Rd.ofOwn HM.out 0 (k + m)))
      clear hMw hMl hMs hbut
      go_wp2_with fail
      refine (Calls.mono T.out) ?_
      rintro r w1 ⟨rfl, rfl⟩
      go_wp2
      go_ret
      obtain ⟨hR, hS, hm, hb, hx, hn, hB1, hg⟩ := HR.out
      obtain ⟨hMw, hMl, hMs, hbut⟩ := HA.out
      have e1 : sg M 0 (k + m) = val M := by rw [← hMl]; exact sg_all M
      have e2 : sg xs 0 k = val xs := by rw [hn]; exact sg_all xs
      rw [e1, e2] at hMs
      refine ⟨_, rfl, ?_, ?_⟩
      · have N := Nt.ofOwn (lo := g) HM.out (Nat.le_refl _) hMw (by rw [hMl]; unfold maxLen; omega)
        rw [← hMs, ← hg]
        rw [hMl] at N
        exact N
      · rw [← hg]
        exact But.below hB1 hbut (by have := hB1.size; omega) (Nat.le_refl _)
end Go.Proofs.YtlhiccmdhnhdeaaDoor
