/- up: a number times a power of two in new memory. -/
import Derived.Test.YtlhiccmdhnhdeaaDoorW7
import Derived.Test.YtlhiccmdhnhdeaaDoorM6
namespace Go.Proofs.YtlhiccmdhnhdeaaDoor
open Go.RowKit
set_option linter.unusedVariables false

set_option maxHeartbeats 2000000 in
theorem up_any (xs : List Nat) (ao : Option Addr) (n cap B by' words rest : Nat) (w : World) (hn : n = xs.length) (hc : n ≤ cap) (hby : by' = 32 * words + rest) (hrest : rest < 32) (hbig : words + n ≤ 70368744177663)
    (hx : Wf xs) (hR : Rd B w ao xs) (hB : B ≤ w.heap.size) :
    Calls Tryd.prog 101 #[.slice ao n cap, .int .i64 (by' : Nat)] w fun r w' => ∃ v, r = .returned v ∧ Nt w.heap.size w' v (val xs * 2 ^ by') ∧ Below w.heap.size w w' := by
  obtain ⟨W1, hW1⟩ : ∃ W, W = w.alloc (.cells (madeCells #[.int .u32 0] (words + n + 1)) 57) := ⟨_, rfl⟩
  have hO1 : Own W1 w.heap.size (List.replicate (words + n + 1) 0) := by rw [hW1]; exact Own.made w _
  have hB1 : Below w.heap.size w W1 := by rw [hW1]; exact (Below.refl _ _).alloc (Nat.le_refl _) _
  have hmk := make_words ((words : Int) + n + 1) (words + n + 1) (by omega) (by omega) w
  rw [← hW1] at hmk
  have hR1 : Rd B W1 ao xs := hR.below (hB1.mono hB)
  have e1 : (by' : Int) / 32 = (words : Int) := by omega
  have e2 : (by' : Int) % 32 = (rest : Int) := by omega
  obtain ⟨g, hg⟩ : ∃ g, g = w.heap.size := ⟨_, rfl⟩
  rw [← hg] at hO1 hmk hB1 hB
  have HR := (Aside.intro (And.intro hR1 (And.intro hx (And.intro hn (And.intro hB1 (And.intro hg hby))))))
  have HO := hid hO1
  clear hn hx hR hO1 hB1 hW1 hR1 hg hby
  go_enter Tryd.func101, Tryd.ntmps101
  go_wp2
  go_loopg [23] n (fun gk i wr => ∃ (k : Nat) (M : List Nat), gk + k = n ∧ i = .int .i64 (k : Nat) ∧
      Hid (Own wr g M) ∧ Aside (Wf M ∧ M.length = words + n + 1 ∧ sg M 0 words = 0 ∧ M.getD (words + k) 0 < 2 ^ rest ∧ sg M words (k + 1) = sg xs 0 k * 2 ^ rest ∧ But g W1 wr))
  case atStart => exact ⟨0, _, by omega, rfl, HO, Wf.zeros _, by simp, sg_zeros _ _ _, by rw [getD_zeros]; exact Nat.two_pow_pos _, by rw [sg_zeros, sg_zero]; simp, But.refl _ _⟩
  case round =>
    obtain ⟨k, M, hgk, rfl, HM, HA⟩ := hrel
    by_cases hk : k < n
    · obtain ⟨hR, hx, hn, hB1, hg, hby⟩ := HR.out
      obtain ⟨hMw, hMl, hM0, hMt, hMs, hbut⟩ := HA.out
      have hW1s : g ≤ W1.heap.size := by have := hB1.size; omega
      obtain ⟨b, boff, hbB, rfl, hbc⟩ := hR (by intro e; subst e; simp at hn; omega)
      have hbk : wr.cell? ⟨b, boff + k, none⟩ = some (.int .u32 ((xs.getD k 0 : Nat) : Int)) := by
        have h1 := hbut.block b (World.block_lt_of_cell? W1 ⟨b, boff + k, none⟩ (hbc k (by omega))) (by omega)
        exact (World.cell?_of_block (a := ⟨b, boff + k, none⟩) h1).trans (hbc k (by omega))
      obtain ⟨y, hy⟩ : ∃ y : Nat, xs.getD k 0 = y := ⟨_, rfl⟩
      have hyl : y < 4294967296 := hy ▸ hx.get _
      rw [hy] at hbk
      have hgc := HM.out.cell (words + k) (by omega)
      have hgf := HM.out.frozen (words + k)
      have hgf2 := HM.out.frozen (words + k + 1)
      have hgc2 := HM.out.cell (words + k + 1) (by omega)
      obtain ⟨x, hxx⟩ : ∃ x : Nat, M.getD (words + k) 0 = x := ⟨_, rfl⟩
      have hxl : x < 4294967296 := hxx ▸ hMw.get _
      rw [hxx] at hgc
      obtain ⟨t, ht⟩ : ∃ t : Nat, t = y * 2 ^ rest := ⟨_, rfl⟩
      have htl : t < 18446744073709551616 := by rw [ht]; exact up_lt y rest hyl hrest
      have e3 : IntKind.u64.wrap ((y : Int) * 2 ^ rest) = (t : Int) := by
        have ec : (y : Int) * 2 ^ rest = (t : Int) := by rw [ht, Int.natCast_mul, Int.natCast_pow]; rfl
        rw [ec]
        exact wrap_u64n _ (by omega) (by omega)
      obtain ⟨s, hs⟩ : ∃ s : Nat, s = x + t % 4294967296 := ⟨_, rfl⟩
      obtain ⟨d, hd⟩ : ∃ d : Nat, d = t / 4294967296 := ⟨_, rfl⟩
      have e4' : x ||| (t % 4294967296) = s := by rw [hs, ht]; exact or_low x y rest hrest (by rw [← hxx]; exact hMt)
      have e4 : bits BinOp.or IntKind.u32 (x : Int) ((t : Int) % 4294967296) = (s : Int) := by
        have := or32 x (t % 4294967296) hxl (by omega)
        rw [e4'] at this
        rw [← this]; simp
      have e5 : (t : Int) / 4294967296 = (d : Int) := by omega
      have htl' : (t : Int) < 18446744073709551616 := by omega
      have hsl : s < 4294967296 := by rw [← e4']; exact Nat.or_lt_two_pow (n := 32) hxl (by omega)
      have HX := (Aside.intro (And.intro hy (And.intro hn (And.intro hxx (And.intro ht (And.intro hs (And.intro hd hsl)))))))
      clear hy hxx hR hx hn hB1 hg hMw hMl hM0 hMt hMs hbut hbc hW1s hby ht hs hd htl e4' hsl
      go_wp2
      go_roundg (gk - 1)
      case measure => omega
      case rel =>
        obtain ⟨hy, hn, hxx, ht, hs, hd, hsl⟩ := HX.out
        obtain ⟨hMw, hMl, hM0, hMt, hMs, hbut⟩ := HA.out
        have hdl : d < 2 ^ rest := by rw [hd, ht]; exact up_top y rest hyl
        have h2 := two_pow_lt rest hrest
        refine ⟨k + 1, (M.set (words + k) s).set (words + k + 1) d, by omega, by go_num, (HM.out.set _ _).set _ _, (hMw.set _ _ hsl).set _ _ (by omega), by simp [hMl], ?_, ?_, ?_, (hbut.set _ _).set _ _⟩
        · rw [sg_set_above _ _ _ _ _ (by omega) (by simp; omega), sg_set_above _ _ _ _ _ (by omega) (by omega)]; exact hM0
        · rw [show words + (k + 1) = words + k + 1 by omega, getD_set_same _ _ _ (by simp; omega)]; exact hdl
        · have e1 := sg_set_last (M.set (words + k) s) words (k + 1) d (by simp; omega)
          rw [show words + (k + 1) = words + k + 1 by omega] at e1
          rw [e1, sg_set_last _ _ _ _ (by omega), sg_succ xs 0 k (by omega), Nat.zero_add, hy, pw_succ]
          rw [sg_succ _ _ _ (by omega), hxx] at hMs
          exact up_step (pw k) _ x t 0 _ s d y _ hMs ht hs hd
    · obtain rfl : k = n := by omega
      obtain ⟨hMw, hMl, hM0, hMt, hMs, hbut⟩ := HA.out
      have T := hid (trim_any M (some ⟨g, 0, none⟩) (words + k + 1) (words + k + 1) (g + 1) wr hMl.symm (Nat.le_refl _) (by omega) (by simpa [hMl, List.take_of_length_le] using Rd.ofOwn HM.out 0 (words + k + 1)))
      clear hMw hMl hM0 hMt hMs hbut
      go_wp2_with fail
      refine (Calls.mono T.out) ?_
      rintro r w1 ⟨rfl, rfl⟩
      go_wp2
      go_ret
      obtain ⟨hR, hx, hn, hB1, hg, hby⟩ := HR.out
      obtain ⟨hMw, hMl, hM0, hMt, hMs, hbut⟩ := HA.out
      have e3 : sg xs 0 k = val xs := by rw [hn]; exact sg_all xs
      have e4 : val M = val xs * 2 ^ by' := by
        rw [← sg_all M, hMl, show words + k + 1 = words + (k + 1) by omega, sg_add M 0 words (k + 1) (by omega), hM0, Nat.zero_add, Nat.zero_add, hMs, e3, hby, pw_two]
        grind
      refine ⟨_, rfl, ?_, ?_⟩
      · have N := Nt.ofOwn (lo := g) HM.out (Nat.le_refl _) hMw (by rw [hMl]; unfold maxLen; omega)
        rw [← e4, ← hg]
        rw [hMl] at N
        exact N
      · rw [← hg]
        exact But.below hB1 hbut (by have := hB1.size; omega) (Nat.le_refl _)
end Go.Proofs.YtlhiccmdhnhdeaaDoor
