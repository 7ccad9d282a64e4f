/- addTimes: a product added in place. -/
import Derived.Test.YtlhiccmdhnhdeaaDoorW2
import Derived.Test.YtlhiccmdhnhdeaaDoorM4
namespace Go.Proofs.YtlhiccmdhnhdeaaDoor
open Go.RowKit
set_option linter.unusedVariables false

set_option maxHeartbeats 2000000 in
theorem addTimes_any (L bs : List Nat) (g off n cap : Nat) (ao : Option Addr) (m capb B q : Nat) (w : World)
    (hO : Own w g L) (hoff : off + n ≤ L.length) (hm : m = bs.length) (hmn : m ≤ n) (hcap : n ≤ cap) (hbig : n ≤ 4611686018427387904) (hL : Wf L) (hb : Wf bs) (hR : Rd B w ao bs) (hB : B ≤ g) (hq : q < 4294967296) :
    Calls Tryd.prog 123 #[.slice (some ⟨g, off, none⟩) n cap, .slice ao m capb, .int .u32 (q : Nat)] w fun r w' =>
      ∃ M c, r = .returned (.int .u32 (c : Nat)) ∧ c < 4294967296 ∧ Own w' g M ∧ Wf M ∧ Out L M off m ∧ sg M off m + c * pw m = sg L off m + val bs * q ∧ But g w w' := by
  have HR : Aside (Rd B w ao bs ∧ m = bs.length ∧ Wf bs ∧ Wf L ∧ off + n ≤ L.length) := ⟨hR, hm, hb, hL, hoff⟩
  have HO : Hid (Own w g L) := hO
  clear hR hm hb hL hO hoff
  go_enter Tryd.func123, Tryd.ntmps123
  go_wp2
  go_loopg [7, 13] m (fun gk c i wr => ∃ (k cv : Nat) (M : List Nat), gk + k = m ∧ c = .int .u64 (cv : Nat) ∧ cv < 4294967296 ∧ i = .int .i64 (k : Nat) ∧
      Hid (Own wr g M) ∧ Aside (Wf M ∧ Out L M off k ∧ sg M off k + cv * pw k = sg L off k + sg bs 0 k * q ∧ But g w wr))
  case atStart => exact ⟨0, 0, L, by omega, rfl, by omega, rfl, HO, HR.out.2.2.2.1, Out.refl _ _ _, by simp [sg_zero], But.refl _ _⟩
  case round =>
    obtain ⟨k, cv, M, hgk, rfl, hcv, rfl, HM, HA⟩ := hrel
    by_cases hk : k < m
    · obtain ⟨hR, hm, hb, hL, hoff⟩ := HR.out
      obtain ⟨hMw, hMo, hMs, hbut⟩ := HA.out
      obtain ⟨b, boff, hbB, rfl, hbc⟩ := hR (by intro e; subst e; simp at hm; omega)
      have hbk : wr.cell? ⟨b, boff + k, none⟩ = some (.int .u32 ((bs.getD k 0 : Nat) : Int)) := by
        have h1 := hbut.block b (World.block_lt_of_cell? w ⟨b, boff + k, none⟩ (hbc k (by omega))) (by omega)
        exact (World.cell?_of_block (a := ⟨b, boff + k, none⟩) h1).trans (hbc k (by omega))
      have hgc := HM.out.cell (off + k) (by rw [hMo.1]; omega)
      have hgf := HM.out.frozen (off + k)
      obtain ⟨x, hx⟩ : ∃ x : Nat, M.getD (off + k) 0 = x := ⟨_, rfl⟩
      obtain ⟨y, hy⟩ : ∃ y : Nat, bs.getD k 0 = y := ⟨_, rfl⟩
      have hxl : x < 4294967296 := hx ▸ hMw.get _
      have hyl : y < 4294967296 := hy ▸ hb.get _
      rw [hx] at hgc
      rw [hy] at hbk
      have hp0 := mul_bound y q hyl hq
      have hp2 : (y : Int) * (q : Int) ≤ 18446744065119617025 := by rw [← Int.natCast_mul]; omega
      have hp1 : 0 ≤ (y : Int) * (q : Int) := by rw [← Int.natCast_mul]; omega
      obtain ⟨s, hs⟩ : ∃ s : Nat, s = (y * q + x + cv) % 4294967296 := ⟨_, rfl⟩
      obtain ⟨d, hd⟩ : ∃ d : Nat, d = (y * q + x + cv) / 4294967296 := ⟨_, rfl⟩
      have e0 : ((y * q + x + cv : Nat) : Int) = (y : Int) * q + x + cv := by simp only [Int.natCast_add, Int.natCast_mul]
      have e1 : ((y : Int) * q + x + cv) % 4294967296 = (s : Int) := by rw [← e0]; omega
      have e2 : ((y : Int) * q + x + cv) / 4294967296 = (d : Int) := by rw [← e0]; omega
      have HX : Aside (M.getD (off + k) 0 = x ∧ bs.getD k 0 = y ∧ s + d * 4294967296 = y * q + x + cv ∧ s < 4294967296 ∧ d < 4294967296) := ⟨hx, hy, by omega, by omega, by omega⟩
      clear hx hy hs hd hR hm hb hL hoff hMw hMo hMs hbut hbc e0 hp0
      go_wp2
      go_roundg (gk - 1)
      case measure => omega
      case rel =>
        obtain ⟨hx, hy, he, hs, hd⟩ := HX.out
        obtain ⟨hR, hm, hb, hL, hoff⟩ := HR.out
        obtain ⟨hMw, hMo, hMs, hbut⟩ := HA.out
        refine ⟨k + 1, d, M.set (off + k) s, by omega, rfl, hd, by go_num, HM.out.set _ _, hMw.set _ _ hs, (hMo.mono (by omega)).set _ _ (by omega) (by omega), ?_, hbut.set _ _⟩
        rw [sg_set_last _ _ _ _ (by rw [hMo.1]; omega), sg_succ L off k (by omega), sg_succ bs 0 k (by omega), Nat.zero_add, hy, pw_succ]
        have e : L.getD (off + k) 0 = x := by rw [← hx]; exact (hMo.2 _ (by omega)).symm
        rw [e]
        exact times_step _ _ _ _ _ _ _ _ _ _ hMs he
    · obtain rfl : k = m := by omega
      go_wp2
      go_ret
      obtain ⟨hR, hm, hb, hL, hoff⟩ := HR.out
      obtain ⟨hMw, hMo, hMs, hbut⟩ := HA.out
      refine ⟨M, cv, rfl, hcv, HM.out, hMw, hMo, ?_, hbut⟩
      rw [hMs, hm, sg_all]
end Go.Proofs.YtlhiccmdhnhdeaaDoor
