/- takeTimes: a product taken away in place. -/
import Derived.Test.YtlhiccmdhnhdeaaDoorW2
import Derived.Test.YtlhiccmdhnhdeaaDoorM4
namespace Go.Proofs.YtlhiccmdhnhdeaaDoor
open Go.RowKit
set_option linter.unusedVariables false

set_option maxHeartbeats 2000000 in
theorem takeTimes_any (L bs : List Nat) (g off n cap : Nat) (ao : Option Addr) (m capb B q : Nat) (w : World)
    (hO : Own w g L) (hoff : off + n ≤ L.length) (hm : m = bs.length) (hmn : n = m + 1) (hcap : n ≤ cap) (hbig : n ≤ 4611686018427387904) (hL : Wf L) (hb : Wf bs) (hR : Rd B w ao bs) (hB : B ≤ g) (hq : q < 4294967296) :
    Calls Tryd.prog 138 #[.slice (some ⟨g, off, none⟩) n cap, .slice ao m capb, .int .u32 (q : Nat)] w fun r w' =>
      ∃ M, ∃ c : Nat, r = .returned (.bool (decide (0 < c))) ∧ c ≤ 1 ∧ Own w' g M ∧ Wf M ∧ Out L M off n ∧ sg M off n + val bs * q = sg L off n + c * pw n ∧ But g w w' := by
  have HR : Aside (Rd B w ao bs ∧ m = bs.length ∧ Wf bs ∧ Wf L ∧ off + n ≤ L.length ∧ n = m + 1) := ⟨hR, hm, hb, hL, hoff, hmn⟩
  have HO : Hid (Own w g L) := hO
  have HA32 : Hid (∀ x y c s d w, _ → _ → _ → _ → _ → _) := sub32_nat
  have hmn1 : m < n := by omega
  clear hR hm hb hL hO hoff hmn
  go_enter Tryd.func138, Tryd.ntmps138
  go_wp2
  go_loopg [7, 8, 14] m (fun gk c bo i wr => ∃ (k cv bv : Nat) (M : List Nat), gk + k = m ∧ c = .int .u64 (cv : Nat) ∧ cv < 4294967296 ∧ bo = .int .u32 (bv : Nat) ∧ bv ≤ 1 ∧ i = .int .i64 (k : Nat) ∧
      Hid (Own wr g M) ∧ Aside (Wf M ∧ Out L M off k ∧ sg M off k + sg bs 0 k * q = sg L off k + (cv + bv) * pw k ∧ But g w wr))
  case atStart => exact ⟨0, 0, 0, L, by omega, rfl, by omega, rfl, by omega, rfl, HO, HR.out.2.2.2.1, Out.refl _ _ _, by simp [sg_zero], But.refl _ _⟩
  case round =>
    obtain ⟨k, cv, bv, M, hgk, rfl, hcv, rfl, hbv, rfl, HM, HA⟩ := hrel
    by_cases hk : k < m
    · obtain ⟨hR, hm, hb, hL, hoff, hmn⟩ := HR.out
      obtain ⟨hMw, hMo, hMs, hbut⟩ := HA.out
      obtain ⟨b, boff, hbB, rfl, hbc⟩ := hR (by intro e; subst e; simp at hm; omega)
      have hbk : wr.cell? ⟨b, boff + k, none⟩ = some (.int .u32 ((bs.getD k 0 : Nat) : Int)) := by
        have h1 := hbut.block b (World.block_lt_of_cell? w ⟨b, boff + k, none⟩ (hbc k (by omega))) (by omega)
        exact (World.cell?_of_block (a := ⟨b, boff + k, none⟩) h1).trans (hbc k (by omega))
      have hgc := HM.out.cell (off + k) (by rw [hMo.1]; omega)
      have hgf := HM.out.frozen (off + k)
      obtain ⟨x, hx⟩ : ∃ x : Nat, M.getD (off + k) 0 = x := ⟨_, rfl⟩
      obtain ⟨y, hy⟩ : ∃ y : Nat, bs.getD k 0 = y := ⟨_, rfl⟩
      have hxl : x < 4294967296 := hx ▸ hMw.get _
      have hyl : y < 4294967296 := hy ▸ hb.get _
      rw [hx] at hgc
      rw [hy] at hbk
      have hp0 := mul_bound y q hyl hq
      have hp2 : (y : Int) * (q : Int) ≤ 18446744065119617025 := by rw [← Int.natCast_mul]; omega
      have hp1 : 0 ≤ (y : Int) * (q : Int) := by rw [← Int.natCast_mul]; omega
      obtain ⟨tl, htl⟩ : ∃ s : Nat, s = (y * q + cv) % 4294967296 := ⟨_, rfl⟩
      obtain ⟨d, hd⟩ : ∃ d : Nat, d = (y * q + cv) / 4294967296 := ⟨_, rfl⟩
      have e0 : ((y * q + cv : Nat) : Int) = (y : Int) * q + cv := by simp only [Int.natCast_add, Int.natCast_mul]
      have e1 : ((y : Int) * q + cv) % 4294967296 = (tl : Int) := by rw [← e0]; omega
      have e2 : ((y : Int) * q + cv) / 4294967296 = (d : Int) := by rw [← e0]; omega
      obtain ⟨s, hs⟩ : ∃ s : Nat, (s : Int) = ((x : Int) - tl - bv) % 4294967296 := ⟨(((x : Int) - tl - bv) % 4294967296).toNat, by omega⟩
      obtain ⟨bn, hbn⟩ : ∃ bn : Nat, bn = if x < tl + bv then 1 else 0 := ⟨_, rfl⟩
      have htl2 : tl < 4294967296 := by omega
      have HX : Aside (M.getD (off + k) 0 = x ∧ bs.getD k 0 = y ∧ tl + d * 4294967296 = y * q + cv ∧ d < 4294967296 ∧ (s : Int) = ((x : Int) - tl - bv) % 4294967296 ∧ bn = if x < tl + bv then 1 else 0) := ⟨hx, hy, by omega, by omega, hs, hbn⟩
      clear hx hy hs hd hR hm hb hL hoff hMw hMo hMs hbut hbc e0 hp0 hbn htl hmn
      go_wp2_with fail
      refine (HA32.out x tl bv s bn _ hxl htl2 hbv HX.out.2.2.2.2.1 HX.out.2.2.2.2.2).mono ?_
      rintro r w1 ⟨rfl, rfl⟩
      go_wp2
      go_roundg (gk - 1)
      case measure => omega
      case rel =>
        obtain ⟨hx, hy, he, hd, hs, hbn⟩ := HX.out
        obtain ⟨hR, hm, hb, hL, hoff, hmn⟩ := HR.out
        obtain ⟨hMw, hMo, hMs, hbut⟩ := HA.out
        have hbn1 : bn ≤ 1 := by rw [hbn]; split <;> omega
        have hsum : s + tl + bv = x + bn * 4294967296 := by rw [hbn]; split <;> omega
        refine ⟨k + 1, d, bn, M.set (off + k) s, by omega, rfl, hd, rfl, hbn1, by go_num, HM.out.set _ _, hMw.set _ _ (by omega), (hMo.mono (by omega)).set _ _ (by omega) (by omega), ?_, hbut.set _ _⟩
        rw [sg_set_last _ _ _ _ (by rw [hMo.1]; omega), sg_succ L off k (by omega), sg_succ bs 0 k (by omega), Nat.zero_add, hy, pw_succ]
        have e : L.getD (off + k) 0 = x := by rw [← hx]; exact (hMo.2 _ (by omega)).symm
        rw [e]
        exact takes_step _ _ _ _ _ _ _ _ _ _ hMs (by rw [Nat.add_mul]; omega)
    · obtain rfl : k = m := by omega
      obtain ⟨hR, hm, hb, hL, hoff, hmn⟩ := HR.out
      obtain ⟨hMw, hMo, hMs, hbut⟩ := HA.out
      have hgc := HM.out.cell (off + k) (by rw [hMo.1]; omega)
      have hgf := HM.out.frozen (off + k)
      obtain ⟨x, hx⟩ : ∃ x : Nat, M.getD (off + k) 0 = x := ⟨_, rfl⟩
      have hxl : x < 4294967296 := hx ▸ hMw.get _
      rw [hx] at hgc
      obtain ⟨s, hs⟩ : ∃ s : Nat, (s : Int) = ((x : Int) - cv - bv) % 4294967296 := ⟨(((x : Int) - cv - bv) % 4294967296).toNat, by omega⟩
      obtain ⟨bn, hbn⟩ : ∃ bn : Nat, bn = if x < cv + bv then 1 else 0 := ⟨_, rfl⟩
      have HX : Aside (M.getD (off + k) 0 = x ∧ (s : Int) = ((x : Int) - cv - bv) % 4294967296 ∧ bn = if x < cv + bv then 1 else 0) := ⟨hx, hs, hbn⟩
      clear hx hs hR hm hb hL hoff hMw hMo hMs hbut hbn hmn
      go_wp2_with fail
      refine (HA32.out x cv bv s bn _ hxl hcv hbv HX.out.2.1 HX.out.2.2).mono ?_
      rintro r w1 ⟨rfl, rfl⟩
      go_wp2
      go_ret
      obtain ⟨hx, hs, hbn⟩ := HX.out
      obtain ⟨hR, hm, hb, hL, hoff, hmn⟩ := HR.out
      obtain ⟨hMw, hMo, hMs, hbut⟩ := HA.out
      have hbn1 : bn ≤ 1 := by rw [hbn]; split <;> omega
      have hsum : s + cv + bv = x + bn * 4294967296 := by rw [hbn]; split <;> omega
      refine ⟨M.set (off + k) s, bn, rfl, hbn1, HM.out.set _ _, hMw.set _ _ (by omega), (hMo.mono (by omega)).set _ _ (by omega) (by omega), ?_, hbut.set _ _⟩
      subst hmn
      rw [sg_set_last _ _ _ _ (by rw [hMo.1]; omega), sg_succ L off k (by omega), pw_succ]
      have e : L.getD (off + k) 0 = x := by rw [← hx]; exact (hMo.2 _ (by omega)).symm
      rw [e]
      have h2 := takes_step (pw k) _ _ _ _ x 0 q s bn hMs (by omega)
      rw [Nat.mul_zero, Nat.add_zero, hm, sg_all] at h2
      exact hm ▸ h2
end Go.Proofs.YtlhiccmdhnhdeaaDoor
