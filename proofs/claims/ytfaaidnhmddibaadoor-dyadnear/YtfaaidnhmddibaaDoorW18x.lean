import Derived.Test.YtfaaidnhmddibaaDoorM3x
import Derived.Deep.RegionWith
/- guess: a quotient's word, or one more. -/
namespace Go.Proofs.YtfaaidnhmddibaaDoor
open Go.RowKit
set_option linter.unusedVariables false
set_option maxRecDepth 20000

end Go.Proofs.YtfaaidnhmddibaaDoor

/- addTo: a sum in place. -/
namespace Go.Proofs.YtfaaidnhmddibaaDoor
open Go.RowKit
set_option linter.unusedVariables false
set_option maxRecDepth 20000

set_option maxHeartbeats 2000000 in
theorem addTo_any (L bs : List Nat) (g off n cap : Nat) (ao : Option Addr) (m capb B : Nat) (w : World)
    (hO : Own w g L) (hoff : off + n ≤ L.length) (hm : m = bs.length) (hmn : m ≤ n) (hcap : n ≤ cap) (hbig : n ≤ 4611686018427387904) (hL : Wf L) (hb : Wf bs) (hR : Rd B w ao bs) (hB : B ≤ g) :
    Calls Tryd.prog 103 #[.slice (some ⟨g, off, none⟩) n cap, .slice ao m capb] w fun r w' =>
      ∃ M c, r = .returned (.int .u32 (c : Nat)) ∧ c ≤ 1 ∧ Own w' g M ∧ Wf M ∧ Out L M off n ∧ sg M off n + c * pw n = sg L off n + val bs ∧ But g w w' := by
  have HR : Aside (Rd B w ao bs ∧ m = bs.length ∧ Wf bs ∧ Wf L ∧ off + n ≤ L.length) := ⟨hR, hm, hb, hL, hoff⟩
  have HO : Hid (Own w g L) := hO
  have HA32 : Hid (∀ x y c s d w, _ → _ → _ → _ → _ → _) := add32_nat
  clear hR hm hb hL hO hoff
  go_enter Tryd.func103, Tryd.ntmps103
  go_wp2
  go_loopg [5, 11] m (fun gk c i wr => ∃ (k cv : Nat) (M : List Nat), gk + k = m ∧ c = .int .u32 (cv : Nat) ∧ cv ≤ 1 ∧ i = .int .i64 (k : Nat) ∧
      Hid (Own wr g M) ∧ Aside (Wf M ∧ Out L M off k ∧ sg M off k + cv * pw k = sg L off k + sg bs 0 k ∧ But g w wr))
  case atStart => exact ⟨0, 0, L, by omega, rfl, by omega, rfl, HO, HR.out.2.2.2.1, Out.refl _ _ _, by simp [sg_zero], But.refl _ _⟩
  case round =>
    obtain ⟨k, cv, M, hgk, rfl, hcv, rfl, HM, HA⟩ := hrel
    by_cases hk : k < m
    · obtain ⟨hR, hm, hb, hL, hoff⟩ := HR.out
      obtain ⟨hMw, hMo, hMs, hbut⟩ := HA.out
      obtain ⟨b, boff, hbB, rfl, hbc⟩ := hR (by intro e; subst e; simp at hm; omega)
      have hbk : wr.cell? ⟨b, boff + k, none⟩ = some (.int .u32 ((bs.getD k 0 : Nat) : Int)) := by
        have h1 := hbut.block b (World.block_lt_of_cell? w ⟨b, boff + k, none⟩ (hbc k (by omega))) (by omega)
        exact (World.cell?_of_block (a := ⟨b, boff + k, none⟩) h1).trans (hbc k (by omega))
      have hgc := HM.out.cell (off + k) (by rw [hMo.1]; omega)
      have hgf := HM.out.frozen (off + k)
      obtain ⟨x, hx⟩ : ∃ x : Nat, M.getD (off + k) 0 = x := ⟨_, rfl⟩
      obtain ⟨y, hy⟩ : ∃ y : Nat, bs.getD k 0 = y := ⟨_, rfl⟩
      have hxl : x < 4294967296 := hx ▸ hMw.get _
      have hyl : y < 4294967296 := hy ▸ hb.get _
      rw [hx] at hgc
      rw [hy] at hbk
      obtain ⟨s, hs⟩ : ∃ s : Nat, s = (x + y + cv) % 4294967296 := ⟨_, rfl⟩
      obtain ⟨d, hd⟩ : ∃ d : Nat, d = (x + y + cv) / 4294967296 := ⟨_, rfl⟩
      have HX : Aside (M.getD (off + k) 0 = x ∧ bs.getD k 0 = y ∧ s = (x + y + cv) % 4294967296 ∧ d = (x + y + cv) / 4294967296) := ⟨hx, hy, hs, hd⟩
      clear hx hy hs hd hR hm hb hL hoff hMw hMo hMs hbut hbc
      go_wp2_with fail
      refine (HA32.out x y cv s d _ hxl hyl hcv HX.out.2.2.1 HX.out.2.2.2).mono ?_
      rintro r w1 ⟨rfl, rfl⟩
      go_wp2
      go_roundg (gk - 1)
      case measure => omega
      case rel =>
        obtain ⟨hx, hy, hs, hd⟩ := HX.out
        obtain ⟨hR, hm, hb, hL, hoff⟩ := HR.out
        obtain ⟨hMw, hMo, hMs, hbut⟩ := HA.out
        refine ⟨k + 1, d, M.set (off + k) s, by omega, rfl, by omega, by go_num, HM.out.set _ _, hMw.set _ _ (by omega), (hMo.mono (by omega)).set _ _ (by omega) (by omega), ?_, hbut.set _ _⟩
        rw [sg_set_last _ _ _ _ (by rw [hMo.1]; omega), sg_succ L off k (by omega), sg_succ bs 0 k (by omega), Nat.zero_add, hy, pw_succ]
        have e : L.getD (off + k) 0 = x := by rw [← hx]; exact (hMo.2 _ (by omega)).symm
        rw [e]
        exact carry_step _ _ _ _ _ _ _ _ _ hMs (by omega)
    · obtain rfl : k = m := by omega
      have HA2 : Aside (Wf M ∧ Out L M off k ∧ sg M off k + cv * pw k = sg L off k + val bs ∧ But g w wr) := by
        obtain ⟨hR, hm, hb, hL, hoff⟩ := HR.out
        obtain ⟨hMw, hMo, hMs, hbut⟩ := HA.out
        refine ⟨hMw, hMo, ?_, hbut⟩
        rw [hMs, hm, sg_all]
      clear HA hgk HO hk
      go_wp2
      go_loopg [5, 8] (n - k) (fun g2 c i w2 => ∃ (j cv : Nat) (M : List Nat), g2 + j = n ∧ k ≤ j ∧ c = .int .u32 (cv : Nat) ∧ cv ≤ 1 ∧ i = .int .i64 (j : Nat) ∧
        Hid (Own w2 g M) ∧ Aside (Wf M ∧ Out L M off j ∧ sg M off j + cv * pw j = sg L off j + val bs ∧ But g w w2))
      case atStart => exact ⟨k, cv, M, by omega, Nat.le_refl _, rfl, hcv, rfl, HM, HA2.out⟩
      case round =>
        clear HM HA2 hcv
        obtain ⟨j, cv, M, hgj, hkj, rfl, hcv, rfl, HM, HA⟩ := hrel
        by_cases hj : j < n
        · by_cases h0 : cv = 0
          · subst h0
            go_wp2
            go_ret
            obtain ⟨hR, hm, hb, hL, hoff⟩ := HR.out
            obtain ⟨hMw, hMo, hMs, hbut⟩ := HA.out
            refine ⟨M, 0, rfl, by omega, HM.out, hMw, hMo.mono (by omega), ?_, hbut⟩
            rw [Nat.zero_mul, Nat.add_zero] at hMs ⊢
            exact seg_rest (by omega) (by omega) hMo hMs
          · obtain rfl : cv = 1 := by omega
            obtain ⟨hR, hm, hb, hL, hoff⟩ := HR.out
            obtain ⟨hMw, hMo, hMs, hbut⟩ := HA.out
            have hgc := HM.out.cell (off + j) (by rw [hMo.1]; omega)
            have hgf := HM.out.frozen (off + j)
            obtain ⟨x, hx⟩ : ∃ x : Nat, M.getD (off + j) 0 = x := ⟨_, rfl⟩
            have hxl : x < 4294967296 := hx ▸ hMw.get _
            rw [hx] at hgc
            obtain ⟨s, hs⟩ : ∃ s : Nat, s = (x + 0 + 1) % 4294967296 := ⟨_, rfl⟩
            obtain ⟨d, hd⟩ : ∃ d : Nat, d = (x + 0 + 1) / 4294967296 := ⟨_, rfl⟩
            have HX : Aside (M.getD (off + j) 0 = x ∧ s = (x + 0 + 1) % 4294967296 ∧ d = (x + 0 + 1) / 4294967296) := ⟨hx, hs, hd⟩
            clear hx hs hd hR hm hb hL hoff hMw hMo hMs hbut h0
            go_wp2_with fail
            refine (HA32.out x 0 1 s d _ hxl (by omega) (by omega) HX.out.2.1 HX.out.2.2).mono ?_
            rintro r w1 ⟨rfl, rfl⟩
            go_wp2
            go_roundg (gk - 1)
            case measure => omega
            case rel =>
              obtain ⟨hx, hs, hd⟩ := HX.out
              obtain ⟨hR, hm, hb, hL, hoff⟩ := HR.out
              obtain ⟨hMw, hMo, hMs, hbut⟩ := HA.out
              refine ⟨j + 1, d, M.set (off + j) s, by omega, by omega, rfl, by omega, by go_num, HM.out.set _ _, hMw.set _ _ (by omega), (hMo.mono (by omega)).set _ _ (by omega) (by omega), ?_, hbut.set _ _⟩
              rw [sg_set_last _ _ _ _ (by rw [hMo.1]; omega), sg_succ L off j (by omega), pw_succ]
              have e : L.getD (off + j) 0 = x := by rw [← hx]; exact (hMo.2 _ (by omega)).symm
              rw [e]
              have := carry_step (pw j) _ _ _ _ x 0 s d hMs (by omega)
              omega
        · obtain rfl : j = n := by omega
          go_wp2
          go_ret
          obtain ⟨hMw, hMo, hMs, hbut⟩ := HA.out
          exact ⟨M, cv, rfl, hcv, HM.out, hMw, hMo, hMs, hbut⟩
end Go.Proofs.YtfaaidnhmddibaaDoor

/- takeTimes: a product taken away in place. -/
namespace Go.Proofs.YtfaaidnhmddibaaDoor
open Go.RowKit
set_option linter.unusedVariables false
set_option maxRecDepth 20000

end Go.Proofs.YtfaaidnhmddibaaDoor

/- takeOut: how often a divisor goes into what is left, taken out in place. -/
namespace Go.Proofs.YtfaaidnhmddibaaDoor
open Go.RowKit
set_option linter.unusedVariables false
set_option maxRecDepth 20000

theorem take_low (U V P o c m : Nat) (h1 : m + V * o = U + c * P) (hc : c ≤ 1) (h2 : U < (o + 1) * V) (h3 : o * V ≤ U + V) (hm : m < P) (hV : V ≤ P) (h0 : c = 0) : m = U - o * V ∧ m < V ∧ U = o * V + m := by
  subst h0
  rw [Nat.mul_comm V] at h1
  rw [Nat.add_mul, Nat.one_mul] at h2
  refine ⟨by omega, by omega, by omega⟩

theorem take_back (U V P o c m M d : Nat) (h1 : m + V * (o + 1) = U + 1 * P) (h2 : U < (o + 1 + 1) * V) (h3 : (o + 1) * V ≤ U + V) (hm : m < P) (hM : M < P) (hb : M + d * P = m + V) (hd : d ≤ 1) (hU : U < V * 4294967296) (hVP : V * 4294967296 ≤ P * 4294967296) (hV : V ≤ P) :
    U = o * V + M ∧ M < V := by
  rw [Nat.one_mul] at h1
  have e : V * (o + 1) = o * V + V := by grind
  rw [e] at h1
  rw [Nat.add_mul, Nat.one_mul] at h3
  rcases (by omega : d = 0 ∨ d = 1) with rfl | rfl
  · exfalso
    rw [Nat.zero_mul] at hb
    omega
  · rw [Nat.one_mul] at hb
    constructor
    · omega
    · omega

end Go.Proofs.YtfaaidnhmddibaaDoor

