/- cut: a quotient by a word in place. -/
import Derived.Test.YtlhiccmdhnhdeaaDoorW2
import Derived.Test.YtlhiccmdhnhdeaaDoorM4
namespace Go.Proofs.YtlhiccmdhnhdeaaDoor
open Go.RowKit
set_option linter.unusedVariables false

theorem or64_join (l x : Nat) (hl : l < 4294967296) (hx : x < 4294967296) : bits BinOp.or IntKind.u64 ((l : Int) * 4294967296) (x : Int) = ((l * 4294967296 + x : Nat) : Int) := by
  have e : ((l : Int) * 4294967296) = ((l * 4294967296 : Nat) : Int) := by simp only [Int.natCast_mul]; rfl
  rw [e, bits_or_u64_nat _ _ (by omega) (by omega)]
  have := Nat.two_pow_add_eq_or_of_lt (i := 32) (b := x) (by omega) l
  have e2 : 2 ^ 32 * l = l * 4294967296 := by rw [Nat.mul_comm]
  rw [e2] at this
  rw [this]

set_option maxHeartbeats 2000000 in
theorem cut_any (L : List Nat) (g off n cap q : Nat) (w : World)
    (hO : Own w g L) (hoff : off + n ≤ L.length) (hcap : n ≤ cap) (hbig : n ≤ 4611686018427387904) (hL : Wf L) (hq : q < 4294967296) (hq0 : 0 < q) :
    Calls Tryd.prog 62 #[.slice (some ⟨g, off, none⟩) n cap, .int .u32 (q : Nat)] w fun r w' =>
      ∃ M, ∃ c : Nat, r = .returned (.int .u32 (c : Nat)) ∧ c < q ∧ Own w' g M ∧ Wf M ∧ Out L M off n ∧ sg L off n = sg M off n * q + c ∧ But g w w' := by
  have HR : Aside (Wf L ∧ off + n ≤ L.length) := ⟨hL, hoff⟩
  have HO : Hid (Own w g L) := hO
  clear hL hO hoff
  go_enter Tryd.func62, Tryd.ntmps62
  go_wp2
  go_loopg [5, 6] n (fun k c i wr => ∃ (cv : Nat) (M : List Nat), k ≤ n ∧ c = .int .u64 (cv : Nat) ∧ cv < q ∧ i = .int .i64 ((k : Int) - 1) ∧
      Hid (Own wr g M) ∧ Aside (Wf M ∧ Out L M (off + k) (n - k) ∧ sg L (off + k) (n - k) = sg M (off + k) (n - k) * q + cv ∧ But g w wr))
  case atStart => exact ⟨0, L, Nat.le_refl _, rfl, hq0, rfl, HO, HR.out.1, Out.refl _ _ _, by simp [sg_zero], But.refl _ _⟩
  case round =>
    obtain ⟨cv, M, hk, rfl, hcv, rfl, HM, HA⟩ := hrel
    by_cases hk0 : gk = 0
    · subst hk0
      go_wp2
      go_ret
      obtain ⟨hMw, hMo, hMs, hbut⟩ := HA.out
      exact ⟨M, cv, rfl, hcv, HM.out, hMw, hMo, hMs, hbut⟩
    · obtain ⟨k, rfl⟩ : ∃ k, gk = k + 1 := ⟨gk - 1, by omega⟩
      obtain ⟨hL, hoff⟩ := HR.out
      obtain ⟨hMw, hMo, hMs, hbut⟩ := HA.out
      have hgc := HM.out.cell (off + k) (by rw [hMo.1]; omega)
      have hgf := HM.out.frozen (off + k)
      obtain ⟨x, hx⟩ : ∃ x : Nat, M.getD (off + k) 0 = x := ⟨_, rfl⟩
      have hxl : x < 4294967296 := hx ▸ hMw.get _
      rw [hx] at hgc
      obtain ⟨t, ht⟩ : ∃ t : Nat, t = cv * 4294967296 + x := ⟨_, rfl⟩
      have e1 : bits BinOp.or IntKind.u64 ((cv : Int) * 4294967296) (x : Int) = (t : Int) := by rw [or64_join cv x (by omega) hxl, ht]
      have ht2 : (t : Int) < 18446744073709551616 := by omega
      have hqlt : t / q < 4294967296 := by
        rw [Nat.div_lt_iff_lt_mul hq0]
        have : cv * 4294967296 + 4294967296 ≤ q * 4294967296 := by omega
        omega
      obtain ⟨s, hs⟩ : ∃ s : Nat, s = t / q := ⟨_, rfl⟩
      obtain ⟨d, hd⟩ : ∃ d : Nat, d = t % q := ⟨_, rfl⟩
      have e2 : (t : Int) / (q : Int) = (s : Int) := by rw [hs]; simp
      have e3 : (t : Int) % (q : Int) = (d : Int) := by rw [hd]; simp
      have hs2 : s < 4294967296 := by omega
      have hdq : d < q := by rw [hd]; exact Nat.mod_lt _ hq0
      have HX : Aside (M.getD (off + k) 0 = x ∧ cv * 4294967296 + x = s * q + d) := ⟨hx, by rw [hs, hd, ← ht, Nat.mul_comm]; exact (Nat.div_add_mod t q).symm⟩
      clear hx hs hd hL hoff hMw hMo hMs hbut ht hk0 hqlt
      go_wp2
      go_region
      all_goals (
        go_wp2
        go_roundg k
        case measure => omega
        case rel =>
          obtain ⟨hx, he⟩ := HX.out
          obtain ⟨hL, hoff⟩ := HR.out
          obtain ⟨hMw, hMo, hMs, hbut⟩ := HA.out
          have hx2 : L.getD (off + k) 0 = x := by rw [← hx]; exact (hMo.2 _ (by omega)).symm
          refine ⟨d, M.set (off + k) s, by omega, by first | rfl | rw [e3], hdq, by first | go_num | (congr 1; omega), (HM.out.set (off + k) s).drew, hMw.set _ _ hs2, ⟨by simp [hMo.1], fun j hj => ?_⟩, ?_, (hbut.set (off + k) _).drew⟩
          · by_cases hj2 : j = off + k
            · omega
            · rw [getD_set_ne _ _ _ _ (fun e => hj2 e.symm)]; exact hMo.2 j (by omega)
          · obtain ⟨r, hr⟩ : ∃ r, n - k = r + 1 := ⟨n - (k + 1), by omega⟩
            have hr2 : n - (k + 1) = r := by omega
            rw [hr2] at hMs
            rw [hr, sg_front L _ _ (by omega), sg_front _ _ _ (by simp [hMo.1]; omega), getD_set_same _ _ _ (by rw [hMo.1]; omega), sg_set_below _ _ _ _ _ (by omega) (by rw [hMo.1]; omega), hx2]
            exact cut_step _ _ _ _ _ _ _ hMs he)
end Go.Proofs.YtlhiccmdhnhdeaaDoor
