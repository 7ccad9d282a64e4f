/- Bit, Small. -/
import Derived.Test.YthilnddhehbjiaaDoorW15
import Derived.Test.YthilnddhehbjiaaDoorM8x
namespace Go.Proofs.YthilnddhehbjiaaDoor
open Go.RowKit
set_option linter.unusedVariables false
set_option maxRecDepth 20000

theorem bit_words (xs : List Nat) (hx : Wf xs) (k r : Nat) (hk : k < xs.length) (hr : r < 32) : val xs / 2 ^ (32 * k + r) % 2 = xs.getD k 0 / 2 ^ r % 2 := by
  have e := val_take_drop xs k (by omega)
  have hl : val (xs.take k) < pw k := by
    have := val_lt _ (hx.take k)
    rwa [List.length_take, Nat.min_eq_left (by omega)] at this
  rw [pw_two, ← Nat.div_div_eq_div_mul, e, Nat.add_mul_div_left _ _ (pw_pos k), Nat.div_eq_of_lt hl, Nat.zero_add, val_drop_succ xs k hk]
  have e2 : 4294967296 * val (xs.drop (k + 1)) = 2 ^ r * (2 * (2 ^ (31 - r) * val (xs.drop (k + 1)))) := by
    have : (4294967296 : Nat) = 2 ^ r * (2 * 2 ^ (31 - r)) := by
      rw [← Nat.mul_assoc, Nat.mul_comm (2 ^ r) 2, Nat.mul_assoc, ← Nat.pow_add, show r + (31 - r) = 31 by omega]
    rw [this]; grind
  rw [e2, Nat.add_mul_div_left _ _ (Nat.two_pow_pos r), Nat.add_mul_mod_self_left]

theorem bit_beyond (xs : List Nat) (hx : Wf xs) (i : Nat) (h : xs.length ≤ i / 32) : val xs / 2 ^ i % 2 = 0 := by
  have h1 := val_lt xs hx
  have h2 : pw xs.length ≤ 2 ^ i := by
    have : pw xs.length = 2 ^ (32 * xs.length) := by rw [← Nat.add_zero (32 * xs.length), pw_two]; simp
    rw [this]
    exact Nat.pow_le_pow_right (by decide) (by omega)
  rw [Nat.div_eq_of_lt (by omega)]

theorem and_one (z : Nat) (h : z < 4294967296) : bits BinOp.and IntKind.u32 (z : Int) 1 = ((z % 2 : Nat) : Int) := by
  have := and32 z 1 h (by decide)
  rw [Nat.and_one_is_mod] at this
  exact this

set_option maxHeartbeats 1000000 in
theorem bit_neg (ao : Option Addr) (n cap : Nat) (i : Int) (w : World) (hi : i < 0) :
    Calls Tryd.prog 59 #[.slice ao n cap, .int .i64 i] w fun r w' => r = .returned (.bool false) ∧ w' = w := by
  go_enter Tryd.func59, Tryd.ntmps59
  go_wp2
  go_ret
  exact ⟨rfl, rfl⟩

set_option maxHeartbeats 1000000 in
theorem bit_any (xs : List Nat) (ao : Option Addr) (n cap B i : Nat) (w : World) (hn : n = xs.length) (hx : Wf xs) (hR : Rd B w ao xs) (hi : i ≤ 9223372036854775807) :
    Calls Tryd.prog 59 #[.slice ao n cap, .int .i64 (i : Int)] w fun r w' => r = .returned (.bool (decide (val xs / 2 ^ i % 2 = 1))) ∧ w' = w := by
  obtain ⟨k, hk⟩ : ∃ k, k = i / 32 := ⟨_, rfl⟩
  obtain ⟨r, hr⟩ : ∃ r, r = i % 32 := ⟨_, rfl⟩
  have e1 : (i : Int) / 32 = (k : Int) := by omega
  have e2 : (i : Int) % 32 = (r : Int) := by omega
  by_cases hkn : k < n
  · have hb := bit_words xs hx k r (by omega) (by omega)
    rw [show 32 * k + r = i by omega] at hb
    rw [hb]
    obtain ⟨b, off, hB, rfl, hcell⟩ := hR (by intro e; subst e; simp at hn; omega)
    have hck := hcell k (by omega)
    obtain ⟨t, ht⟩ : ∃ t, xs.getD k 0 = t := ⟨_, rfl⟩
    have htl : t < 4294967296 := ht ▸ hx.get k
    rw [ht] at hck ⊢
    obtain ⟨z, hz⟩ : ∃ z, z = t / 2 ^ r := ⟨_, rfl⟩
    have hzt : z ≤ t := by rw [hz]; exact Nat.div_le_self _ _
    have e3 : (t : Int) / 2 ^ r = (z : Int) := by rw [hz]; simp
    have e4 := and_one z (by omega)
    have hr32 : r < 32 := by omega
    rw [← hz]
    clear hb hn hx hR hcell ht hz hk hr
    rcases (by omega : z % 2 = 0 ∨ z % 2 = 1) with hz2 | hz2
    · rw [hz2] at e4 ⊢
      clear hz2
      go_enter Tryd.func59, Tryd.ntmps59
      go_wp2
      go_ret
      exact ⟨rfl, rfl⟩
    · rw [hz2] at e4 ⊢
      clear hz2
      go_enter Tryd.func59, Tryd.ntmps59
      go_wp2
      go_ret
      exact ⟨rfl, rfl⟩
  · rw [bit_beyond xs hx i (by omega)]
    clear hn hx hR hk hr
    go_enter Tryd.func59, Tryd.ntmps59
    go_wp2
    go_ret
    exact ⟨rfl, rfl⟩

/-- What Small answers. -/
def smallV (X : Nat) : Value := if X < 18446744073709551616 then .tuple #[.int .u64 (X : Int), .int .i64 0] else .tuple #[.int .u64 0, .int .i64 2]

theorem nl_two (xs : List Nat) (hx : Wf xs) : nl xs ≤ 2 ↔ val xs < 18446744073709551616 := by
  rw [nl_eq_length xs hx, ws_len_le]
  rfl

set_option maxHeartbeats 1000000 in
theorem small_any (xs : List Nat) (ao : Option Addr) (n cap B : Nat) (w : World) (hn : n = xs.length) (hc : n ≤ cap) (hm : n ≤ 70368744177664) (hx : Wf xs) (hR : Rd B w ao xs) :
    Calls Tryd.prog 53 #[.slice ao n cap] w fun r w' => r = .returned (smallV (val xs)) ∧ w' = w := by
  have H := hid (trim_any xs ao n cap B w hn hc (by omega) hR)
  have hl := nl_le xs
  have h2 := nl_two xs hx
  have hf := val_form xs hx
  obtain ⟨m, hm'⟩ : ∃ m, nl xs = m := ⟨_, rfl⟩
  rw [hm'] at H hl h2 hf
  unfold smallV
  by_cases h : 2 < m
  · rw [if_neg (by omega)]
    clear h2 hl hn hx hR hm' hf
    go_enter Tryd.func53, Tryd.ntmps53
    go_wp2_with fail
    refine (Calls.mono H.out) ?_
    rintro r w1 ⟨rfl, rfl⟩
    go_wp2
    go_ret2
    exact ⟨rfl, rfl⟩
  · rw [if_pos (by omega)]
    rw [← sg_val_take] at hf
    have HR := (Aside.intro (And.intro hR (And.intro hn (And.intro hx (And.intro hl hf)))))
    have hm2 : m ≤ 2 := by omega
    clear h2 hl hn hx hR hm' hf h
    go_enter Tryd.func53, Tryd.ntmps53
    go_wp2_with fail
    refine (Calls.mono H.out) ?_
    rintro r w1 ⟨rfl, rfl⟩
    go_wp2
    go_loopg [4, 14] m (fun gk s i wr => ∃ (k sv : Nat), gk + k = m ∧ s = .int .u64 (sv : Nat) ∧ i = .int .i64 (k : Nat) ∧ wr = w1 ∧ Aside (sv = sg xs 0 k))
    case atStart => exact ⟨0, 0, by omega, rfl, rfl, rfl, (sg_zero _ _).symm⟩
    case round =>
      obtain ⟨k, sv, hgk, rfl, rfl, rfl, HA⟩ := hrel
      by_cases hk : k < m
      · obtain ⟨hR, hn, hx, hl, hf⟩ := HR.out
        obtain ⟨b, off, hB, rfl, hcell⟩ := hR (by intro e; subst e; simp at hl; omega)
        have hck := hcell k (by omega)
        obtain ⟨t, ht⟩ : ∃ t, xs.getD k 0 = t := ⟨_, rfl⟩
        have htl : t < 4294967296 := ht ▸ hx.get k
        rw [ht] at hck
        have hs1 := sg_lt xs 0 k hx (by omega)
        have hs2 := sg_succ xs 0 k (by omega)
        rw [Nat.zero_add, ht, ← HA.out] at hs2
        rw [← HA.out] at hs1
        have HX := (Aside.intro (And.intro hs1 hs2))
        clear hR hn hx hl hf hcell ht hs1 hs2
        rcases (by omega : k = 0 ∨ k = 1) with rfl | rfl
        · have hsv : sv = 0 := by have := HX.out.1; rw [pw_zero] at this; omega
          have e : bits BinOp.or IntKind.u64 (sv : Int) (t : Int) = (t : Int) := by rw [bits_or_u64_nat _ _ (by omega) (by omega), hsv, Nat.zero_or]
          rw [Nat.add_zero] at hck
          have HS := (Aside.intro hsv)
          clear hsv
          go_wp2
          go_roundg (gk - 1)
          case measure => omega
          case rel =>
            refine ⟨1, t, by omega, by first | rfl | rw [e], by go_num, rfl, ?_⟩
            have := HX.out.2
            rw [pw_zero, HS.out] at this
            rw [Aside, this]; omega
        · have hsv : sv < 4294967296 := by have := HX.out.1; rw [show (1 : Nat) = 0 + 1 from rfl, pw_succ, pw_zero] at this; omega
          have e := or64_join2 t sv htl hsv
          go_wp2
          go_roundg (gk - 1)
          case measure => omega
          case rel =>
            refine ⟨2, sv + t * 4294967296, by omega, by first | rfl | rw [e] | (rw [e]; rfl), by go_num, rfl, ?_⟩
            have := HX.out.2
            rw [show pw 1 = 4294967296 from rfl] at this
            rw [Aside, this]; omega
      · obtain rfl : k = m := by omega
        go_wp2
        go_ret2
        obtain ⟨hR, hn, hx, hl, hf⟩ := HR.out
        rw [← hf, ← HA.out]
        exact ⟨rfl, rfl⟩
end Go.Proofs.YthilnddhehbjiaaDoor
