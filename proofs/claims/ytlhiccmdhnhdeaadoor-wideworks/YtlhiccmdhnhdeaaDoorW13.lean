/- How many bits a word has; how many noughts stand at its low end. -/
import Derived.Test.YtlhiccmdhnhdeaaDoorW2
import Derived.Lib.Strings
import Derived.Lib.Slices
import Derived.Lib.Small
import Derived.Lib.Walk
import Derived.Lib.BitFns
import Derived.Lib.Tables
import Derived.Lib.ItoaNum
import Derived.Lib.TrailingZeros
namespace Go.Proofs.YtlhiccmdhnhdeaaDoor
open Go.RowKit
set_option linter.unusedVariables false

/-- How many bits a number has. -/
def bl (n : Nat) : Nat := if n = 0 then 0 else n.log2 + 1

theorem bl_zero : bl 0 = 0 := rfl
theorem bl_lt (n : Nat) : n < 2 ^ bl n := by
  unfold bl
  split
  · next h => subst h; decide
  · exact Nat.lt_log2_self
theorem bl_ge (n : Nat) (h : n ≠ 0) : 2 ^ (bl n - 1) ≤ n := by
  unfold bl
  rw [if_neg h]
  exact Nat.log2_self_le h
theorem bl_pos (n : Nat) (h : n ≠ 0) : 0 < bl n := by unfold bl; rw [if_neg h]; omega
theorem bl_eq (n k : Nat) (h1 : 2 ^ k ≤ n) (h2 : n < 2 ^ (k + 1)) : bl n = k + 1 := by
  have hn : n ≠ 0 := by have := Nat.two_pow_pos k; omega
  have a : k < bl n := (Nat.pow_lt_pow_iff_right (a := 2) (by decide)).1 (Nat.lt_of_le_of_lt h1 (bl_lt n))
  have b : bl n - 1 < k + 1 := (Nat.pow_lt_pow_iff_right (a := 2) (by decide)).1 (Nat.lt_of_le_of_lt (bl_ge n hn) h2)
  omega

theorem bitLen_bl (x : Nat) (h : x < 18446744073709551616) : Lib.bitLen x = bl x := by
  by_cases h0 : x = 0
  · subst h0; decide
  · obtain ⟨h1, h2, h3⟩ := Lib.bitLenAux_bounds 64 x h h0
    obtain ⟨k, hk⟩ : ∃ k, Lib.bitLen x = k + 1 := ⟨Lib.bitLen x - 1, by unfold Lib.bitLen; omega⟩
    have hk' : Lib.bitLenAux 64 x = k + 1 := hk
    rw [hk'] at h2 h3
    rw [hk, bl_eq x k h2 h3]

theorem tab8 (n : Nat) (h : n < Lib.len8tab.size) : (Lib.len8tab[n]'h).toNat = Lib.bitLen n := by
  have hn : n < 256 := by rw [Lib.len8tab_size] at h; exact h
  have e := Lib.len8_eq ⟨n, hn⟩
  simp only [Lib.len8, Int.toNat_natCast] at e
  rw [getElem?_pos Lib.len8tab n h] at e
  exact Int.natCast_inj.1 (by simpa using e)

theorem fin_len (x i : Int) (c : Nat) (hc : c ≤ 56) (hi : i < 256) (hs : Lib.bitLen x.toNat = c + Lib.bitLen i.toNat) (hh : i.toNat < Lib.len8tab.size) (hi0 : 0 ≤ i) :
    wrap64 ((c : Int) + wrap64 ((Lib.len8tab[i.toNat]'hh).toNat : Int)) = (Lib.bitLen x.toNat : Int) := by
  have l := Lib.bitLen_le8 ⟨i.toNat, by omega⟩
  simp only at l
  rw [tab8, hs]
  unfold wrap64
  omega

theorem fin_len0 (x : Int) (hi : x < 256) (hi0 : 0 ≤ x) (hh : x.toNat < Lib.len8tab.size) :
    wrap64 (wrap64 ((Lib.len8tab[x.toNat]'hh).toNat : Int)) = (Lib.bitLen x.toNat : Int) := by
  have l := Lib.bitLen_le8 ⟨x.toNat, by omega⟩
  simp only at l
  rw [tab8]
  unfold wrap64
  omega

set_option maxHeartbeats 4000000 in
set_option maxRecDepth 100000 in
theorem len32_int (x : Int) (w : World) (h0 : 0 ≤ x) (h1 : x ≤ 4294967295) :
    Calls Tryd.prog 104 #[.int .u32 x] w fun e w' => e = .returned (.int .i64 (Lib.bitLen x.toNat)) ∧ w' = w := by
  have hsz : Lib.len8tab.size = 256 := Lib.len8tab_size
  go_enter Tryd.func104, Tryd.ntmps104
  go_wp2
  all_goals (go_ret; refine ⟨congrArg (fun z => Ending.returned (Value.int IntKind.i64 z)) ?_, rfl⟩)
  · exact fin_len x (x / 65536 / 256) 24 (by omega) (by omega) (by rw [Lib.bitLen_shift24 x.toNat (by omega) (by omega), show (x / 65536 / 256).toNat = x.toNat / 16777216 by omega]) (by omega) (by omega)
  · exact fin_len x (x / 65536) 16 (by omega) (by omega) (by rw [Lib.bitLen_shift16 x.toNat (by omega) (by omega), show (x / 65536).toNat = x.toNat / 65536 by omega]) (by omega) (by omega)
  · exact fin_len x (x / 256) 8 (by omega) (by omega) (by rw [Lib.bitLen_shift8 x.toNat (by omega) (by omega), show (x / 256).toNat = x.toNat / 256 by omega]) (by omega) (by omega)
  · exact fin_len0 x (by omega) (by omega) (by omega)

theorem len32_any (x : Nat) (w : World) (h : x < 4294967296) : Calls Tryd.prog 104 #[.int .u32 (x : Int)] w fun e w' => e = .returned (.int .i64 (bl x : Nat)) ∧ w' = w := by
  have := len32_int x w (by omega) (by omega)
  rw [Int.toNat_natCast, bitLen_bl x (by omega)] at this
  exact this

theorem bl_le32 (x : Nat) (h : x < 4294967296) : bl x ≤ 32 := by
  by_cases h0 : x = 0
  · subst h0; decide
  · have := bl_ge x h0
    have : 2 ^ (bl x - 1) < 2 ^ 32 := by omega
    have := (Nat.pow_lt_pow_iff_right (a := 2) (by decide)).1 this
    omega

theorem lead32_any (x : Nat) (w : World) (h : x < 4294967296) : Calls Tryd.prog 124 #[.int .u32 (x : Int)] w fun e w' => e = .returned (.int .i64 ((32 - bl x : Nat) : Int)) ∧ w' = w := by
  have H := hid (len32_any x w h)
  have hb := bl_le32 x h
  obtain ⟨k, hk⟩ : ∃ k, bl x = k := ⟨_, rfl⟩
  rw [hk] at H hb ⊢
  clear hk
  obtain ⟨z, hz⟩ : ∃ z, z = 32 - k := ⟨_, rfl⟩
  have e : (32 : Int) - (k : Int) = (z : Int) := by omega
  rw [← hz]
  clear hz
  go_enter Tryd.func124, Tryd.ntmps124
  go_wp2_with fail
  refine (Calls.mono H.out) ?_
  rintro r w1 ⟨rfl, rfl⟩
  go_wp2
  go_ret
  exact ⟨by first | rfl | rw [e], rfl⟩

set_option maxHeartbeats 4000000 in
set_option maxRecDepth 100000 in
theorem len64_int (x : Int) (w : World) (h0 : 0 ≤ x) (h1 : x ≤ 18446744073709551615) :
    Calls Tryd.prog 139 #[.int .u64 x] w fun e w' => e = .returned (.int .i64 (Lib.bitLen x.toNat)) ∧ w' = w := by
  have hsz : Lib.len8tab.size = 256 := Lib.len8tab_size
  go_enter Tryd.func139, Tryd.ntmps139
  go_wp2
  all_goals (go_ret; refine ⟨congrArg (fun z => Ending.returned (Value.int IntKind.i64 z)) ?_, rfl⟩)
  · exact fin_len x (x / 4294967296 / 65536 / 256) 56 (by omega) (by omega) (by rw [Lib.bitLen_shift56 x.toNat (by omega) (by omega), show (x / 4294967296 / 65536 / 256).toNat = x.toNat / 72057594037927936 by omega]) (by omega) (by omega)
  · exact fin_len x (x / 4294967296 / 65536) 48 (by omega) (by omega) (by rw [Lib.bitLen_shift48 x.toNat (by omega) (by omega), show (x / 4294967296 / 65536).toNat = x.toNat / 281474976710656 by omega]) (by omega) (by omega)
  · exact fin_len x (x / 4294967296 / 256) 40 (by omega) (by omega) (by rw [Lib.bitLen_shift40 x.toNat (by omega) (by omega), show (x / 4294967296 / 256).toNat = x.toNat / 1099511627776 by omega]) (by omega) (by omega)
  · exact fin_len x (x / 4294967296) 32 (by omega) (by omega) (by rw [Lib.bitLen_shift32 x.toNat (by omega) (by omega), show (x / 4294967296).toNat = x.toNat / 4294967296 by omega]) (by omega) (by omega)
  · exact fin_len x (x / 65536 / 256) 24 (by omega) (by omega) (by rw [Lib.bitLen_shift24 x.toNat (by omega) (by omega), show (x / 65536 / 256).toNat = x.toNat / 16777216 by omega]) (by omega) (by omega)
  · exact fin_len x (x / 65536) 16 (by omega) (by omega) (by rw [Lib.bitLen_shift16 x.toNat (by omega) (by omega), show (x / 65536).toNat = x.toNat / 65536 by omega]) (by omega) (by omega)
  · exact fin_len x (x / 256) 8 (by omega) (by omega) (by rw [Lib.bitLen_shift8 x.toNat (by omega) (by omega), show (x / 256).toNat = x.toNat / 256 by omega]) (by omega) (by omega)
  · exact fin_len0 x (by omega) (by omega) (by omega)

theorem blen_any (x : Nat) (w : World) (h : x < 18446744073709551616) : Calls Tryd.prog 126 #[.int .u64 (x : Int)] w fun e w' => e = .returned (.int .i64 (bl x : Nat)) ∧ w' = w := by
  have := len64_int x w (by omega) (by omega)
  rw [Int.toNat_natCast, bitLen_bl x (by omega)] at this
  have H := hid this
  clear this
  go_enter Tryd.func126, Tryd.ntmps126
  go_wp2_with fail
  refine (Calls.mono H.out) ?_
  rintro r w1 ⟨rfl, rfl⟩
  go_wp2
  go_ret
  exact ⟨rfl, rfl⟩
end Go.Proofs.YtlhiccmdhnhdeaaDoor
