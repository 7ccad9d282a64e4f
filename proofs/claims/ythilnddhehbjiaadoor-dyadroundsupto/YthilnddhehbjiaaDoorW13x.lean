import Derived.Test.YthilnddhehbjiaaDoorM3x
import Derived.Lib.Strings
import Derived.Lib.Slices
import Derived.Lib.Small
import Derived.Lib.Walk
import Derived.Lib.BitFns
import Derived.Lib.Tables
import Derived.Lib.ItoaNum
import Derived.Lib.TrailingZeros
/- How many bits a word has; how many noughts stand at its low end. -/
namespace Go.Proofs.YthilnddhehbjiaaDoor
open Go.RowKit
set_option linter.unusedVariables false
set_option maxRecDepth 20000

/-- How many bits a number has. -/
def bl (n : Nat) : Nat := if n = 0 then 0 else n.log2 + 1

theorem bl_zero : bl 0 = 0 := rfl
theorem bl_lt (n : Nat) : n < 2 ^ bl n := by
  unfold bl
  split
  · next h => subst h; decide
  · exact Nat.lt_log2_self
theorem bl_ge (n : Nat) (h : n ≠ 0) : 2 ^ (bl n - 1) ≤ n := by
  unfold bl
  rw [if_neg h]
  exact Nat.log2_self_le h
theorem bl_pos (n : Nat) (h : n ≠ 0) : 0 < bl n := by unfold bl; rw [if_neg h]; omega
theorem bl_eq (n k : Nat) (h1 : 2 ^ k ≤ n) (h2 : n < 2 ^ (k + 1)) : bl n = k + 1 := by
  have hn : n ≠ 0 := by have := Nat.two_pow_pos k; omega
  have a : k < bl n := (Nat.pow_lt_pow_iff_right (a := 2) (by decide)).1 (Nat.lt_of_le_of_lt h1 (bl_lt n))
  have b : bl n - 1 < k + 1 := (Nat.pow_lt_pow_iff_right (a := 2) (by decide)).1 (Nat.lt_of_le_of_lt (bl_ge n hn) h2)
  omega

theorem bitLen_bl (x : Nat) (h : x < 18446744073709551616) : Lib.bitLen x = bl x := by
  by_cases h0 : x = 0
  · subst h0; decide
  · obtain ⟨h1, h2, h3⟩ := Lib.bitLenAux_bounds 64 x h h0
    obtain ⟨k, hk⟩ : ∃ k, Lib.bitLen x = k + 1 := ⟨Lib.bitLen x - 1, by unfold Lib.bitLen; omega⟩
    have hk' : Lib.bitLenAux 64 x = k + 1 := hk
    rw [hk'] at h2 h3
    rw [hk, bl_eq x k h2 h3]

theorem tab8 (n : Nat) (h : n < Lib.len8tab.size) : (Lib.len8tab[n]'h).toNat = Lib.bitLen n := by
  have hn : n < 256 := by rw [Lib.len8tab_size] at h; exact h
  have e := Lib.len8_eq ⟨n, hn⟩
  simp only [Lib.len8, Int.toNat_natCast] at e
  rw [getElem?_pos Lib.len8tab n h] at e
  exact Int.natCast_inj.1 (by simpa using e)

theorem fin_len (x i : Int) (c : Nat) (hc : c ≤ 56) (hi : i < 256) (hs : Lib.bitLen x.toNat = c + Lib.bitLen i.toNat) (hh : i.toNat < Lib.len8tab.size) (hi0 : 0 ≤ i) :
    wrap64 ((c : Int) + wrap64 ((Lib.len8tab[i.toNat]'hh).toNat : Int)) = (Lib.bitLen x.toNat : Int) := by
  have l := Lib.bitLen_le8 ⟨i.toNat, by omega⟩
  simp only at l
  rw [tab8, hs]
  unfold wrap64
  omega

theorem fin_len0 (x : Int) (hi : x < 256) (hi0 : 0 ≤ x) (hh : x.toNat < Lib.len8tab.size) :
    wrap64 (wrap64 ((Lib.len8tab[x.toNat]'hh).toNat : Int)) = (Lib.bitLen x.toNat : Int) := by
  have l := Lib.bitLen_le8 ⟨x.toNat, by omega⟩
  simp only at l
  rw [tab8]
  unfold wrap64
  omega

set_option maxHeartbeats 4000000 in
set_option maxRecDepth 100000 in
theorem len32_int (x : Int) (w : World) (h0 : 0 ≤ x) (h1 : x ≤ 4294967295) :
    Calls Tryd.prog 109 #[.int .u32 x] w fun e w' => e = .returned (.int .i64 (Lib.bitLen x.toNat)) ∧ w' = w := by
  have hsz : Lib.len8tab.size = 256 := Lib.len8tab_size
  go_enter Tryd.func109, Tryd.ntmps109
  go_wp2
  all_goals (go_ret; refine ⟨congrArg (fun z => Ending.returned (Value.int IntKind.i64 z)) ?_, rfl⟩)
  · exact fin_len x (x / 65536 / 256) 24 (by omega) (by omega) (by rw [Lib.bitLen_shift24 x.toNat (by omega) (by omega), show (x / 65536 / 256).toNat = x.toNat / 16777216 by omega]) (by omega) (by omega)
  · exact fin_len x (x / 65536) 16 (by omega) (by omega) (by rw [Lib.bitLen_shift16 x.toNat (by omega) (by omega), show (x / 65536).toNat = x.toNat / 65536 by omega]) (by omega) (by omega)
  · exact fin_len x (x / 256) 8 (by omega) (by omega) (by rw [Lib.bitLen_shift8 x.toNat (by omega) (by omega), show (x / 256).toNat = x.toNat / 256 by omega]) (by omega) (by omega)
  · exact fin_len0 x (by omega) (by omega) (by omega)

theorem len32_any (x : Nat) (w : World) (h : x < 4294967296) : Calls Tryd.prog 109 #[.int .u32 (x : Int)] w fun e w' => e = .returned (.int .i64 (bl x : Nat)) ∧ w' = w := by
  have := len32_int x w (by omega) (by omega)
  rw [Int.toNat_natCast, bitLen_bl x (by omega)] at this
  exact this

theorem bl_le32 (x : Nat) (h : x < 4294967296) : bl x ≤ 32 := by
  by_cases h0 : x = 0
  · subst h0; decide
  · have := bl_ge x h0
    have : 2 ^ (bl x - 1) < 2 ^ 32 := by omega
    have := (Nat.pow_lt_pow_iff_right (a := 2) (by decide)).1 this
    omega

theorem lead32_any (x : Nat) (w : World) (h : x < 4294967296) : Calls Tryd.prog 134 #[.int .u32 (x : Int)] w fun e w' => e = .returned (.int .i64 ((32 - bl x : Nat) : Int)) ∧ w' = w := by
  have H := hid (len32_any x w h)
  have hb := bl_le32 x h
  obtain ⟨k, hk⟩ : ∃ k, bl x = k := ⟨_, rfl⟩
  rw [hk] at H hb ⊢
  clear hk
  obtain ⟨z, hz⟩ : ∃ z, z = 32 - k := ⟨_, rfl⟩
  have e : (32 : Int) - (k : Int) = (z : Int) := by omega
  rw [← hz]
  clear hz
  go_enter Tryd.func134, Tryd.ntmps134
  go_wp2_with fail
  refine (Calls.mono H.out) ?_
  rintro r w1 ⟨rfl, rfl⟩
  go_wp2
  go_ret
  exact ⟨by first | rfl | rw [e], rfl⟩

set_option maxHeartbeats 4000000 in
set_option maxRecDepth 100000 in
theorem len64_int (x : Int) (w : World) (h0 : 0 ≤ x) (h1 : x ≤ 18446744073709551615) :
    Calls Tryd.prog 148 #[.int .u64 x] w fun e w' => e = .returned (.int .i64 (Lib.bitLen x.toNat)) ∧ w' = w := by
  have hsz : Lib.len8tab.size = 256 := Lib.len8tab_size
  go_enter Tryd.func148, Tryd.ntmps148
  go_wp2
  all_goals (go_ret; refine ⟨congrArg (fun z => Ending.returned (Value.int IntKind.i64 z)) ?_, rfl⟩)
  · exact fin_len x (x / 4294967296 / 65536 / 256) 56 (by omega) (by omega) (by rw [Lib.bitLen_shift56 x.toNat (by omega) (by omega), show (x / 4294967296 / 65536 / 256).toNat = x.toNat / 72057594037927936 by omega]) (by omega) (by omega)
  · exact fin_len x (x / 4294967296 / 65536) 48 (by omega) (by omega) (by rw [Lib.bitLen_shift48 x.toNat (by omega) (by omega), show (x / 4294967296 / 65536).toNat = x.toNat / 281474976710656 by omega]) (by omega) (by omega)
  · exact fin_len x (x / 4294967296 / 256) 40 (by omega) (by omega) (by rw [Lib.bitLen_shift40 x.toNat (by omega) (by omega), show (x / 4294967296 / 256).toNat = x.toNat / 1099511627776 by omega]) (by omega) (by omega)
  · exact fin_len x (x / 4294967296) 32 (by omega) (by omega) (by rw [Lib.bitLen_shift32 x.toNat (by omega) (by omega), show (x / 4294967296).toNat = x.toNat / 4294967296 by omega]) (by omega) (by omega)
  · exact fin_len x (x / 65536 / 256) 24 (by omega) (by omega) (by rw [Lib.bitLen_shift24 x.toNat (by omega) (by omega), show (x / 65536 / 256).toNat = x.toNat / 16777216 by omega]) (by omega) (by omega)
  · exact fin_len x (x / 65536) 16 (by omega) (by omega) (by rw [Lib.bitLen_shift16 x.toNat (by omega) (by omega), show (x / 65536).toNat = x.toNat / 65536 by omega]) (by omega) (by omega)
  · exact fin_len x (x / 256) 8 (by omega) (by omega) (by rw [Lib.bitLen_shift8 x.toNat (by omega) (by omega), show (x / 256).toNat = x.toNat / 256 by omega]) (by omega) (by omega)
  · exact fin_len0 x (by omega) (by omega) (by omega)

theorem blen_any (x : Nat) (w : World) (h : x < 18446744073709551616) : Calls Tryd.prog 136 #[.int .u64 (x : Int)] w fun e w' => e = .returned (.int .i64 (bl x : Nat)) ∧ w' = w := by
  have := len64_int x w (by omega) (by omega)
  rw [Int.toNat_natCast, bitLen_bl x (by omega)] at this
  have H := hid this
  clear this
  go_enter Tryd.func136, Tryd.ntmps136
  go_wp2_with fail
  refine (Calls.mono H.out) ?_
  rintro r w1 ⟨rfl, rfl⟩
  go_wp2
  go_ret
  exact ⟨rfl, rfl⟩
end Go.Proofs.YthilnddhehbjiaaDoor

/- How many noughts stand at the low end: of a word, of a Nat. -/
namespace Go.Proofs.YthilnddhehbjiaaDoor
open Go.RowKit
set_option linter.unusedVariables false
set_option maxRecDepth 20000

/-- The library's table, as its initialiser lays it. -/
def Tab (w : World) : Prop := ∀ j, j < 32 → w.cell? ⟨1, j, none⟩ = some (.int .u8 (Lib.deBruijn32tab.getD j 0))
theorem Tab.below {B : Nat} {w w' : World} (h : Tab w) (hb : Below B w w') (hB : 1 < B) : Tab w' := fun j hj => (hb.cell (p := ⟨1, j, none⟩) hB).trans (h j hj)
theorem Tab.pos {w : World} (h : Tab w) : 1 < w.heap.size := World.block_lt_of_cell? w ⟨1, 0, none⟩ (h 0 (by decide))
theorem Tab.belows {w w' : World} (h : Tab w) (hb : Below w.heap.size w w') : Tab w' := h.below hb h.pos

set_option maxHeartbeats 1000000 in
theorem tz_core (x k idx : Nat) (w : World) (hx0 : ((x : Int) == 0) = false)
    (key : bits BinOp.and IntKind.u32 (x : Int) (-(x : Int) % 4294967296) * 125613361 % 4294967296 / 134217728 = (idx : Int))
    (hi : idx < 32) (hk : k < 32) (hcell : w.cell? ⟨1, idx, none⟩ = some (.int .u8 k)) :
    Calls Tryd.prog 110 #[.int .u32 x] w fun e w' => e = .returned (.int .i64 k) ∧ w' = w := by
  go_enter Tryd.func110, Tryd.ntmps110
  go_wp2_with (simp only [key])
  go_ret
  exact ⟨rfl, rfl⟩

theorem tz_key (x a : Nat) (hx : x < 4294967296) (hx0 : x ≠ 0) (hlow : x &&& (4294967296 - x) = a) :
    bits BinOp.and IntKind.u32 (x : Int) (-(x : Int) % 4294967296) * 125613361 % 4294967296 / 134217728 = ((a * 125613361 % 4294967296 / 134217728 : Nat) : Int) := by
  rw [show -(x : Int) % 4294967296 = ((4294967296 - x : Nat) : Int) by omega, and32 x _ hx (by omega), hlow]
  omega

theorem tz_any (x : Nat) (hx : x < 4294967296) (hx0 : x ≠ 0) (w : World) (hT : Tab w) :
    Calls Tryd.prog 110 #[.int .u32 (x : Int)] w fun e w' => e = .returned (.int .i64 (Lib.ctz 32 x : Nat)) ∧ w' = w := by
  obtain ⟨hlow, hk⟩ := Lib.lowest_bit 32 x hx0 hx
  obtain ⟨hi, htab⟩ := Lib.deBruijn32_at _ hk
  have hcell := hT _ hi
  rw [htab] at hcell
  exact tz_core x _ _ w (by simp; omega) (tz_key x _ hx hx0 hlow) hi hk hcell

/-- How many noughts stand at a number's low end. -/
def lo (n : Nat) : Nat := if h : n = 0 then 0 else if n % 2 = 1 then 0 else lo (n / 2) + 1
termination_by n
decreasing_by omega

theorem lo_zero : lo 0 = 0 := by rw [lo]; simp
theorem lo_odd (m : Nat) : lo (2 * m + 1) = 0 := by rw [lo]; simp
theorem lo_eq (i m : Nat) : lo (2 ^ i * (2 * m + 1)) = i := by
  induction i with
  | zero => rw [Nat.pow_zero, Nat.one_mul]; exact lo_odd m
  | succ i ih =>
    have h : 2 ^ (i + 1) * (2 * m + 1) = 2 * (2 ^ i * (2 * m + 1)) := by rw [Nat.pow_succ]; grind
    have hp : 0 < 2 ^ i * (2 * m + 1) := Nat.mul_pos (Nat.two_pow_pos i) (by omega)
    rw [h, lo, dif_neg (by omega), if_neg (by omega), Nat.mul_div_cancel_left _ (by decide), ih]

theorem lo_words (xs : List Nat) (k : Nat) (hx : Wf xs) (hk : k < xs.length) (h0 : sg xs 0 k = 0) (hw : xs.getD k 0 ≠ 0) : lo (val xs) = 32 * k + Lib.ctz 32 (xs.getD k 0) := by
  have hl := hx.get k
  obtain ⟨m, hm, hc⟩ := Lib.ctzFrom_spec 32 (xs.getD k 0) (by omega) hl
  have hcz : Lib.ctz 32 (xs.getD k 0) = Lib.ctzFrom 32 (xs.getD k 0) := by simp only [Lib.ctz, if_neg hw]
  rw [hcz]
  obtain ⟨c, hc'⟩ : ∃ c, Lib.ctzFrom 32 (xs.getD k 0) = c := ⟨_, rfl⟩
  rw [hc'] at hm hc ⊢
  have e := val_take_drop xs k (by omega)
  rw [← sg_val_take, h0, Nat.zero_add, val_drop_succ xs k hk, hm] at e
  have e2 : 4294967296 = 2 ^ c * (2 * 2 ^ (31 - c)) := by
    rw [← Nat.mul_assoc, Nat.mul_comm (2 ^ c) 2, Nat.mul_assoc, ← Nat.pow_add, show c + (31 - c) = 31 by omega]
  have e3 : val xs = 2 ^ (32 * k + c) * (2 * (m + 2 ^ (31 - c) * val (xs.drop (k + 1))) + 1) := by
    rw [e, Nat.pow_add, Nat.pow_mul]
    have : (2 ^ 32 : Nat) ^ k = pw k := rfl
    rw [this]
    have : 4294967296 * val (xs.drop (k + 1)) = 2 ^ c * (2 * 2 ^ (31 - c)) * val (xs.drop (k + 1)) := by rw [← e2]
    rw [this]
    grind
  rw [e3, lo_eq]

set_option maxHeartbeats 2000000 in
theorem low_any (xs : List Nat) (ao : Option Addr) (n cap B : Nat) (w : World) (hn : n = xs.length) (hm : n ≤ 70368744177664) (hx : Wf xs) (hR : Rd B w ao xs) (hT : Tab w) :
    Calls Tryd.prog 58 #[.slice ao n cap] w fun r w' => r = .returned (.int .i64 (lo (val xs) : Nat)) ∧ w' = w := by
  have HT := (hid hT)
  have HR := (Aside.intro (And.intro hR (And.intro hn hx)))
  clear hR hn hx hT
  go_enter Tryd.func58, Tryd.ntmps58
  go_wp2
  go_loopg [7] n (fun gk i wr => ∃ k : Nat, gk + k = n ∧ i = .int .i64 (k : Nat) ∧ wr = w ∧ Aside (sg xs 0 k = 0))
  case atStart => exact ⟨0, by omega, rfl, rfl, sg_zero _ _⟩
  case round =>
    obtain ⟨k, hgk, rfl, rfl, HA⟩ := hrel
    by_cases hk : k < n
    · obtain ⟨hR, hn, hx⟩ := HR.out
      obtain ⟨b, boff, hbB, rfl, hbc⟩ := hR (by intro e; subst e; simp at hn; omega)
      have hbk := hbc k (by omega)
      obtain ⟨x, hxx⟩ : ∃ x : Nat, xs.getD k 0 = x := ⟨_, rfl⟩
      have hxl : x < 4294967296 := hxx ▸ hx.get _
      rw [hxx] at hbk
      by_cases h0 : x = 0
      · subst h0
        have HX := (Aside.intro hxx)
        clear hxx hR hn hx hbc
        go_wp2
        go_roundg (gk - 1)
        case measure => omega
        case rel =>
          obtain ⟨hR, hn, hx⟩ := HR.out
          refine ⟨k + 1, by omega, by go_num, rfl, ?_⟩
          have h1 := HA.out
          rw [Aside, sg_succ xs 0 k (by omega), Nat.zero_add, HX.out, h1]
          omega
      · have hz := lo_words xs k hx (by omega) HA.out (by rw [hxx]; exact h0)
        rw [hxx] at hz
        obtain ⟨hc, hc32⟩ := Lib.lowest_bit 32 x h0 hxl
        have H := hid (tz_any x hxl h0 wr HT.out)
        obtain ⟨c, hcc⟩ : ∃ c, Lib.ctz 32 x = c := ⟨_, rfl⟩
        rw [hcc] at H hz hc32
        have HZ := (Aside.intro hz)
        clear hxx hR hn hx hbc hc hz hcc
        go_wp2_with fail
        refine (Calls.mono H.out) ?_
        rintro r w1 ⟨rfl, rfl⟩
        go_wp2
        go_ret
        rw [HZ.out]
        exact ⟨congrArg (fun z => Ending.returned (Value.int IntKind.i64 z)) (by omega), rfl⟩
    · obtain rfl : k = n := by omega
      obtain ⟨hR, hn, hx⟩ := HR.out
      have h1 := HA.out
      have h2 : val xs = 0 := by rw [← sg_all, ← hn]; exact h1
      have H2 := (Aside.intro h2)
      clear hR hn hx h1 h2 HA HR
      go_wp2
      go_ret
      rw [H2.out, lo_zero]
      exact ⟨rfl, rfl⟩
end Go.Proofs.YthilnddhehbjiaaDoor

