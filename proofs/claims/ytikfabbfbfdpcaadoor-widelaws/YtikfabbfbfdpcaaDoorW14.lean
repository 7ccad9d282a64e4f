/- How many noughts stand at the low end: of a word, of a Nat. -/
import Derived.Test.YtikfabbfbfdpcaaDoorW13
import Derived.Test.YtikfabbfbfdpcaaDoorM4
namespace Go.Proofs.YtikfabbfbfdpcaaDoor
open Go.RowKit
set_option linter.unusedVariables false

/-- The library's table, as its initialiser lays it. -/
def Tab (w : World) : Prop := ∀ j, j < 32 → w.cell? ⟨0, j, none⟩ = some (.int .u8 (Lib.deBruijn32tab.getD j 0))
theorem Tab.below {B : Nat} {w w' : World} (h : Tab w) (hb : Below B w w') (hB : 0 < B) : Tab w' := fun j hj => (hb.cell (p := ⟨0, j, none⟩) hB).trans (h j hj)
theorem Tab.pos {w : World} (h : Tab w) : 0 < w.heap.size := World.block_lt_of_cell? w ⟨0, 0, none⟩ (h 0 (by decide))
theorem Tab.belows {w w' : World} (h : Tab w) (hb : Below w.heap.size w w') : Tab w' := h.below hb h.pos

set_option maxHeartbeats 1000000 in
theorem tz_core (x k idx : Nat) (w : World) (hx0 : ((x : Int) == 0) = false)
    (key : bits BinOp.and IntKind.u32 (x : Int) (-(x : Int) % 4294967296) * 125613361 % 4294967296 / 134217728 = (idx : Int))
    (hi : idx < 32) (hk : k < 32) (hcell : w.cell? ⟨0, idx, none⟩ = some (.int .u8 k)) :
    Calls Tryd.prog 57 #[.int .u32 x] w fun e w' => e = .returned (.int .i64 k) ∧ w' = w := by
  go_enter Tryd.func57, Tryd.ntmps57
  go_wp2_with (simp only [key])
  go_ret
  exact ⟨rfl, rfl⟩

theorem tz_key (x a : Nat) (hx : x < 4294967296) (hx0 : x ≠ 0) (hlow : x &&& (4294967296 - x) = a) :
    bits BinOp.and IntKind.u32 (x : Int) (-(x : Int) % 4294967296) * 125613361 % 4294967296 / 134217728 = ((a * 125613361 % 4294967296 / 134217728 : Nat) : Int) := by
  rw [show -(x : Int) % 4294967296 = ((4294967296 - x : Nat) : Int) by omega, and32 x _ hx (by omega), hlow]
  omega

theorem tz_any (x : Nat) (hx : x < 4294967296) (hx0 : x ≠ 0) (w : World) (hT : Tab w) :
    Calls Tryd.prog 57 #[.int .u32 (x : Int)] w fun e w' => e = .returned (.int .i64 (Lib.ctz 32 x : Nat)) ∧ w' = w := by
  obtain ⟨hlow, hk⟩ := Lib.lowest_bit 32 x hx0 hx
  obtain ⟨hi, htab⟩ := Lib.deBruijn32_at _ hk
  have hcell := hT _ hi
  rw [htab] at hcell
  exact tz_core x _ _ w (by simp; omega) (tz_key x _ hx hx0 hlow) hi hk hcell

/-- How many noughts stand at a number's low end. -/
def lo (n : Nat) : Nat := if h : n = 0 then 0 else if n % 2 = 1 then 0 else lo (n / 2) + 1
termination_by n
decreasing_by omega

theorem lo_zero : lo 0 = 0 := by rw [lo]; simp
theorem lo_odd (m : Nat) : lo (2 * m + 1) = 0 := by rw [lo]; simp
theorem lo_eq (i m : Nat) : lo (2 ^ i * (2 * m + 1)) = i := by
  induction i with
  | zero => rw [Nat.pow_zero, Nat.one_mul]; exact lo_odd m
  | succ i ih =>
    have h : 2 ^ (i + 1) * (2 * m + 1) = 2 * (2 ^ i * (2 * m + 1)) := by rw [Nat.pow_succ]; grind
    have hp : 0 < 2 ^ i * (2 * m + 1) := Nat.mul_pos (Nat.two_pow_pos i) (by omega)
    rw [h, lo, dif_neg (by omega), if_neg (by omega), Nat.mul_div_cancel_left _ (by decide), ih]

theorem lo_words (xs : List Nat) (k : Nat) (hx : Wf xs) (hk : k < xs.length) (h0 : sg xs 0 k = 0) (hw : xs.getD k 0 ≠ 0) : lo (val xs) = 32 * k + Lib.ctz 32 (xs.getD k 0) := by
  have hl := hx.get k
  obtain ⟨m, hm, hc⟩ := Lib.ctzFrom_spec 32 (xs.getD k 0) (by omega) hl
  have hcz : Lib.ctz 32 (xs.getD k 0) = Lib.ctzFrom 32 (xs.getD k 0) := by simp only [Lib.ctz, if_neg hw]
  rw [hcz]
  obtain ⟨c, hc'⟩ : ∃ c, Lib.ctzFrom 32 (xs.getD k 0) = c := ⟨_, rfl⟩
  rw [hc'] at hm hc ⊢
  have e := val_take_drop xs k (by omega)
  rw [← sg_val_take, h0, Nat.zero_add, val_drop_succ xs k hk, hm] at e
  have e2 : 4294967296 = 2 ^ c * (2 * 2 ^ (31 - c)) := by
    rw [← Nat.mul_assoc, Nat.mul_comm (2 ^ c) 2, Nat.mul_assoc, ← Nat.pow_add, show c + (31 - c) = 31 by omega]
  have e3 : val xs = 2 ^ (32 * k + c) * (2 * (m + 2 ^ (31 - c) * val (xs.drop (k + 1))) + 1) := by
    rw [e, Nat.pow_add, Nat.pow_mul]
    have : (2 ^ 32 : Nat) ^ k = pw k := rfl
    rw [this]
    have : 4294967296 * val (xs.drop (k + 1)) = 2 ^ c * (2 * 2 ^ (31 - c)) * val (xs.drop (k + 1)) := by rw [← e2]
    rw [this]
    grind
  rw [e3, lo_eq]

set_option maxHeartbeats 2000000 in
theorem low_any (xs : List Nat) (ao : Option Addr) (n cap B : Nat) (w : World) (hn : n = xs.length) (hm : n ≤ 70368744177664) (hx : Wf xs) (hR : Rd B w ao xs) (hT : Tab w) :
    Calls Tryd.prog 22 #[.slice ao n cap] w fun r w' => r = .returned (.int .i64 (lo (val xs) : Nat)) ∧ w' = w := by
  have HT := (hid hT)
  have HR := (Aside.intro (And.intro hR (And.intro hn hx)))
  clear hR hn hx hT
  go_enter Tryd.func22, Tryd.ntmps22
  go_wp2
  go_loopg [7] n (fun gk i wr => ∃ k : Nat, gk + k = n ∧ i = .int .i64 (k : Nat) ∧ wr = w ∧ Aside (sg xs 0 k = 0))
  case atStart => exact ⟨0, by omega, rfl, rfl, sg_zero _ _⟩
  case round =>
    obtain ⟨k, hgk, rfl, rfl, HA⟩ := hrel
    by_cases hk : k < n
    · obtain ⟨hR, hn, hx⟩ := HR.out
      obtain ⟨b, boff, hbB, rfl, hbc⟩ := hR (by intro e; subst e; simp at hn; omega)
      have hbk := hbc k (by omega)
      obtain ⟨x, hxx⟩ : ∃ x : Nat, xs.getD k 0 = x := ⟨_, rfl⟩
      have hxl : x < 4294967296 := hxx ▸ hx.get _
      rw [hxx] at hbk
      by_cases h0 : x = 0
      · subst h0
        have HX := (Aside.intro hxx)
        clear hxx hR hn hx hbc
        go_wp2
        go_roundg (gk - 1)
        case measure => omega
        case rel =>
          obtain ⟨hR, hn, hx⟩ := HR.out
          refine ⟨k + 1, by omega, by go_num, rfl, ?_⟩
          have h1 := HA.out
          rw [Aside, sg_succ xs 0 k (by omega), Nat.zero_add, HX.out, h1]
          omega
      · have hz := lo_words xs k hx (by omega) HA.out (by rw [hxx]; exact h0)
        rw [hxx] at hz
        obtain ⟨hc, hc32⟩ := Lib.lowest_bit 32 x h0 hxl
        have H := hid (tz_any x hxl h0 wr HT.out)
        obtain ⟨c, hcc⟩ : ∃ c, Lib.ctz 32 x = c := ⟨_, rfl⟩
        rw [hcc] at H hz hc32
        have HZ := (Aside.intro hz)
        clear hxx hR hn hx hbc hc hz hcc
        go_wp2_with fail
        refine (Calls.mono H.out) ?_
        rintro r w1 ⟨rfl, rfl⟩
        go_wp2
        go_ret
        rw [HZ.out]
        exact ⟨congrArg (fun z => Ending.returned (Value.int IntKind.i64 z)) (by omega), rfl⟩
    · obtain rfl : k = n := by omega
      obtain ⟨hR, hn, hx⟩ := HR.out
      have h1 := HA.out
      have h2 : val xs = 0 := by rw [← sg_all, ← hn]; exact h1
      have H2 := (Aside.intro h2)
      clear hR hn hx h1 h2 HA HR
      go_wp2
      go_ret
      rw [H2.out, lo_zero]
      exact ⟨rfl, rfl⟩
end Go.Proofs.YtikfabbfbfdpcaaDoor
