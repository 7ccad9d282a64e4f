import Derived.Test.YthilnddhehbjiaaDoorW48x
import Derived.Test.YthilnddhehbjiaaDoorW16
/- Forms: the plain mathematics of dyads. -/
namespace Go.Proofs.YthilnddhehbjiaaDoor
open Go.RowKit
set_option linter.unusedVariables false
set_option maxRecDepth 20000

/-- The form of a value, if it may be. -/
def mkS (neg : Bool) (X : Nat) (e : Int) : Option (Bool × Nat × Int) :=
  if X = 0 then some (false, 0, 0)
  else if 262144 < bl X - lo X ∨ 1048576 - (lo X : Int) < e ∨ e < -1048576 - (lo X : Int) then none
  else some (neg, X / 2 ^ lo X, e + lo X)

def dN (o : Option (Bool × Nat × Int)) : Bool := (o.getD (false, 0, 0)).1
def dX (o : Option (Bool × Nat × Int)) : Nat := (o.getD (false, 0, 0)).2.1
def dE (o : Option (Bool × Nat × Int)) : Int := (o.getD (false, 0, 0)).2.2
def erS (o : Option (Bool × Nat × Int)) : Int := if o.isSome then 0 else 2

theorem bl_gt (X m : Nat) : m < bl X ↔ 2 ^ m ≤ X := by
  constructor
  · intro h
    have h0 : X ≠ 0 := by rintro rfl; rw [bl_zero] at h; omega
    exact Nat.le_trans (Nat.pow_le_pow_right (by omega) (by omega : m ≤ bl X - 1)) (bl_ge X h0)
  · intro h
    exact (Nat.pow_lt_pow_iff_right (by omega)).1 (Nat.lt_of_le_of_lt h (bl_lt X))

theorem len_bl (X k m : Nat) (hm : m = 32 * k) : k < (ws X).length ↔ m < bl X := by
  rw [bl_gt, hm, Nat.pow_mul]
  have h := ws_len_le X k
  unfold pw at h
  rw [show (2 : Nat) ^ 32 = 4294967296 from rfl]
  generalize 4294967296 ^ k = P at h ⊢
  omega

theorem LG_bl (X : Nat) : LG X ↔ 262144 < bl X := len_bl X 8192 262144 rfl

theorem bl_mul_pow (k Y : Nat) (h : Y ≠ 0) : bl (2 ^ k * Y) = k + bl Y := by
  have h1 := bl_lt Y
  have h2 := bl_ge Y h
  have h3 := bl_pos Y h
  have e : k + bl Y = (k + (bl Y - 1)) + 1 := by omega
  rw [e]
  apply bl_eq
  · rw [Nat.pow_add]; exact Nat.mul_le_mul_left _ h2
  · rw [show k + (bl Y - 1) + 1 = k + bl Y by omega, Nat.pow_add]
    exact Nat.mul_lt_mul_of_pos_left h1 (Nat.two_pow_pos k)

/-- What is odd in a number. -/
theorem odd_part (X : Nat) (h : X ≠ 0) : ∃ m, X = 2 ^ lo X * (2 * m + 1) ∧ X / 2 ^ lo X = 2 * m + 1 ∧ bl X = lo X + bl (X / 2 ^ lo X) := by
  obtain ⟨m, hm⟩ := lo_form X h
  have e : X / 2 ^ lo X = 2 * m + 1 := by
    obtain ⟨k, hk⟩ : ∃ k, lo X = k := ⟨_, rfl⟩
    rw [hk] at hm ⊢
    rw [hm, Nat.mul_div_cancel_left _ (Nat.two_pow_pos k)]
  refine ⟨m, hm, e, ?_⟩
  rw [e]
  obtain ⟨k, hk⟩ : ∃ k, lo X = k := ⟨_, rfl⟩
  rw [hk] at hm ⊢
  rw [hm]
  exact bl_mul_pow k _ (by omega)

theorem lo_double (X : Nat) (h : X ≠ 0) : lo (2 * X) = lo X + 1 := by
  obtain ⟨m, hm⟩ := lo_form X h
  obtain ⟨k, hk⟩ : ∃ k, lo X = k := ⟨_, rfl⟩
  rw [hk] at hm ⊢
  have e : 2 * X = 2 ^ (k + 1) * (2 * m + 1) := by rw [hm, Nat.pow_succ]; grind
  rw [e]
  exact lo_eq (k + 1) m

theorem bl_double (X : Nat) (h : X ≠ 0) : bl (2 * X) = bl X + 1 := by
  have := bl_mul_pow 1 X h
  rw [Nat.pow_one] at this
  omega

theorem mkS_double (n : Bool) (X : Nat) (e : Int) : mkS n (2 * X) e = mkS n X (e + 1) := by
  unfold mkS
  by_cases h : X = 0
  · subst h; simp
  · rw [if_neg (by omega), if_neg h, lo_double X h, bl_double X h]
    have e1 : 2 * X / 2 ^ (lo X + 1) = X / 2 ^ lo X := by
      rw [Nat.pow_succ, Nat.mul_comm (2 ^ lo X) 2, Nat.mul_div_mul_left _ _ (by omega)]
    rw [e1]
    have e2 : (262144 < bl X + 1 - (lo X + 1) ∨ 1048576 - ((lo X + 1 : Nat) : Int) < e ∨ e < -1048576 - ((lo X + 1 : Nat) : Int)) ↔ (262144 < bl X - lo X ∨ 1048576 - (lo X : Int) < e + 1 ∨ e + 1 < -1048576 - (lo X : Int)) := by omega
    by_cases h2 : 262144 < bl X - lo X ∨ 1048576 - (lo X : Int) < e + 1 ∨ e + 1 < -1048576 - (lo X : Int)
    · rw [if_pos h2, if_pos (e2.2 h2)]
    · rw [if_neg h2, if_neg (fun h3 => h2 (e2.1 h3))]
      congr 3
      omega

theorem mkS_zero (n : Bool) (e : Int) : mkS n 0 e = some (false, 0, 0) := by unfold mkS; rw [if_pos rfl]

theorem lo_odd' (X : Nat) (h : X % 2 = 1) : lo X = 0 := by
  have := lo_odd (X / 2)
  rw [show 2 * (X / 2) + 1 = X by omega] at this
  exact this

theorem mkS_odd (n : Bool) (X : Nat) (e : Int) (h : X % 2 = 1) : mkS n X e = if 262144 < bl X ∨ 1048576 < e ∨ e < -1048576 then none else some (n, X, e) := by
  have h0 : X ≠ 0 := by omega
  unfold mkS
  rw [if_neg h0, lo_odd' X h]
  simp only [Nat.sub_zero, Nat.pow_zero, Nat.div_one]
  by_cases h2 : 262144 < bl X ∨ 1048576 < e ∨ e < -1048576
  · rw [if_pos h2, if_pos (by omega)]
  · rw [if_neg h2, if_neg (by omega)]
    congr 3
    omega

/-- A form that may be. -/
structure Frm (n : Bool) (X : Nat) (e : Int) : Prop where
  odd : X % 2 = 1 ∨ (X = 0 ∧ n = false ∧ e = 0)
  size : bl X ≤ 262144
  up : e ≤ 1048576
  down : -1048576 ≤ e

theorem mkS_frm {n n' : Bool} {X Y : Nat} {e f : Int} (h : mkS n X e = some (n', Y, f)) : Frm n' Y f := by
  unfold mkS at h
  split at h
  · cases h
    exact ⟨.inr ⟨rfl, rfl, rfl⟩, by rw [bl_zero]; omega, by omega, by omega⟩
  · next h0 =>
    split at h
    · cases h
    · next h1 =>
      obtain ⟨m, hm, e1, hb⟩ := odd_part X h0
      cases h
      refine ⟨.inl (by rw [e1]; omega), by omega, by omega, by omega⟩

theorem Frm.self {n : Bool} {X : Nat} {e : Int} (h : Frm n X e) : mkS n X e = some (n, X, e) := by
  rcases h.odd with h1 | ⟨rfl, rfl, rfl⟩
  · rw [mkS_odd n X e h1, if_neg]
    have := h.size; have := h.up; have := h.down
    omega
  · exact mkS_zero _ _

theorem frm_len {n : Bool} {X : Nat} {e : Int} (h : Frm n X e) : (ws X).length ≤ 8192 := by
  have h1 := LG_bl X
  have h2 := h.size
  unfold LG at h1
  omega

theorem mkS_len (n : Bool) (X : Nat) (e : Int) : (ws (dX (mkS n X e))).length ≤ 8192 := by
  unfold dX
  cases h : mkS n X e with
  | none => simp [ws_zero]
  | some d =>
    obtain ⟨n', Y, f⟩ := d
    exact frm_len (mkS_frm h)
end Go.Proofs.YthilnddhehbjiaaDoor

/- dyad's word, window. -/
namespace Go.Proofs.YthilnddhehbjiaaDoor
open Go.RowKit
set_option linter.unusedVariables false
set_option maxRecDepth 20000

set_option maxHeartbeats 1000000 in
theorem word_in (xs : List Nat) (ao : Option Addr) (n cap B i : Nat) (w : World) (hn : n = xs.length) (hm : n ≤ 70368744177664) (hx : Wf xs) (hR : Rd B w ao xs) (hi : i < n) :
    Calls Tryd.prog 138 #[.slice ao n cap, .int .i64 (i : Nat)] w fun r w' => r = .returned (.int .u32 ((xs.getD i 0 : Nat) : Int)) ∧ w' = w := by
  obtain ⟨b, off, hb, rfl, hc⟩ := hR (by intro e; subst e; simp at hn; omega)
  have hcell := hc i (by omega)
  obtain ⟨x, hx2⟩ : ∃ x, xs.getD i 0 = x := ⟨_, rfl⟩
  rw [hx2] at hcell ⊢
  have hi1 : decide (n ≤ i) = false := decide_eq_false (by omega)
  clear hc hx hn hx2
  go_enter Tryd.func138, Tryd.ntmps138
  go_wp2
  go_ret
  exact ⟨rfl, rfl⟩

set_option maxHeartbeats 1000000 in
theorem word_out (xs : List Nat) (ao : Option Addr) (n cap : Nat) (i : Int) (w : World) (hn : n = xs.length) (hm : n ≤ 70368744177664) (hi : i < 0 ∨ (n : Int) ≤ i) :
    Calls Tryd.prog 138 #[.slice ao n cap, .int .i64 i] w fun r w' => r = .returned (.int .u32 0) ∧ w' = w := by
  clear hn
  rcases hi with h | h
  · go_enter Tryd.func138, Tryd.ntmps138
    go_wp2
    go_ret
    exact ⟨rfl, rfl⟩
  · have h0 : decide (i < 0) = false := decide_eq_false (by omega)
    go_enter Tryd.func138, Tryd.ntmps138
    go_wp2
    go_ret
    exact ⟨rfl, rfl⟩

/-- A word of a row, nought on either side. -/
def wd (xs : List Nat) (i : Int) : Nat := if i < 0 then 0 else xs.getD i.toNat 0
theorem wd_lt (xs : List Nat) (hx : Wf xs) (i : Int) : wd xs i < 4294967296 := by
  unfold wd; split
  · omega
  · exact hx.get _

theorem word_any (xs : List Nat) (ao : Option Addr) (n cap B : Nat) (i : Int) (w : World) (hn : n = xs.length) (hm : n ≤ 70368744177664) (hx : Wf xs) (hR : Rd B w ao xs) :
    Calls Tryd.prog 138 #[.slice ao n cap, .int .i64 i] w fun r w' => r = .returned (.int .u32 ((wd xs i : Nat) : Int)) ∧ w' = w := by
  by_cases h : i < 0
  · unfold wd; rw [if_pos h]; exact word_out xs ao n cap i w hn hm (.inl h)
  · obtain ⟨k, rfl⟩ : ∃ k : Nat, i = (k : Int) := ⟨i.toNat, by omega⟩
    unfold wd
    rw [if_neg h, Int.toNat_natCast]
    by_cases hk : k < n
    · exact word_in xs ao n cap B k w hn hm hx hR hk
    · rw [List.getD_eq_getElem?_getD, List.getElem?_eq_none (by omega)]
      exact word_out xs ao n cap k w hn hm (.inr (by omega))

/-- The 32 bits of a number from the one that counts 2^i on. -/
def win (X : Nat) (i : Int) : Nat := if i < 0 then X * 2 ^ (-i).toNat % 4294967296 else X / 2 ^ i.toNat % 4294967296

theorem val_mod (xs : List Nat) : val xs % 4294967296 = xs.getD 0 0 % 4294967296 := by
  cases xs with
  | nil => simp [val]
  | cons x xs => simp [val]

theorem val_word (xs : List Nat) (hx : Wf xs) (q : Nat) : ∃ R, val xs / pw q = xs.getD q 0 + 4294967296 * (xs.getD (q + 1) 0 + 4294967296 * R) := by
  by_cases h : q < xs.length
  · have h1 : val xs / pw q = val (xs.drop q) := by
      have h5 := val_take_drop xs q (by omega)
      have h6 := val_lt (xs.take q) (hx.take q)
      rw [List.length_take, Nat.min_eq_left (by omega)] at h6
      rw [h5, Nat.add_mul_div_left _ _ (pw_pos q), Nat.div_eq_of_lt h6, Nat.zero_add]
    obtain ⟨R, hR⟩ : ∃ R, val (xs.drop (q + 1)) = xs.getD (q + 1) 0 + 4294967296 * R := by
      by_cases h : q + 1 < xs.length
      · exact ⟨_, val_drop_succ xs (q + 1) h⟩
      · refine ⟨0, ?_⟩
        rw [List.drop_of_length_le (by omega), List.getD_eq_getElem?_getD, List.getElem?_eq_none (by omega)]
        rfl
    exact ⟨R, by rw [h1, val_drop_succ xs q h, hR]⟩
  · refine ⟨0, ?_⟩
    have h1 := val_lt xs hx
    have h2 := pw_mono (show xs.length ≤ q by omega)
    rw [Nat.div_eq_of_lt (by omega), List.getD_eq_getElem?_getD, List.getElem?_eq_none (by omega), List.getD_eq_getElem?_getD, List.getElem?_eq_none (by omega)]
    rfl

theorem win_pos (xs : List Nat) (hx : Wf xs) (q r : Nat) (hr : r < 32) : (xs.getD (q + 1) 0 * 4294967296 + xs.getD q 0) / 2 ^ r % 4294967296 = val xs / 2 ^ (32 * q + r) % 4294967296 := by
  rw [pw_two, ← Nat.div_div_eq_div_mul]
  obtain ⟨R, hR⟩ := val_word xs hx q
  rw [hR]
  have e : xs.getD q 0 + 4294967296 * (xs.getD (q + 1) 0 + 4294967296 * R) = (xs.getD (q + 1) 0 * 4294967296 + xs.getD q 0) + 2 ^ r * (4294967296 * (2 ^ (32 - r) * R)) := by
    have h1 := two_pow_rest r hr
    have : 2 ^ r * (4294967296 * (2 ^ (32 - r) * R)) = 4294967296 * (4294967296 * R) := by rw [← h1]; grind
    rw [this]; omega
  rw [e, Nat.add_mul_div_left _ _ (Nat.two_pow_pos _), Nat.add_mul_mod_self_left]
end Go.Proofs.YthilnddhehbjiaaDoor

/- dyad's window. -/
namespace Go.Proofs.YthilnddhehbjiaaDoor
open Go.RowKit
set_option linter.unusedVariables false
set_option maxRecDepth 20000

theorem shl_mod (V k : Nat) : V * 2 ^ k % 4294967296 = V % 4294967296 * 2 ^ k % 4294967296 := by
  simp [Nat.mul_mod]

theorem win_eq (xs : List Nat) (hx : Wf xs) (i at' : Int) (rest : Nat) (h1 : at' = i / 32) (h2 : (rest : Int) = i % 32) :
    (wd xs (at' + 1) * 4294967296 + wd xs at') / 2 ^ rest % 4294967296 = win (val xs) i := by
  have hr : rest < 32 := by omega
  by_cases h : i < 0
  · unfold win
    rw [if_pos h]
    by_cases h3 : at' = -1
    · subst h3
      have e1 : wd xs (-1) = 0 := by unfold wd; rw [if_pos (by omega)]
      have e2 : wd xs (-1 + 1) = xs.getD 0 0 := by unfold wd; rw [if_neg (by omega)]; rfl
      rw [e1, e2, Nat.add_zero]
      obtain ⟨k, hk⟩ : ∃ k, (-i).toNat = k := ⟨_, rfl⟩
      have e3 : k = 32 - rest := by omega
      rw [hk, shl_mod, val_mod, ← shl_mod, ← two_pow_rest rest hr, e3]
      rw [show xs.getD 0 0 * (2 ^ rest * 2 ^ (32 - rest)) = 2 ^ rest * (xs.getD 0 0 * 2 ^ (32 - rest)) by grind, Nat.mul_div_cancel_left _ (Nat.two_pow_pos rest)]
    · have e1 : wd xs at' = 0 := by unfold wd; rw [if_pos (by omega)]
      have e2 : wd xs (at' + 1) = 0 := by unfold wd; rw [if_pos (by omega)]
      rw [e1, e2]
      obtain ⟨k, hk⟩ : ∃ k, (-i).toNat = k + 32 := ⟨(-i).toNat - 32, by omega⟩
      rw [hk, Nat.pow_add, show (2 : Nat) ^ 32 = 4294967296 from rfl, ← Nat.mul_assoc, Nat.mul_mod_left]
      simp
  · obtain ⟨n, rfl⟩ : ∃ n : Nat, i = (n : Int) := ⟨i.toNat, by omega⟩
    obtain ⟨q, rfl⟩ : ∃ q : Nat, at' = (q : Int) := ⟨at'.toNat, by omega⟩
    have e1 : wd xs ((q : Int) + 1) = xs.getD (q + 1) 0 := by unfold wd; rw [if_neg (by omega)]; rfl
    have e2 : wd xs (q : Int) = xs.getD q 0 := by unfold wd; rw [if_neg (by omega)]; rfl
    unfold win
    rw [if_neg h, e1, e2, Int.toNat_natCast, win_pos xs hx q rest hr]
    rw [show 32 * q + rest = n by omega]

theorem and31 (i : Int) (h0 : -9223372036854775808 ≤ i) (h1 : i ≤ 9223372036854775807) : bits BinOp.and IntKind.i64 i 31 = i % 32 := by
  unfold bits
  simp [IntKind.bits, IntKind.signed, IntKind.wrap]
  have e : (BitVec.ofInt 64 i &&& 31#64).toNat = (i % 18446744073709551616).toNat % 32 := by
    rw [BitVec.toNat_and, BitVec.toNat_ofInt]
    exact Nat.and_two_pow_sub_one_eq_mod _ 5
  show (if 9223372036854775808 ≤ (((BitVec.ofInt 64 i &&& 31#64 : BitVec 64).toNat : Nat) : Int) % 18446744073709551616 then (((BitVec.ofInt 64 i &&& 31#64 : BitVec 64).toNat : Nat) : Int) % 18446744073709551616 - 18446744073709551616 else (((BitVec.ofInt 64 i &&& 31#64 : BitVec 64).toNat : Nat) : Int) % 18446744073709551616) = i % 32
  rw [e]
  generalize hz : (i % 18446744073709551616).toNat = z
  have hz2 : (z : Int) = i % 18446744073709551616 := by omega
  split <;> omega

set_option maxHeartbeats 1000000 in
theorem window_any (xs : List Nat) (ao : Option Addr) (n cap B : Nat) (i : Int) (w : World) (hn : n = xs.length) (hm : n ≤ 70368744177664) (hx : Wf xs) (hR : Rd B w ao xs) (h0 : -9223372036854775808 ≤ i) (h1 : i ≤ 9223372036854775807) :
    Calls Tryd.prog 114 #[.slice ao n cap, .int .i64 i] w fun r w' => r = .returned (.int .u32 ((win (val xs) i : Nat) : Int)) ∧ w' = w := by
  obtain ⟨at', hat⟩ : ∃ a, a = i / 32 := ⟨_, rfl⟩
  obtain ⟨rest, hrest⟩ : ∃ r : Nat, (r : Int) = i % 32 := ⟨(i % 32).toNat, by omega⟩
  have hw := win_eq xs hx i at' rest hat hrest
  have W1 := hid (word_any xs ao n cap B (at' + 1) w hn hm hx hR)
  have W2 := hid (word_any xs ao n cap B at' w hn hm hx hR)
  have l1 := wd_lt xs hx (at' + 1)
  have l2 := wd_lt xs hx at'
  generalize wd xs (at' + 1) = a at *
  generalize wd xs at' = b at *
  generalize win (val xs) i = v at *
  have e1 : i / 32 = at' := hat.symm
  have e2 : bits BinOp.and IntKind.i64 i 31 = (rest : Int) := by rw [and31 i h0 h1, hrest]
  have e3 := or64_join a b l1 l2
  have hr : rest < 32 := by omega
  have ha0 : -288230376151711744 ≤ at' := by omega
  have ha1 : at' ≤ 288230376151711744 := by omega
  obtain ⟨t, ht⟩ : ∃ t : Nat, a * 4294967296 + b = t := ⟨_, rfl⟩
  rw [ht] at e3 hw
  have e4 : (t : Int) / 2 ^ rest % 4294967296 = (v : Int) := by rw [← hw]; simp
  clear hat hrest hw hn hx hR ht
  go_enter Tryd.func114, Tryd.ntmps114
  go_wp2_with fail
  refine (Calls.mono W1.out) ?_
  rintro r w1 ⟨rfl, rfl⟩
  go_wp2_with fail
  refine (Calls.mono W2.out) ?_
  rintro r w2 ⟨rfl, rfl⟩
  go_wp2
  go_ret
  exact ⟨by simp [e4], rfl⟩
end Go.Proofs.YthilnddhehbjiaaDoor

/- dyad's odd, Make. -/
namespace Go.Proofs.YthilnddhehbjiaaDoor
open Go.RowKit
set_option linter.unusedVariables false
set_option maxRecDepth 20000

theorem ws_getD (Y i : Nat) : (ws Y).getD i 0 = Y / pw i % 4294967296 := by
  induction i generalizing Y with
  | zero =>
    by_cases h : Y = 0
    · subst h; simp [ws_zero]
    · rw [ws_pos Y h, pw_zero]; simp
  | succ i ih =>
    by_cases h : Y = 0
    · subst h; simp [ws_zero]
    · rw [ws_pos Y h, pw_succ, ← Nat.div_div_eq_div_mul, ← ih]
      simp

theorem win_word (X low i : Nat) : win X ((low : Int) + 32 * (i : Int)) = (ws (X / 2 ^ low)).getD i 0 := by
  rw [ws_getD, Nat.div_div_eq_div_mul]
  unfold win
  rw [if_neg (by omega), show ((low : Int) + 32 * (i : Int)).toNat = low + 32 * i by omega, Nat.pow_add, Nat.pow_mul]
  rfl

theorem part_set (Ys : List Nat) (k : Nat) (hk : k < Ys.length) :
    (Ys.take k ++ List.replicate (Ys.length - k) 0).set k (Ys.getD k 0) = Ys.take (k + 1) ++ List.replicate (Ys.length - (k + 1)) 0 := by
  apply List.ext_getElem?
  intro j
  rw [List.getElem?_set]
  by_cases hj : k = j
  · subst hj
    rw [if_pos rfl, if_pos (by simp; omega), List.getElem?_append_left (by simp; omega)]
    simp [List.getD_eq_getElem?_getD, hk]
  · rw [if_neg hj]
    by_cases h1 : j < k
    · rw [List.getElem?_append_left (by simp; omega), List.getElem?_append_left (by simp; omega)]
      simp [h1, show j < k + 1 by omega]
    · rw [List.getElem?_append_right (by simp; omega), List.getElem?_append_right (by simp; omega)]
      simp only [List.getElem?_replicate, List.length_take]
      congr 1
      simp only [eq_iff_iff]
      omega

set_option maxHeartbeats 4000000 in
theorem odd_any {w : World} {a : Option Addr} {n c : Nat} {xs : List Nat} (h1 : Arg w a n c xs) (low size : Nat) (hle : low ≤ size) (hsz : size ≤ 1125899906842624) (hlen : (size - low + 31) / 32 = (ws (val xs / 2 ^ low)).length) :
    Calls Tryd.prog 73 #[.slice a n c, .int .i64 (low : Nat), .int .i64 (size : Nat)] w fun r w' => ∃ v, r = .returned v ∧ Nt w.heap.size w' v (val xs / 2 ^ low) ∧ Below w.heap.size w w' := by
  obtain ⟨m, hm⟩ : ∃ m, m = (size - low + 31) / 32 := ⟨_, rfl⟩
  rw [← hm] at hlen
  have e1 : ((size : Int) - low + 32 - 1) / 32 = (m : Int) := by omega
  have hmb : m ≤ 35184372088832 := by omega
  obtain ⟨W1, hW1⟩ : ∃ W, W = w.alloc (.cells (madeCells #[.int .u32 0] m) 61) := ⟨_, rfl⟩
  have hO1 : Own W1 w.heap.size (List.replicate m 0) := by rw [hW1]; exact Own.made w m
  have hB1 : Below w.heap.size w W1 := by rw [hW1]; exact (Below.refl _ _).alloc (Nat.le_refl _) _
  have hmk := make_words (m : Int) m rfl (by omega) w
  rw [← hW1] at hmk
  have A1 := h1.below hB1
  obtain ⟨g, hg⟩ : ∃ g, g = w.heap.size := ⟨_, rfl⟩
  rw [← hg] at hO1 hmk
  obtain ⟨Ys, hYs⟩ : ∃ Ys, ws (val xs / 2 ^ low) = Ys := ⟨_, rfl⟩
  have hYw : Wf Ys := hYs ▸ wf_ws _
  rw [hYs] at hlen
  have WN : Hid (∀ wr, But g W1 wr → ∀ i : Nat, i < m → Calls Tryd.prog 114 #[.slice a n c, .int .i64 ((low : Int) + 32 * (i : Int))] wr fun r w' => r = .returned (.int .u32 ((Ys.getD i 0 : Nat) : Int)) ∧ w' = wr) := by
    intro wr hb i hi
    have hR : Rd w.heap.size wr a xs := (h1.rd.below hB1).but hb (by rw [hg] at *; have := hB1.size; omega) (by omega)
    have := window_any xs a n c w.heap.size ((low : Int) + 32 * (i : Int)) wr h1.len (by have := h1.big; omega) h1.wf hR (by omega) (by omega)
    rw [win_word, hYs] at this
    exact this
  have HR := (Aside.intro (And.intro hB1 (And.intro hg (And.intro hYs (And.intro hYw hlen)))))
  have HO : Hid (Own W1 g (Ys.take 0 ++ List.replicate (Ys.length - 0) 0)) := by
    rw [← hlen]; exact hid (by simpa using hO1)
  clear hm h1 hO1 hB1 A1 hg hYs hYw hW1 hlen
  go_enter Tryd.func73, Tryd.ntmps73
  go_wp2
  go_loopg [18] m (fun gk iv wr => ∃ (k : Nat), gk + k = m ∧ iv = .int .i64 (k : Nat) ∧ Hid (Own wr g (Ys.take k ++ List.replicate (Ys.length - k) 0)) ∧ Aside (But g W1 wr))
  case atStart => exact ⟨0, by omega, rfl, HO, But.refl _ _⟩
  case round =>
    clear HO e1
    obtain ⟨k, hgk, rfl, HM, HA⟩ := hrel
    by_cases hk : k < m
    · have hlen := HR.out.2.2.2.2
      have hgc := HM.out.cell k (by simp; omega)
      have hgf := HM.out.frozen k
      obtain ⟨old, hold⟩ : ∃ o : Nat, (Ys.take k ++ List.replicate (Ys.length - k) 0).getD k 0 = o := ⟨_, rfl⟩
      rw [hold] at hgc
      obtain ⟨y, hy⟩ : ∃ y : Nat, Ys.getD k 0 = y := ⟨_, rfl⟩
      have W2 := hid (WN.out wr HA.out k hk)
      rw [hy] at W2
      have HY := Aside.intro hy
      clear hlen hold hy
      go_wp2_with fail
      refine (Calls.mono W2.out) ?_
      rintro r w2 ⟨rfl, rfl⟩
      go_wp2
      go_roundg (gk - 1)
      case measure => omega
      case rel =>
        refine ⟨k + 1, by omega, by first | go_num | (congr 1; omega), ?_, HA.out.set _ _⟩
        rw [← part_set Ys k (by have := HR.out.2.2.2.2; omega), HY.out]
        exact HM.out.set _ _
    · obtain rfl : k = m := by omega
      go_wp2
      go_ret
      obtain ⟨hB1, hg, hYs, hYw, hlen⟩ := HR.out
      have hO := HM.out
      rw [hlen, List.take_length, Nat.sub_self, List.replicate_zero, List.append_nil] at hO
      have hN := Nt.ofOwn hO (lo := w.heap.size) (by omega) hYw (by unfold maxLen; omega)
      have e2 : nl Ys = Ys.length := by rw [← hYs]; exact nl_ws _
      rw [e2, ← hYs, val_ws] at hN
      rw [hlen, ← hYs]
      exact ⟨_, rfl, hN, But.below hB1 HA.out hB1.size (by omega)⟩

/-- An answer: a form, or what is refused. -/
def DAns (lo : Nat) (w : World) (r : Ending) (o : Option (Bool × Nat × Int)) : Prop :=
  ∃ v, r = .returned (.tuple #[.agg #[.bool (dN o), v, .int .i64 (dE o)], .int .i64 (erS o)]) ∧ Nt lo w v (dX o)

theorem bcell {W w1 : World} (hb : Below W.heap.size W w1) : (∀ b o, b < W.heap.size → w1.cell? ⟨b, o, none⟩ = W.cell? ⟨b, o, none⟩) ∧ (∀ b o, b < W.heap.size → w1.frozen? ⟨b, o, none⟩ = W.frozen? ⟨b, o, none⟩) :=
  ⟨fun b o h => hb.cell (p := ⟨b, o, none⟩) h, fun b o h => hb.frozen (p := ⟨b, o, none⟩) h⟩

theorem ws_len_bl (X : Nat) : (ws X).length = (bl X + 31) / 32 := by
  by_cases h : X = 0
  · subst h; simp [ws_zero, bl_zero]
  · have h1 := len_bl X ((ws X).length - 1) _ rfl
    have h2 := len_bl X (ws X).length _ rfl
    have h3 : (ws X).length ≠ 0 := fun e => h ((ws_len_zero X).1 e)
    omega

theorem mk_len (X : Nat) (h : X ≠ 0) : (bl X - lo X + 31) / 32 = (ws (X / 2 ^ lo X)).length := by
  obtain ⟨m, _, _, hb⟩ := odd_part X h
  rw [ws_len_bl]
  congr 2
  omega

theorem set3_but (g : Nat) (w : World) (x y z : Value) : But g w (((w.setCell ⟨g, 0, none⟩ x).setCell ⟨g, 1, none⟩ y).setCell ⟨g, 2, none⟩ z) := (((But.refl g w).set _ _).set _ _).set _ _

/-- What is laid into a result's block behind a call. -/
theorem laid3 {w W1 w2 : World} {v : Value} {Y : Nat} (hB : Below w.heap.size w W1) (hs : w.heap.size < W1.heap.size) (hN : Nt W1.heap.size w2 v Y) (hb : Below W1.heap.size W1 w2) (x y z : Value) :
    Nt w.heap.size (((w2.setCell ⟨w.heap.size, 0, none⟩ x).setCell ⟨w.heap.size, 1, none⟩ y).setCell ⟨w.heap.size, 2, none⟩ z) v Y ∧ Below w.heap.size w (((w2.setCell ⟨w.heap.size, 0, none⟩ x).setCell ⟨w.heap.size, 1, none⟩ y).setCell ⟨w.heap.size, 2, none⟩ z) :=
  ⟨(hN.but (set3_but _ _ _ _ _) hs).mono (by omega), But.below (hB.trans (hb.mono (by omega))) (set3_but _ _ _ _ _) (by have := hb.size; omega) (Nat.le_refl _)⟩

set_option maxHeartbeats 4000000 in
theorem Make_any {w : World} {a : Option Addr} {n c : Nat} {xs : List Nat} (h1 : Arg w a n c xs) (hT : Tab w) (neg : Bool) (e : Int) (he0 : -9223372036854775808 ≤ e) (he1 : e ≤ 9223372036854775807) :
    Calls Tryd.prog 22 #[.bool neg, .slice a n c, .int .i64 e] w fun r w' => DAns w.heap.size w' r (mkS neg (val xs) e) ∧ Below w.heap.size w w' := by
  obtain ⟨W1, hW1⟩ : ∃ W, W = w.alloc (.cells #[.bool false, .slice none 0 0, .int .i64 0] 39) := ⟨_, rfl⟩
  have hB1 : Below w.heap.size w W1 := by rw [hW1]; exact (Below.refl _ _).alloc (Nat.le_refl _) _
  have A1 := h1.below hB1
  have hT1 := hT.belows hB1
  have hbig := h1.big
  have H1 := hid (len_any xs a n c W1.heap.size W1 A1.len A1.cap (by omega) A1.wf A1.rd)
  have H2 := hid (low_any xs a n c W1.heap.size W1 A1.len (by omega) A1.wf A1.rd hT1)
  have hbl : bl (val xs) ≤ 32 * n := by
    have := val_lt xs h1.wf
    rw [← h1.len] at this
    exact bl_pw _ _ this
  obtain ⟨X, hX⟩ : ∃ X, val xs = X := ⟨_, rfl⟩
  rw [hX] at H1 H2 hbl ⊢
  obtain ⟨b, hb⟩ : ∃ b, bl X = b := ⟨_, rfl⟩
  obtain ⟨l, hl⟩ : ∃ l, lo X = l := ⟨_, rfl⟩
  rw [hb] at H1 hbl
  rw [hl] at H2
  unfold mkS
  rw [hb, hl]
  have hlb : l ≤ b := by
    by_cases h0 : X = 0
    · subst h0; rw [lo_zero] at hl; omega
    · obtain ⟨m, _, _, hbb⟩ := odd_part X h0
      omega
  have HB := Aside.intro hB1
  have SZ : W1.heap.size = w.heap.size + 1 := by rw [hW1]; simp
  by_cases h0 : X = 0
  · have hb0 : b = 0 := by rw [← hb, h0, bl_zero]
    subst hb0
    rw [if_pos h0]
    clear hb hl hX h0 hB1 A1 hT1 hT h1 hlb hbl SZ
    subst hW1
    go_enter Tryd.func22, Tryd.ntmps22
    go_wp2_with fail
    refine (Calls.mono H1.out) ?_
    rintro r w1 ⟨rfl, rfl⟩
    go_wp2_with fail
    refine (Calls.mono H2.out) ?_
    rintro r w1 ⟨rfl, rfl⟩
    go_wp2
    refine bodyPost_ret (v := .tuple #[.agg #[.bool false, .slice none 0 0, .int .i64 0], .int .i64 0]) (by simp [results, Tryd.results22, go_sem]) rfl ⟨⟨_, rfl, Nt.nil _ _⟩, HB.out⟩
  · rw [if_neg h0]
    have hb0 : ((b : Int) == 0) = false := by have := bl_pos X h0; simp; omega
    have hOD := odd_any A1 l b hlb (by omega) (by rw [hX, ← hb, ← hl]; exact mk_len X h0)
    rw [hX] at hOD
    have H3 := hid hOD
    by_cases h2 : 262144 < b - l
    · rw [if_pos (.inl h2)]
      have h2' : (262144 : Int) < (b : Int) - l := by omega
      clear hb hl hX h0 hB1 A1 hT1 hT h1 SZ H3 h2 hOD
      subst hW1
      go_enter Tryd.func22, Tryd.ntmps22
      go_wp2_with fail
      refine (Calls.mono H1.out) ?_
      rintro r w1 ⟨rfl, rfl⟩
      go_wp2_with fail
      refine (Calls.mono H2.out) ?_
      rintro r w1 ⟨rfl, rfl⟩
      go_wp2
      refine bodyPost_ret (v := .tuple #[.agg #[.bool false, .slice none 0 0, .int .i64 0], .int .i64 2]) (by simp [results, Tryd.results22, go_sem]) rfl ⟨⟨_, rfl, Nt.nil _ _⟩, HB.out⟩
    · have h2' : decide ((262144 : Int) < (b : Int) - l) = false := decide_eq_false (by omega)
      by_cases h3 : 1048576 - (l : Int) < e
      · rw [if_pos (.inr (.inl h3))]
        clear hb hl hX h0 hB1 A1 hT1 hT h1 SZ H3 h2 hOD
        subst hW1
        go_enter Tryd.func22, Tryd.ntmps22
        go_wp2_with fail
        refine (Calls.mono H1.out) ?_
        rintro r w1 ⟨rfl, rfl⟩
        go_wp2_with fail
        refine (Calls.mono H2.out) ?_
        rintro r w1 ⟨rfl, rfl⟩
        go_wp2
        refine bodyPost_ret (v := .tuple #[.agg #[.bool false, .slice none 0 0, .int .i64 0], .int .i64 2]) (by simp [results, Tryd.results22, go_sem]) rfl ⟨⟨_, rfl, Nt.nil _ _⟩, HB.out⟩
      · have h3' : decide (1048576 - (l : Int) < e) = false := decide_eq_false h3
        by_cases h4 : e < -1048576 - (l : Int)
        · rw [if_pos (.inr (.inr h4))]
          clear hb hl hX h0 hB1 A1 hT1 hT h1 SZ H3 h2 hOD
          subst hW1
          go_enter Tryd.func22, Tryd.ntmps22
          go_wp2_with fail
          refine (Calls.mono H1.out) ?_
          rintro r w1 ⟨rfl, rfl⟩
          go_wp2_with fail
          refine (Calls.mono H2.out) ?_
          rintro r w1 ⟨rfl, rfl⟩
          go_wp2
          refine bodyPost_ret (v := .tuple #[.agg #[.bool false, .slice none 0 0, .int .i64 0], .int .i64 2]) (by simp [results, Tryd.results22, go_sem]) rfl ⟨⟨_, rfl, Nt.nil _ _⟩, HB.out⟩
        · have h4' : decide (e < -1048576 - (l : Int)) = false := decide_eq_false h4
          rw [if_neg (by omega)]
          obtain ⟨Y, hY⟩ : ∃ Y, X / 2 ^ l = Y := ⟨_, rfl⟩
          rw [hY] at H3 ⊢
          have hs : (ws Y).length ≤ 35184372088832 := by rw [← hY, ← hl, ← mk_len X h0]; omega
          have h5 : e + l ≤ 1048576 := by omega
          have h6 : -1048576 ≤ e + l := by omega
          clear hb hl hX h0 hB1 A1 hT1 hT h1 hOD h2 h3 h4
          subst hW1
          go_enter Tryd.func22, Tryd.ntmps22
          go_wp2_with fail
          refine (Calls.mono H1.out) ?_
          rintro r w1 ⟨rfl, rfl⟩
          go_wp2_with fail
          refine (Calls.mono H2.out) ?_
          rintro r w1 ⟨rfl, rfl⟩
          go_wp2_with fail
          refine (Calls.mono H3.out) ?_
          rintro r w2 ⟨v, rfl, hN, hb⟩
          obtain ⟨a2, c2, rfl, _⟩ := hN.arg hs
          obtain ⟨hc, hf⟩ := bcell hb
          have HN := (Aside.intro (And.intro hN hb))
          have hz := hb.size
          clear hN hb
          go_wp2
          obtain ⟨q1, q2⟩ := laid3 HB.out (by simp) HN.out.1 HN.out.2 (.bool neg) (.slice a2 (ws Y).length c2) (.int .i64 (e + l))
          exact bodyPost_ret (v := .tuple #[.agg #[.bool neg, .slice a2 (ws Y).length c2, .int .i64 (e + l)], .int .i64 0]) (by simp [results, Tryd.results22, go_sem, hc]) rfl ⟨⟨_, rfl, q1⟩, q2⟩
end Go.Proofs.YthilnddhehbjiaaDoor

/- The document's Form, told, Make, Made. -/
namespace Go.Proofs.YthilnddhehbjiaaDoor
open Go.RowKit
set_option linter.unusedVariables false
set_option maxRecDepth 20000

/-- What Form answers. -/
def FAns (lo : Nat) (w : World) (r : Ending) (o : Option (Bool × Nat × Int)) : Prop :=
  ∃ v, r = .returned (.tuple #[.agg #[.bool (dN o), v, .int .i64 (dE o)], .bool o.isSome]) ∧ Nt lo w v (dX o)

theorem moved_low {w : World} {v : Value} {X lo' : Nat} (hN : Nt lo' w v X) (hX : X ≠ 0) (hl : (ws X).length ≤ 2000000) :
    Calls Tryd.prog 83 #[v, .int .i64 (-(lo X : Int))] w fun r w' => ∃ v, r = .returned v ∧ Nt w.heap.size w' v (X / 2 ^ lo X) ∧ Below w.heap.size w w' := by
  have hb := lo_lt X hX (ws X).length (ws_len_lt X)
  have h := moved_any hN (-(lo X : Int)) (by omega) (by omega) hX hl
  have e : (if -(lo X : Int) < 0 then X / 2 ^ (- -(lo X : Int)).toNat else X * 2 ^ (-(lo X : Int)).toNat) = X / 2 ^ lo X := by
    by_cases h0 : lo X = 0
    · rw [h0]; simp
    · rw [if_pos (by omega), show (- -(lo X : Int)).toNat = lo X by omega]
  rw [e] at h
  exact h

set_option maxHeartbeats 4000000 in
theorem rForm_any {w : World} {a : Option Addr} {n c : Nat} {xs : List Nat} (h1 : Arg w a n c xs) (hn : n ≤ 2000000) (neg : Bool) (e : Int) (he0 : -9223372036854775808 ≤ e) (he1 : e ≤ 9223372036854775807) :
    Calls Tryd.prog 75 #[.bool neg, .slice a n c, .int .i64 e] w fun r w' => FAns w.heap.size w' r (mkS neg (val xs) e) ∧ Below w.heap.size w w' := by
  have hB1 : Below w.heap.size w (w.alloc (.cells #[.bool false, .slice none 0 0, .int .i64 0] 39)) := below_alloc w _
  obtain ⟨X, hX⟩ : ∃ X, val xs = X := ⟨_, rfl⟩
  have H1 := hid (rNorm_arg (h1.below hB1) hX)
  rw [hX]
  have hXp : X < pw n := by rw [← hX, h1.len]; exact val_lt xs h1.wf
  have hXl : (ws X).length ≤ 2000000 := by have := (ws_len_le X n).2 hXp; omega
  have HB := Aside.intro hB1
  clear h1 hX hB1 hXp
  unfold mkS
  by_cases h0 : X = 0
  · rw [if_pos h0]
    have hl0 : (ws X).length = 0 := by rw [h0, ws_zero]; rfl
    go_enter Tryd.func75, Tryd.ntmps75
    go_wp2_with fail
    refine (Calls.mono H1.out) ?_
    rintro r w2 ⟨v, rfl, hN, hb⟩
    obtain ⟨a2, c2, rfl, _⟩ := hN.arg (by omega)
    obtain ⟨hc, hf⟩ := bcell hb
    have HN := (Aside.intro (And.intro hN hb))
    have hz := hb.size
    clear hN hb
    rw [hl0]
    go_wp2
    obtain ⟨q1, q2⟩ := laid3 HB.out (by simp) HN.out.1 HN.out.2 (.bool false) (.slice none 0 0) (.int .i64 0)
    exact bodyPost_ret (v := .tuple #[.agg #[.bool false, .slice none 0 0, .int .i64 0], .bool true]) (by simp [results, Tryd.results75, go_sem, hc]) rfl ⟨⟨_, rfl, Nt.nil _ _⟩, q2⟩
  · rw [if_neg h0]
    have hlo := lo_lt X h0 (ws X).length (ws_len_lt X)
    have hml := mk_len X h0
    have hbl := bl_pos X h0
    have hL0 : ((((ws X).length : Nat) : Int) == 0) = false := by
      have : (ws X).length ≠ 0 := fun e => h0 ((ws_len_zero X).1 e)
      exact beq_eq_false_iff_ne.2 (by omega)
    have H2 : Hid (∀ (a2 : Option Addr) (c2 : Nat) (u : World), Arg u a2 (ws X).length c2 (ws X) → Calls Tryd.prog 115 #[.slice a2 (ws X).length c2] u fun r w' => r = .returned (.int .i64 (lo X : Nat)) ∧ w' = u) := by
      intro a2 c2 u A
      have := rLow_any (ws X) a2 (ws X).length c2 u.heap.size u A.len (by omega) A.wf A.rd
      rw [val_ws] at this
      exact this
    have H3 : Hid (∀ (lo' : Nat) (v : Value) (u : World), Nt lo' u v X → Calls Tryd.prog 83 #[v, .int .i64 (-(lo X : Int))] u fun r w' => ∃ v, r = .returned v ∧ Nt u.heap.size w' v (X / 2 ^ lo X) ∧ Below u.heap.size u w') :=
      fun lo' v u hN => moved_low hN h0 hXl
    obtain ⟨l, hl⟩ : ∃ l, lo X = l := ⟨_, rfl⟩
    obtain ⟨b, hb⟩ : ∃ b, bl X = b := ⟨_, rfl⟩
    obtain ⟨Y, hY⟩ : ∃ Y, X / 2 ^ l = Y := ⟨_, rfl⟩
    rw [hl] at H2 H3 hlo hml
    rw [hb] at hml hbl
    rw [hY] at H3 hml
    rw [hl, hb, hY]
    have hYl : (ws Y).length ≤ 2000000 := by rw [← hY]; have := ws_len_mono (Nat.div_le_self X (2 ^ l)); omega
    by_cases h3 : 1048576 - (l : Int) < e ∨ e < -1048576 - (l : Int)
    · rw [if_pos (.inr h3)]
      clear hml hbl hY hl hb h0
      by_cases g1 : 1048576 < e
      · clear h3
        go_enter Tryd.func75, Tryd.ntmps75
        go_wp2_with fail
        refine (Calls.mono H1.out) ?_
        rintro r w2 ⟨v, rfl, hN, hb⟩
        obtain ⟨a2, c2, rfl, A2⟩ := hN.arg (by omega)
        obtain ⟨hc, hf⟩ := bcell hb
        have HN := (Aside.intro (And.intro hN hb))
        have hz := hb.size
        have H2' := hid (H2.out a2 c2 w2 A2)
        clear hN hb A2
        go_wp2_with fail
        refine (Calls.mono H2'.out) ?_
        rintro r w3 ⟨rfl, rfl⟩
        go_wp2
        obtain ⟨q1, q2⟩ := laid3 HB.out (by simp) HN.out.1 HN.out.2 (.bool false) (.slice none 0 0) (.int .i64 0)
        exact bodyPost_ret (v := .tuple #[.agg #[.bool false, .slice none 0 0, .int .i64 0], .bool false]) (by simp [results, Tryd.results75, go_sem, hc]) rfl ⟨⟨_, rfl, Nt.nil _ _⟩, q2⟩
      · have g1' : decide (1048576 < e) = false := decide_eq_false g1
        by_cases g2 : 1048576 < e + (l : Int)
        · clear h3
          go_enter Tryd.func75, Tryd.ntmps75
          go_wp2_with fail
          refine (Calls.mono H1.out) ?_
          rintro r w2 ⟨v, rfl, hN, hb⟩
          obtain ⟨a2, c2, rfl, A2⟩ := hN.arg (by omega)
          obtain ⟨hc, hf⟩ := bcell hb
          have HN := (Aside.intro (And.intro hN hb))
          have hz := hb.size
          have H2' := hid (H2.out a2 c2 w2 A2)
          clear hN hb A2
          go_wp2_with fail
          refine (Calls.mono H2'.out) ?_
          rintro r w3 ⟨rfl, rfl⟩
          go_wp2
          obtain ⟨q1, q2⟩ := laid3 HB.out (by simp) HN.out.1 HN.out.2 (.bool false) (.slice none 0 0) (.int .i64 0)
          exact bodyPost_ret (v := .tuple #[.agg #[.bool false, .slice none 0 0, .int .i64 0], .bool false]) (by simp [results, Tryd.results75, go_sem, hc]) rfl ⟨⟨_, rfl, Nt.nil _ _⟩, q2⟩
        · have g2' : decide (1048576 < e + (l : Int)) = false := decide_eq_false g2
          have g3 : e + (l : Int) < -1048576 := by omega
          clear h3
          go_enter Tryd.func75, Tryd.ntmps75
          go_wp2_with fail
          refine (Calls.mono H1.out) ?_
          rintro r w2 ⟨v, rfl, hN, hb⟩
          obtain ⟨a2, c2, rfl, A2⟩ := hN.arg (by omega)
          obtain ⟨hc, hf⟩ := bcell hb
          have HN := (Aside.intro (And.intro hN hb))
          have hz := hb.size
          have H2' := hid (H2.out a2 c2 w2 A2)
          clear hN hb A2
          go_wp2_with fail
          refine (Calls.mono H2'.out) ?_
          rintro r w3 ⟨rfl, rfl⟩
          go_wp2
          obtain ⟨q1, q2⟩ := laid3 HB.out (by simp) HN.out.1 HN.out.2 (.bool false) (.slice none 0 0) (.int .i64 0)
          exact bodyPost_ret (v := .tuple #[.agg #[.bool false, .slice none 0 0, .int .i64 0], .bool false]) (by simp [results, Tryd.results75, go_sem, hc]) rfl ⟨⟨_, rfl, Nt.nil _ _⟩, q2⟩
    · have g1' : decide (1048576 < e) = false := decide_eq_false (by omega)
      have g2' : decide (1048576 < e + (l : Int)) = false := decide_eq_false (by omega)
      have g3' : decide (e + (l : Int) < -1048576) = false := decide_eq_false (by omega)
      have g4 : e + (l : Int) ≤ 1048576 := by omega
      have g5 : -1048576 ≤ e + (l : Int) := by omega
      have hdec : (262144 < b - l) ↔ 8192 < (ws Y).length := by omega
      by_cases h4 : 262144 < b - l
      · rw [if_pos (.inl h4)]
        have h5 : 8192 < (ws Y).length := hdec.1 h4
        clear hml hbl hY hl hb h0 h3 hdec h4
        go_enter Tryd.func75, Tryd.ntmps75
        go_wp2_with fail
        refine (Calls.mono H1.out) ?_
        rintro r w2 ⟨v, rfl, hN, hb⟩
        obtain ⟨a2, c2, rfl, A2⟩ := hN.arg (by omega)
        have hz := hb.size
        have H2' := hid (H2.out a2 c2 w2 A2)
        have H3' := hid (H3.out _ _ w2 hN)
        have HN := (Aside.intro (And.intro hN hb))
        clear hN hb A2
        go_wp2_with fail
        refine (Calls.mono H2'.out) ?_
        rintro r w3 ⟨rfl, rfl⟩
        go_wp2_with fail
        refine (Calls.mono H3'.out) ?_
        rintro r w4 ⟨v4, rfl, hN4, hb4⟩
        obtain ⟨a4, c4, rfl, _⟩ := hN4.arg (by omega)
        have hb := HN.out.2.trans (hb4.mono hz)
        have hN5 := hN4.mono hz
        obtain ⟨hc, hf⟩ := bcell hb
        have HN := (Aside.intro (And.intro hN5 hb))
        clear hN4 hb4 hb hN5
        go_wp2
        obtain ⟨q1, q2⟩ := laid3 HB.out (by simp) HN.out.1 HN.out.2 (.bool false) (.slice none 0 0) (.int .i64 0)
        exact bodyPost_ret (v := .tuple #[.agg #[.bool false, .slice none 0 0, .int .i64 0], .bool false]) (by simp [results, Tryd.results75, go_sem, hc]) rfl ⟨⟨_, rfl, Nt.nil _ _⟩, q2⟩
      · rw [if_neg (by omega)]
        have h5 : (ws Y).length ≤ 8192 := by omega
        clear hml hbl hY hl hb h0 h3 hdec h4
        go_enter Tryd.func75, Tryd.ntmps75
        go_wp2_with fail
        refine (Calls.mono H1.out) ?_
        rintro r w2 ⟨v, rfl, hN, hb⟩
        obtain ⟨a2, c2, rfl, A2⟩ := hN.arg (by omega)
        have hz := hb.size
        have H2' := hid (H2.out a2 c2 w2 A2)
        have H3' := hid (H3.out _ _ w2 hN)
        have HN := (Aside.intro (And.intro hN hb))
        clear hN hb A2
        go_wp2_with fail
        refine (Calls.mono H2'.out) ?_
        rintro r w3 ⟨rfl, rfl⟩
        go_wp2_with fail
        refine (Calls.mono H3'.out) ?_
        rintro r w4 ⟨v4, rfl, hN4, hb4⟩
        obtain ⟨a4, c4, rfl, _⟩ := hN4.arg (by omega)
        have hb := HN.out.2.trans (hb4.mono hz)
        have hN5 := hN4.mono hz
        obtain ⟨hc, hf⟩ := bcell hb
        have HN := (Aside.intro (And.intro hN5 hb))
        clear hN4 hb4 hb hN5
        go_wp2
        obtain ⟨q1, q2⟩ := laid3 HB.out (by simp) HN.out.1 HN.out.2 (.bool neg) (.slice a4 (ws Y).length c4) (.int .i64 (e + l))
        exact bodyPost_ret (v := .tuple #[.agg #[.bool neg, .slice a4 (ws Y).length c4, .int .i64 (e + l)], .bool true]) (by simp [results, Tryd.results75, go_sem, hc]) rfl ⟨⟨_, rfl, q1⟩, q2⟩
end Go.Proofs.YthilnddhehbjiaaDoor

/- The document's told, Make, Made; what is laid over. -/
namespace Go.Proofs.YthilnddhehbjiaaDoor
open Go.RowKit
set_option linter.unusedVariables false
set_option maxRecDepth 20000

theorem But.setC {g : Nat} (w : World) (i : Nat) (u : Value) : But g w (w.setCell ⟨g, i, none⟩ u) := (But.refl g w).set _ _
theorem Nt.setC {lo : Nat} {w : World} {v : Value} {X : Nat} (h : Nt lo w v X) (b i : Nat) (u : Value) (hb : b < lo) : Nt lo (w.setCell ⟨b, i, none⟩ u) v X := h.but (But.setC w i u) hb
theorem Nt.allocC {lo : Nat} {w : World} {v : Value} {X : Nat} (h : Nt lo w v X) (o : Obj) : Nt lo (w.alloc o) v X := h.below (below_alloc w o)
theorem Below.setC {lo : Nat} {w0 w : World} (h : Below lo w0 w) (b i : Nat) (u : Value) (hb : lo ≤ b) (hs : lo ≤ w.heap.size) : Below lo w0 (w.setCell ⟨b, i, none⟩ u) := But.below h (But.setC w i u) hs hb

/-- A Nat that came out (from block m on), and nothing below lo has turned. -/
structure Fin (lo m : Nat) (w0 w : World) (v : Value) (X : Nat) : Prop where
  nt : Nt m w v X
  bel : Below lo w0 w
  size : lo ≤ w.heap.size
theorem Fin.set {lo m : Nat} {w0 w : World} {v : Value} {X : Nat} (H : Fin lo m w0 w v X) (b i : Nat) (u : Value) (h1 : lo ≤ b) (h2 : b < m) : Fin lo m w0 (w.setCell ⟨b, i, none⟩ u) v X :=
  ⟨H.nt.setC b i u h2, Below.setC H.bel b i u h1 H.size, by simpa [World.setCell] using H.size⟩
theorem Fin.alloc {lo m : Nat} {w0 w : World} {v : Value} {X : Nat} (H : Fin lo m w0 w v X) (o : Obj) : Fin lo m w0 (w.alloc o) v X :=
  ⟨H.nt.allocC o, H.bel.alloc H.size o, by have := H.size; simp; omega⟩
theorem Fin.out {lo m : Nat} {w0 w : World} {v : Value} {X : Nat} (H : Fin lo m w0 w v X) (h : lo ≤ m) : Nt lo w v X ∧ Below lo w0 w := ⟨H.nt.mono h, H.bel⟩
theorem Fin.mk' {lo : Nat} {w0 W1 w2 : World} {v : Value} {X : Nat} (hB : Below lo w0 W1) (hs : lo ≤ W1.heap.size) (hN : Nt W1.heap.size w2 v X) (hb : Below W1.heap.size W1 w2) : Fin lo W1.heap.size w0 w2 v X :=
  ⟨hN, hB.trans (hb.mono hs), Nat.le_trans hs hb.size⟩
theorem Fin.of {lo : Nat} {w0 W1 w2 : World} {v : Value} {X : Nat} (k : Nat) (hB : Below lo w0 W1) (hk : W1.heap.size = lo + k) (hN : Nt W1.heap.size w2 v X) (hb : Below W1.heap.size W1 w2) : Fin lo (lo + k) w0 w2 v X :=
  ⟨hk ▸ hN, hB.trans (hb.mono (by omega)), by have := hb.size; omega⟩
theorem Fin.nil {lo m : Nat} {w0 w : World} {v : Value} {X : Nat} (H : Fin lo m w0 w v X) : Nt lo w (.slice none 0 0) 0 ∧ Below lo w0 w := ⟨Nt.nil _ _, H.bel⟩

theorem Fin.dans {lo m : Nat} {w0 w : World} {n : Bool} {v : Value} {X : Nat} {e : Int} {k : Value} (H : Fin lo m w0 w v X) (h : lo ≤ m) :
    (∃ v', Ending.returned (.tuple #[.agg #[.bool n, v, .int .i64 e], k]) = .returned (.tuple #[.agg #[.bool n, v', .int .i64 e], k]) ∧ Nt lo w v' X) ∧ Below lo w0 w := ⟨⟨v, rfl, H.nt.mono h⟩, H.bel⟩
theorem Fin.dnil {lo m : Nat} {w0 w : World} {n : Bool} {v : Value} {X : Nat} {e : Int} {k : Value} (H : Fin lo m w0 w v X) :
    (∃ v', Ending.returned (.tuple #[.agg #[.bool n, .slice none 0 0, .int .i64 e], k]) = .returned (.tuple #[.agg #[.bool n, v', .int .i64 e], k]) ∧ Nt lo w v' 0) ∧ Below lo w0 w := ⟨⟨_, rfl, Nt.nil _ _⟩, H.bel⟩

set_option maxHeartbeats 4000000 in
theorem rtold_any {w : World} {a : Option Addr} {n c : Nat} {xs : List Nat} (h1 : Arg w a n c xs) (hn : n ≤ 2000000) (neg : Bool) (e : Int) (he0 : -9223372036854775808 ≤ e) (he1 : e ≤ 9223372036854775807) :
    Calls Tryd.prog 74 #[.bool neg, .slice a n c, .int .i64 e] w fun r w' => DAns w.heap.size w' r (mkS neg (val xs) e) ∧ Below w.heap.size w w' := by
  have H1 := hid (rForm_any (h1.below (below_alloc w (.cells #[.bool false, .slice none 0 0, .int .i64 0] 39))) hn neg e he0 he1)
  have hl := mkS_len neg (val xs) e
  obtain ⟨o, ho⟩ : ∃ o, mkS neg (val xs) e = o := ⟨_, rfl⟩
  rw [ho] at H1 hl ⊢
  unfold FAns at H1
  unfold DAns
  have HB := Aside.intro (below_alloc w (.cells #[.bool false, .slice none 0 0, .int .i64 0] 39))
  clear h1 ho hn he0 he1
  match o with
  | none =>
    simp only [dN, dX, dE, erS, Option.isSome, Option.getD] at H1 hl ⊢
    go_enter Tryd.func74, Tryd.ntmps74
    go_wp2_with fail
    refine (Calls.mono H1.out) ?_
    rintro r w2 ⟨⟨v, rfl, hN⟩, hb⟩
    obtain ⟨a2, c2, rfl, _⟩ := hN.arg (by omega)
    obtain ⟨hc, hf⟩ := bcell hb
    have HF := Aside.intro (Fin.of 1 HB.out (by simp) hN hb)
    have hz : w.heap.size < w2.heap.size := by have := hb.size; simp at this; omega
    clear hN hb
    go_wp2
    exact bodyPost_ret (v := .tuple #[.agg #[.bool false, .slice none 0 0, .int .i64 0], .int .i64 2]) (by simp [results, Tryd.results74, go_sem, hc, hz]) rfl (Fin.dnil (m := w.heap.size + 1) (v := .slice a2 (ws 0).length c2) (X := 0) (by repeat (first | exact HF.out | refine Fin.alloc ?_ _ | refine Fin.set ?_ _ _ _ (by omega) (by omega))))
  | some (dn, X, de) =>
    simp only [dN, dX, dE, erS, Option.isSome, Option.getD] at H1 hl ⊢
    go_enter Tryd.func74, Tryd.ntmps74
    go_wp2_with fail
    refine (Calls.mono H1.out) ?_
    rintro r w2 ⟨⟨v, rfl, hN⟩, hb⟩
    obtain ⟨a2, c2, rfl, _⟩ := hN.arg (by omega)
    obtain ⟨hc, hf⟩ := bcell hb
    have HF := Aside.intro (Fin.of 1 HB.out (by simp) hN hb)
    have hz : w.heap.size < w2.heap.size := by have := hb.size; simp at this; omega
    clear hN hb
    go_wp2
    exact bodyPost_ret (v := .tuple #[.agg #[.bool dn, .slice a2 (ws X).length c2, .int .i64 de], .int .i64 0]) (by simp [results, Tryd.results74, go_sem, hc, hz]) rfl (Fin.dans (m := w.heap.size + 1) (by repeat (first | exact HF.out | refine Fin.alloc ?_ _ | refine Fin.set ?_ _ _ _ (by omega) (by omega))) (by omega))
end Go.Proofs.YthilnddhehbjiaaDoor

/- Calls that hand on: the program's form, Neg, the document's Make, Made, Neg. -/
namespace Go.Proofs.YthilnddhehbjiaaDoor
open Go.RowKit
set_option linter.unusedVariables false
set_option maxRecDepth 20000

set_option maxHeartbeats 4000000 in
theorem rMake_any {w : World} {a : Option Addr} {n c : Nat} {xs : List Nat} (h1 : Arg w a n c xs) (hn : n ≤ 2000000) (neg : Bool) (e : Int) (he0 : -9223372036854775808 ≤ e) (he1 : e ≤ 9223372036854775807) :
    Calls Tryd.prog 23 #[.bool neg, .slice a n c, .int .i64 e] w fun r w' => DAns w.heap.size w' r (mkS neg (val xs) e) ∧ Below w.heap.size w w' := by
  have HB := Aside.intro (show Below w.heap.size w (w.alloc (.cells #[.bool false, .slice none 0 0, .int .i64 0] 39)) from ((Below.refl _ _).alloc (Nat.le_refl _) _))
  have H1 := hid (rtold_any (h1.below HB.out) hn neg e he0 he1)
  have hl := mkS_len neg (val xs) e
  obtain ⟨o, ho⟩ : ∃ o, mkS neg (val xs) e = o := ⟨_, rfl⟩
  rw [ho] at H1 hl ⊢
  unfold DAns at H1 ⊢
  obtain ⟨dn, hdn⟩ : ∃ d, dN o = d := ⟨_, rfl⟩
  obtain ⟨X, hdx⟩ : ∃ d, dX o = d := ⟨_, rfl⟩
  obtain ⟨de, hde⟩ : ∃ d, dE o = d := ⟨_, rfl⟩
  obtain ⟨er, her⟩ : ∃ d, erS o = d := ⟨_, rfl⟩
  rw [hdn, hdx, hde, her] at H1 ⊢
  rw [hdx] at hl
  clear h1 ho hdn hdx hde her hn he0 he1
  go_enter Tryd.func23, Tryd.ntmps23
  go_wp2_with fail
  refine (Calls.mono H1.out) ?_
  rintro r w2 ⟨⟨v, rfl, hN⟩, hb⟩
  obtain ⟨a2, c2, rfl, _⟩ := hN.arg (by omega)
  obtain ⟨hc, hf⟩ := bcell hb
  have HF := Aside.intro (Fin.of 1 HB.out (by simp) hN hb)
  have hz : w.heap.size < w2.heap.size := by have := hb.size; simp at this; omega
  clear hN hb
  go_wp2
  exact bodyPost_ret (v := .tuple #[.agg #[.bool dn, .slice a2 (ws X).length c2, .int .i64 de], .int .i64 er]) (by simp [results, Tryd.results23, go_sem, hc]) rfl (Fin.dans (m := w.heap.size + 1) (by repeat (first | exact HF.out | refine Fin.alloc ?_ _ | refine Fin.set ?_ _ _ _ (by omega) (by omega))) (by omega))

set_option maxHeartbeats 4000000 in
theorem rMade_any {w : World} {a : Option Addr} {n c : Nat} {xs : List Nat} (h1 : Arg w a n c xs) (hn : n ≤ 2000000) (neg : Bool) (e : Int) (he0 : -9223372036854775808 ≤ e) (he1 : e ≤ 9223372036854775807) :
    Calls Tryd.prog 82 #[.agg #[.bool neg, .slice a n c, .int .i64 e]] w fun r w' => FAns w.heap.size w' r (mkS neg (val xs) e) ∧ Below w.heap.size w w' := by
  have HB := Aside.intro (show Below w.heap.size w ((w.alloc (.cells #[.bool neg, .slice a n c, .int .i64 e] 39)).alloc (.cells #[.bool false, .slice none 0 0, .int .i64 0] 39)) from (((Below.refl _ _).alloc (Nat.le_refl _) _).alloc (by simp) _))
  have H1 := hid (rForm_any (h1.below HB.out) hn neg e he0 he1)
  have hl := mkS_len neg (val xs) e
  obtain ⟨o, ho⟩ : ∃ o, mkS neg (val xs) e = o := ⟨_, rfl⟩
  rw [ho] at H1 hl ⊢
  unfold FAns at H1 ⊢
  obtain ⟨dn, hdn⟩ : ∃ d, dN o = d := ⟨_, rfl⟩
  obtain ⟨X, hdx⟩ : ∃ d, dX o = d := ⟨_, rfl⟩
  obtain ⟨de, hde⟩ : ∃ d, dE o = d := ⟨_, rfl⟩
  obtain ⟨er, her⟩ : ∃ d, o.isSome = d := ⟨_, rfl⟩
  rw [hdn, hdx, hde, her] at H1 ⊢
  rw [hdx] at hl
  clear h1 ho hdn hdx hde her hn he0 he1
  go_enter Tryd.func82, Tryd.ntmps82
  go_wp2_with fail
  refine (Calls.mono H1.out) ?_
  rintro r w2 ⟨⟨v, rfl, hN⟩, hb⟩
  obtain ⟨a2, c2, rfl, _⟩ := hN.arg (by omega)
  obtain ⟨hc, hf⟩ := bcell hb
  have HF := Aside.intro (Fin.of 2 HB.out (by simp) hN hb)
  have hz : w.heap.size + 1 < w2.heap.size := by have := hb.size; simp at this; omega
  clear hN hb
  go_wp2
  exact bodyPost_ret (v := .tuple #[.agg #[.bool dn, .slice a2 (ws X).length c2, .int .i64 de], .bool er]) (by simp [results, Tryd.results82, go_sem, hc]) rfl (Fin.dans (m := w.heap.size + 2) (by repeat (first | exact HF.out | refine Fin.alloc ?_ _ | refine Fin.set ?_ _ _ _ (by omega) (by omega))) (by omega))

set_option maxHeartbeats 4000000 in
theorem form_any {w : World} {a : Option Addr} {n c : Nat} {xs : List Nat} (h1 : Arg w a n c xs) (hT : Tab w) (neg : Bool) (e : Int) (he0 : -9223372036854775808 ≤ e) (he1 : e ≤ 9223372036854775807) :
    Calls Tryd.prog 89 #[.agg #[.bool neg, .slice a n c, .int .i64 e]] w fun r w' => DAns w.heap.size w' r (mkS neg (val xs) e) ∧ Below w.heap.size w w' := by
  have HB := Aside.intro (show Below w.heap.size w ((w.alloc (.cells #[.bool neg, .slice a n c, .int .i64 e] 39)).alloc (.cells #[.bool false, .slice none 0 0, .int .i64 0] 39)) from (((Below.refl _ _).alloc (Nat.le_refl _) _).alloc (by simp) _))
  have H1 := hid (Make_any (h1.below HB.out) (hT.belows HB.out) neg e he0 he1)
  have hl := mkS_len neg (val xs) e
  obtain ⟨o, ho⟩ : ∃ o, mkS neg (val xs) e = o := ⟨_, rfl⟩
  rw [ho] at H1 hl ⊢
  unfold DAns at H1 ⊢
  obtain ⟨dn, hdn⟩ : ∃ d, dN o = d := ⟨_, rfl⟩
  obtain ⟨X, hdx⟩ : ∃ d, dX o = d := ⟨_, rfl⟩
  obtain ⟨de, hde⟩ : ∃ d, dE o = d := ⟨_, rfl⟩
  obtain ⟨er, her⟩ : ∃ d, erS o = d := ⟨_, rfl⟩
  rw [hdn, hdx, hde, her] at H1 ⊢
  rw [hdx] at hl
  clear h1 ho hdn hdx hde her hT he0 he1
  go_enter Tryd.func89, Tryd.ntmps89
  go_wp2_with fail
  refine (Calls.mono H1.out) ?_
  rintro r w2 ⟨⟨v, rfl, hN⟩, hb⟩
  obtain ⟨a2, c2, rfl, _⟩ := hN.arg (by omega)
  obtain ⟨hc, hf⟩ := bcell hb
  have HF := Aside.intro (Fin.of 2 HB.out (by simp) hN hb)
  have hz : w.heap.size + 1 < w2.heap.size := by have := hb.size; simp at this; omega
  clear hN hb
  go_wp2
  exact bodyPost_ret (v := .tuple #[.agg #[.bool dn, .slice a2 (ws X).length c2, .int .i64 de], .int .i64 er]) (by simp [results, Tryd.results89, go_sem, hc]) rfl (Fin.dans (m := w.heap.size + 2) (by repeat (first | exact HF.out | refine Fin.alloc ?_ _ | refine Fin.set ?_ _ _ _ (by omega) (by omega))) (by omega))


/-- A Dyad alone that is answered. -/
def DVal (lo : Nat) (w : World) (r : Ending) (o : Option (Bool × Nat × Int)) : Prop :=
  ∃ v, r = .returned (.agg #[.bool (dN o), v, .int .i64 (dE o)]) ∧ Nt lo w v (dX o)
theorem Fin.dval {lo m : Nat} {w0 w : World} {n : Bool} {v : Value} {X : Nat} {e : Int} (H : Fin lo m w0 w v X) (h : lo ≤ m) :
    (∃ v', Ending.returned (.agg #[.bool n, v, .int .i64 e]) = .returned (.agg #[.bool n, v', .int .i64 e]) ∧ Nt lo w v' X) ∧ Below lo w0 w := ⟨⟨v, rfl, H.nt.mono h⟩, H.bel⟩

set_option maxHeartbeats 1000000 in
theorem turned_any (a : Option Addr) (n c : Nat) (neg : Bool) (e : Int) (w : World) :
    Calls Tryd.prog 81 #[.agg #[.bool neg, .slice a n c, .int .i64 e]] w fun r w' => r = .returned (.agg #[.bool (!neg), .slice a n c, .int .i64 e]) ∧ Below w.heap.size w w' := by
  go_enter Tryd.func81, Tryd.ntmps81
  go_wp2
  exact bodyPost_ret (v := .agg #[.bool (!neg), .slice a n c, .int .i64 e]) (by simp [results, Tryd.results81, go_sem]) rfl ⟨rfl, by repeat (first | exact Below.refl _ _ | refine Below.alloc ?_ (by first | omega | simp) _ | refine Below.setC ?_ _ _ _ (by omega) (by simp))⟩

set_option maxHeartbeats 1000000 in
theorem rturned_any (a : Option Addr) (n c : Nat) (neg : Bool) (e : Int) (w : World) :
    Calls Tryd.prog 87 #[.agg #[.bool neg, .slice a n c, .int .i64 e]] w fun r w' => r = .returned (.agg #[.bool (!neg), .slice a n c, .int .i64 e]) ∧ Below w.heap.size w w' := by
  go_enter Tryd.func87, Tryd.ntmps87
  go_wp2
  exact bodyPost_ret (v := .agg #[.bool (!neg), .slice a n c, .int .i64 e]) (by simp [results, Tryd.results87, go_sem]) rfl ⟨rfl, by repeat (first | exact Below.refl _ _ | refine Below.alloc ?_ (by first | omega | simp) _ | refine Below.setC ?_ _ _ _ (by omega) (by simp))⟩

set_option maxHeartbeats 4000000 in
theorem Neg_any {w : World} {a : Option Addr} {n c : Nat} {xs : List Nat} (h1 : Arg w a n c xs) (hT : Tab w) (neg : Bool) (e : Int) (he0 : -9223372036854775808 ≤ e) (he1 : e ≤ 9223372036854775807) :
    Calls Tryd.prog 35 #[.agg #[.bool neg, .slice a n c, .int .i64 e]] w fun r w' => DVal w.heap.size w' r (mkS (!neg) (val xs) e) ∧ Below w.heap.size w w' := by
  have HB := Aside.intro (show Below w.heap.size w ((w.alloc (.cells #[.bool neg, .slice a n c, .int .i64 e] 39)).alloc (.cells #[.bool false, .slice none 0 0, .int .i64 0] 39)) from (((Below.refl _ _).alloc (Nat.le_refl _) _).alloc (by simp) _))
  have T1 := hid (turned_any a n c neg e ((w.alloc (.cells #[.bool neg, .slice a n c, .int .i64 e] 39)).alloc (.cells #[.bool false, .slice none 0 0, .int .i64 0] 39)))
  have F1 : Hid (∀ u, Below w.heap.size w u → Calls Tryd.prog 89 #[.agg #[.bool (!neg), .slice a n c, .int .i64 e]] u fun r w' => DAns u.heap.size w' r (mkS (!neg) (val xs) e) ∧ Below u.heap.size u w') :=
    fun u hu => form_any (h1.below hu) (hT.belows hu) (!neg) e he0 he1
  have hl := mkS_len (!neg) (val xs) e
  obtain ⟨o, ho⟩ : ∃ o, mkS (!neg) (val xs) e = o := ⟨_, rfl⟩
  rw [ho] at F1 hl ⊢
  unfold DAns at F1
  unfold DVal
  obtain ⟨dn, hdn⟩ : ∃ d, dN o = d := ⟨_, rfl⟩
  obtain ⟨X, hdx⟩ : ∃ d, dX o = d := ⟨_, rfl⟩
  obtain ⟨de, hde⟩ : ∃ d, dE o = d := ⟨_, rfl⟩
  obtain ⟨er, her⟩ : ∃ d, erS o = d := ⟨_, rfl⟩
  rw [hdn, hdx, hde, her] at F1
  rw [hdn, hdx, hde]
  rw [hdx] at hl
  clear h1 ho hdn hdx hde her hT he0 he1
  go_enter Tryd.func35, Tryd.ntmps35
  go_wp2_with fail
  refine (Calls.mono T1.out) ?_
  rintro r w1 ⟨rfl, hb1⟩
  have hbw := HB.out.trans (hb1.mono (by simp; omega))
  have H1 := hid (F1.out w1 hbw)
  have hz1 : w.heap.size + 2 ≤ w1.heap.size := by have := hb1.size; simp at this; omega
  have SB1 := (Aside.intro (And.intro hb1 hbw))
  clear hb1 hbw
  go_wp2_with fail
  refine (Calls.mono H1.out) ?_
  rintro r w2 ⟨⟨v, rfl, hN⟩, hb⟩
  obtain ⟨a2, c2, rfl, _⟩ := hN.arg (by omega)
  have hbb := SB1.out.1.trans (hb.mono (by simp; omega))
  obtain ⟨hc, hf⟩ := bcell hbb
  have HF := Aside.intro (show Fin w.heap.size (w.heap.size + 2) w w2 (.slice a2 (ws X).length c2) X from ⟨hN.mono hz1, SB1.out.2.trans (hb.mono (by omega)), by have := hb.size; omega⟩)
  have hz : w.heap.size + 1 < w2.heap.size := by have := hb.size; omega
  clear hN hb hbb
  go_wp2
  exact bodyPost_ret (v := .agg #[.bool dn, .slice a2 (ws X).length c2, .int .i64 de]) (by simp [results, Tryd.results35, go_sem, hc, hz]) rfl (Fin.dval (m := w.heap.size + 2) (by repeat (first | exact HF.out | refine Fin.alloc ?_ _ | refine Fin.set ?_ _ _ _ (by omega) (by omega))) (by omega))

set_option maxHeartbeats 4000000 in
theorem rNeg_any {w : World} {a : Option Addr} {n c : Nat} {xs : List Nat} (h1 : Arg w a n c xs) (hn : n ≤ 2000000) (neg : Bool) (e : Int) (he0 : -9223372036854775808 ≤ e) (he1 : e ≤ 9223372036854775807) :
    Calls Tryd.prog 40 #[.agg #[.bool neg, .slice a n c, .int .i64 e]] w fun r w' => DVal w.heap.size w' r (mkS (!neg) (val xs) e) ∧ Below w.heap.size w w' := by
  have HB := Aside.intro (show Below w.heap.size w ((w.alloc (.cells #[.bool neg, .slice a n c, .int .i64 e] 39)).alloc (.cells #[.bool false, .slice none 0 0, .int .i64 0] 39)) from (((Below.refl _ _).alloc (Nat.le_refl _) _).alloc (by simp) _))
  have H1 := hid (rForm_any (h1.below HB.out) hn (!neg) e he0 he1)
  have hl := mkS_len (!neg) (val xs) e
  obtain ⟨o, ho⟩ : ∃ o, mkS (!neg) (val xs) e = o := ⟨_, rfl⟩
  rw [ho] at H1 hl ⊢
  unfold FAns at H1
  unfold DVal
  obtain ⟨dn, hdn⟩ : ∃ d, dN o = d := ⟨_, rfl⟩
  obtain ⟨X, hdx⟩ : ∃ d, dX o = d := ⟨_, rfl⟩
  obtain ⟨de, hde⟩ : ∃ d, dE o = d := ⟨_, rfl⟩
  obtain ⟨er, her⟩ : ∃ d, o.isSome = d := ⟨_, rfl⟩
  rw [hdn, hdx, hde, her] at H1
  rw [hdn, hdx, hde]
  rw [hdx] at hl
  clear h1 ho hdn hdx hde her hn he0 he1
  go_enter Tryd.func40, Tryd.ntmps40
  go_wp2_with fail
  refine (Calls.mono H1.out) ?_
  rintro r w2 ⟨⟨v, rfl, hN⟩, hb⟩
  obtain ⟨a2, c2, rfl, _⟩ := hN.arg (by omega)
  obtain ⟨hc, hf⟩ := bcell hb
  have HF := Aside.intro (Fin.of 2 HB.out (by simp) hN hb)
  have hz : w.heap.size + 1 < w2.heap.size := by have := hb.size; simp at this; omega
  clear hN hb
  go_wp2
  exact bodyPost_ret (v := .agg #[.bool dn, .slice a2 (ws X).length c2, .int .i64 de]) (by simp [results, Tryd.results40, go_sem, hc, hz]) rfl (Fin.dval (m := w.heap.size + 2) (by repeat (first | exact HF.out | refine Fin.alloc ?_ _ | refine Fin.set ?_ _ _ _ (by omega) (by omega))) (by omega))
end Go.Proofs.YthilnddhehbjiaaDoor

