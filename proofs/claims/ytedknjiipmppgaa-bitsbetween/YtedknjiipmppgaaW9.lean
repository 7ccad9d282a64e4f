/- What the document's Join answers: at parts that a number has, the number; at other parts, nought and ErrParts. -/
import Derived.Test.YtedknjiipmppgaaW8
namespace Go.Proofs.Ytedknjiipmppgaa
open Go.RowKit
attribute [local go_sem] f64bits f64frombits

set_option maxHeartbeats 1000000 in
theorem of_any (n : Int) (w : World) : Calls Try.prog 39 #[.int .u64 n] w fun r w' => r = .returned (.float .f64 n.toNat) ∧ w' = w := by
  go_enter Try.func39, Try.ntmps39
  go_wp2
  go_ret
  exact ⟨rfl, rfl⟩

set_option maxHeartbeats 1000000 in
theorem rnan_any (w : World) : Calls Try.prog 38 #[] w fun r w' => r = .returned (.float .f64 9221120237041090560) ∧ w' = w := by
  go_enter Try.func38, Try.ntmps38
  go_wp2_with (go_at_call 39; refine (of_any _ _).mono ?_; rintro r w1 ⟨rfl, rfl⟩)
  go_ret
  exact ⟨rfl, rfl⟩

set_option maxHeartbeats 1000000 in
theorem endless_any (s : Bool) (w : World) : Calls Try.prog 41 #[.bool s] w fun r w' => r = .returned (.float .f64 (bw s 2047 0)) ∧ w' = w := by
  cases s
  · go_enter Try.func41, Try.ntmps41
    go_wp2_with (go_at_call 39; refine (of_any _ _).mono ?_; rintro r w1 ⟨rfl, rfl⟩)
    go_ret
    exact ⟨rfl, rfl⟩
  · go_enter Try.func41, Try.ntmps41
    go_wp2_with (go_at_call 39; refine (of_any _ _).mono ?_; rintro r w1 ⟨rfl, rfl⟩)
    go_ret
    exact ⟨rfl, rfl⟩

theorem rSplit_nan (w : World) : Calls Try.prog 13 #[.float .f64 9221120237041090560] w fun r w' => r = .returned (.agg #[.bool false, .int .i64 4, .int .i64 0, .int .u64 0]) ∧ Below w.heap.size w w' :=
  rSplit_any false 2047 2251799813685248 (by omega) (by omega) w
theorem rSplit_end (s : Bool) (w : World) : Calls Try.prog 13 #[.float .f64 (bw s 2047 0)] w fun r w' => r = .returned (.agg #[.bool s, .int .i64 3, .int .i64 0, .int .u64 0]) ∧ Below w.heap.size w w' := by
  rw [← splitV_end s 2047 0 rfl (by simp)]; exact rSplit_any s 2047 0 (by omega) (by omega) w
theorem rSplit_fin (s : Bool) (e f : Nat) (he : e < 2047) (hf : f < 4503599627370496) (w : World) : Calls Try.prog 13 #[.float .f64 (bw s e f)] w fun r w' => r = .returned (.agg #[.bool s, .int .i64 (cls e f), .int .i64 (xp e), .int .u64 (fr e f)]) ∧ Below w.heap.size w w' := by
  have h : ng s e f = s := if_neg (by omega)
  have := rSplit_any s e f (by omega) hf w
  rw [h] at this; exact this

theorem val_small (f : Nat) (hf : f < 4503599627370496) : val Ieee.double (0 * 4503599627370496 + f) = f * 2 ^ ((-1074 : Int) + 1074).toNat := by
  unfold val; rw [dBin, Nat.zero_mul, Nat.zero_add, if_pos hf, show ((-1074 : Int) + 1074).toNat = 0 from rfl, Nat.pow_zero, Nat.mul_one]
theorem val_plain (e f : Nat) (h0 : 0 < e) (hf : f < 4503599627370496) : val Ieee.double (e * 4503599627370496 + f) = (f + 4503599627370496) * 2 ^ ((e : Int) - 1075 + 1074).toNat := by
  unfold val
  rw [dBin, if_neg (by omega)]
  have e2 : (e * 4503599627370496 + f) % 4503599627370496 = f := by omega
  have e3 : (e * 4503599627370496 + f) / 4503599627370496 - 1 = ((e : Int) - 1075 + 1074).toNat := by omega
  rw [e2, e3, Nat.add_comm]

set_option maxHeartbeats 2000000 in
theorem rjoin_odd  (w : World) :
    Calls Try.prog 19 #[.agg #[.bool false, .int .i64 4, .int .i64 0, .int .u64 0]] w fun r w' => r = .returned (.tuple #[.float .f64 9221120237041090560, .int .i64 0]) ∧ Below w.heap.size w w' := by
  go_enter Try.func19, Try.ntmps19
  go_wp2_with (first
    | (go_at_call 38; refine (rnan_any _).mono ?_; rintro r w1 ⟨rfl, rfl⟩)
    | (go_at_call 39; refine (of_any _ _).mono ?_; rintro r w1 ⟨rfl, rfl⟩)
    | (go_at_call 41; refine (endless_any _ _).mono ?_; rintro r w1 ⟨rfl, rfl⟩))
  refine (rSplit_nan _).mono ?_
  rintro r w2 ⟨rfl, hb⟩
  have hz : w.heap.size < w2.heap.size := by (have := hb.size; simp at this; omega)
  obtain ⟨hc, hfz⟩ := bcell hb
  go_wp2_with (go_at_call 39; refine (of_any _ _).mono ?_; rintro r w1 ⟨rfl, rfl⟩)
  go_ret2
  exact ⟨rfl, (((Below.refl _ _).alloc (Nat.le_refl _) _).trans (hb.mono (by simp))).alloc (Nat.le_of_lt hz) _⟩

set_option maxHeartbeats 2000000 in
theorem rjoin_end (s : Bool) (w : World) :
    Calls Try.prog 19 #[.agg #[.bool s, .int .i64 3, .int .i64 0, .int .u64 0]] w fun r w' => r = .returned (.tuple #[.float .f64 (bw s 2047 0), .int .i64 0]) ∧ Below w.heap.size w w' := by
  go_enter Try.func19, Try.ntmps19
  go_wp2_with (first
    | (go_at_call 38; refine (rnan_any _).mono ?_; rintro r w1 ⟨rfl, rfl⟩)
    | (go_at_call 39; refine (of_any _ _).mono ?_; rintro r w1 ⟨rfl, rfl⟩)
    | (go_at_call 41; refine (endless_any _ _).mono ?_; rintro r w1 ⟨rfl, rfl⟩))
  refine (rSplit_end s _).mono ?_
  rintro r w2 ⟨rfl, hb⟩
  have hz : w.heap.size < w2.heap.size := by (have := hb.size; simp at this; omega)
  obtain ⟨hc, hfz⟩ := bcell hb
  go_wp2_with (go_at_call 39; refine (of_any _ _).mono ?_; rintro r w1 ⟨rfl, rfl⟩)
  go_ret2
  exact ⟨rfl, (((Below.refl _ _).alloc (Nat.le_refl _) _).trans (hb.mono (by simp))).alloc (Nat.le_of_lt hz) _⟩

set_option maxHeartbeats 2000000 in
theorem rjoin_same0 (s : Bool) (x g : Int) (B : Nat) (hx0 : -1074 ≤ x) (hx1 : x ≤ 971) (hg0 : 0 ≤ g) (hg : g < 9007199254740992) (H1 : Hid (∀ w, Calls Try.prog 40 #[.bool s, .int .u64 g, .int .i64 x] w fun r w' => r = .returned (.tuple #[.float .f64 B, .bool true]) ∧ w' = w)) (H2 : Hid (∀ w, Calls Try.prog 13 #[.float .f64 B] w fun r w' => r = .returned (.agg #[.bool s, .int .i64 0, .int .i64 x, .int .u64 g]) ∧ Below w.heap.size w w')) (w : World) :
    Calls Try.prog 19 #[.agg #[.bool s, .int .i64 0, .int .i64 x, .int .u64 g]] w fun r w' => r = .returned (.tuple #[.float .f64 B, .int .i64 0]) ∧ Below w.heap.size w w' := by
  go_enter Try.func19, Try.ntmps19
  go_wp2_with (first
    | (go_at_call 38; refine (rnan_any _).mono ?_; rintro r w1 ⟨rfl, rfl⟩)
    | (go_at_call 39; refine (of_any _ _).mono ?_; rintro r w1 ⟨rfl, rfl⟩)
    | (go_at_call 40; refine (H1.out _).mono ?_; rintro r w1 ⟨rfl, rfl⟩)
    | (go_at_call 41; refine (endless_any _ _).mono ?_; rintro r w1 ⟨rfl, rfl⟩))
  refine (H2.out _).mono ?_
  rintro r w2 ⟨rfl, hb⟩
  have hz : w.heap.size < w2.heap.size := by (have := hb.size; simp at this; omega)
  obtain ⟨hc, hfz⟩ := bcell hb
  go_wp2_with (go_at_call 39; refine (of_any _ _).mono ?_; rintro r w1 ⟨rfl, rfl⟩)
  go_ret2
  exact ⟨rfl, (((Below.refl _ _).alloc (Nat.le_refl _) _).trans (hb.mono (by simp))).alloc (Nat.le_of_lt hz) _⟩

set_option maxHeartbeats 2000000 in
theorem rjoin_clsd0 (s : Bool) (x g : Int) (B : Nat) (hx0 : -1074 ≤ x) (hx1 : x ≤ 971) (hg0 : 0 ≤ g) (hg : g < 9007199254740992) (H1 : Hid (∀ w, Calls Try.prog 40 #[.bool s, .int .u64 g, .int .i64 x] w fun r w' => r = .returned (.tuple #[.float .f64 B, .bool true]) ∧ w' = w)) (k y h : Int) (H2 : Hid (∀ w, Calls Try.prog 13 #[.float .f64 B] w fun r w' => r = .returned (.agg #[.bool s, .int .i64 k, .int .i64 y, .int .u64 h]) ∧ Below w.heap.size w w')) (hk : (k == 0) = false) (w : World) :
    Calls Try.prog 19 #[.agg #[.bool s, .int .i64 0, .int .i64 x, .int .u64 g]] w fun r w' => r = .returned (.tuple #[.float .f64 0, .int .i64 10]) ∧ Below w.heap.size w w' := by
  go_enter Try.func19, Try.ntmps19
  go_wp2_with (first
    | (go_at_call 38; refine (rnan_any _).mono ?_; rintro r w1 ⟨rfl, rfl⟩)
    | (go_at_call 39; refine (of_any _ _).mono ?_; rintro r w1 ⟨rfl, rfl⟩)
    | (go_at_call 40; refine (H1.out _).mono ?_; rintro r w1 ⟨rfl, rfl⟩)
    | (go_at_call 41; refine (endless_any _ _).mono ?_; rintro r w1 ⟨rfl, rfl⟩))
  refine (H2.out _).mono ?_
  rintro r w2 ⟨rfl, hb⟩
  have hz : w.heap.size < w2.heap.size := by (have := hb.size; simp at this; omega)
  obtain ⟨hc, hfz⟩ := bcell hb
  go_wp2_with (go_at_call 39; refine (of_any _ _).mono ?_; rintro r w1 ⟨rfl, rfl⟩)
  go_ret2
  exact ⟨rfl, (((Below.refl _ _).alloc (Nat.le_refl _) _).trans (hb.mono (by simp))).alloc (Nat.le_of_lt hz) _⟩

set_option maxHeartbeats 2000000 in
theorem rjoin_expd0 (s : Bool) (x g : Int) (B : Nat) (hx0 : -1074 ≤ x) (hx1 : x ≤ 971) (hg0 : 0 ≤ g) (hg : g < 9007199254740992) (H1 : Hid (∀ w, Calls Try.prog 40 #[.bool s, .int .u64 g, .int .i64 x] w fun r w' => r = .returned (.tuple #[.float .f64 B, .bool true]) ∧ w' = w)) (y h : Int) (H2 : Hid (∀ w, Calls Try.prog 13 #[.float .f64 B] w fun r w' => r = .returned (.agg #[.bool s, .int .i64 0, .int .i64 y, .int .u64 h]) ∧ Below w.heap.size w w')) (hk : (y == x) = false) (w : World) :
    Calls Try.prog 19 #[.agg #[.bool s, .int .i64 0, .int .i64 x, .int .u64 g]] w fun r w' => r = .returned (.tuple #[.float .f64 0, .int .i64 10]) ∧ Below w.heap.size w w' := by
  go_enter Try.func19, Try.ntmps19
  go_wp2_with (first
    | (go_at_call 38; refine (rnan_any _).mono ?_; rintro r w1 ⟨rfl, rfl⟩)
    | (go_at_call 39; refine (of_any _ _).mono ?_; rintro r w1 ⟨rfl, rfl⟩)
    | (go_at_call 40; refine (H1.out _).mono ?_; rintro r w1 ⟨rfl, rfl⟩)
    | (go_at_call 41; refine (endless_any _ _).mono ?_; rintro r w1 ⟨rfl, rfl⟩))
  refine (H2.out _).mono ?_
  rintro r w2 ⟨rfl, hb⟩
  have hz : w.heap.size < w2.heap.size := by (have := hb.size; simp at this; omega)
  obtain ⟨hc, hfz⟩ := bcell hb
  go_wp2_with (go_at_call 39; refine (of_any _ _).mono ?_; rintro r w1 ⟨rfl, rfl⟩)
  go_ret2
  exact ⟨rfl, (((Below.refl _ _).alloc (Nat.le_refl _) _).trans (hb.mono (by simp))).alloc (Nat.le_of_lt hz) _⟩

set_option maxHeartbeats 2000000 in
theorem rjoin_frad0 (s : Bool) (x g : Int) (B : Nat) (hx0 : -1074 ≤ x) (hx1 : x ≤ 971) (hg0 : 0 ≤ g) (hg : g < 9007199254740992) (H1 : Hid (∀ w, Calls Try.prog 40 #[.bool s, .int .u64 g, .int .i64 x] w fun r w' => r = .returned (.tuple #[.float .f64 B, .bool true]) ∧ w' = w)) (h : Int) (H2 : Hid (∀ w, Calls Try.prog 13 #[.float .f64 B] w fun r w' => r = .returned (.agg #[.bool s, .int .i64 0, .int .i64 x, .int .u64 h]) ∧ Below w.heap.size w w')) (hk : (h == g) = false) (w : World) :
    Calls Try.prog 19 #[.agg #[.bool s, .int .i64 0, .int .i64 x, .int .u64 g]] w fun r w' => r = .returned (.tuple #[.float .f64 0, .int .i64 10]) ∧ Below w.heap.size w w' := by
  go_enter Try.func19, Try.ntmps19
  go_wp2_with (first
    | (go_at_call 38; refine (rnan_any _).mono ?_; rintro r w1 ⟨rfl, rfl⟩)
    | (go_at_call 39; refine (of_any _ _).mono ?_; rintro r w1 ⟨rfl, rfl⟩)
    | (go_at_call 40; refine (H1.out _).mono ?_; rintro r w1 ⟨rfl, rfl⟩)
    | (go_at_call 41; refine (endless_any _ _).mono ?_; rintro r w1 ⟨rfl, rfl⟩))
  refine (H2.out _).mono ?_
  rintro r w2 ⟨rfl, hb⟩
  have hz : w.heap.size < w2.heap.size := by (have := hb.size; simp at this; omega)
  obtain ⟨hc, hfz⟩ := bcell hb
  go_wp2_with (go_at_call 39; refine (of_any _ _).mono ?_; rintro r w1 ⟨rfl, rfl⟩)
  go_ret2
  exact ⟨rfl, (((Below.refl _ _).alloc (Nat.le_refl _) _).trans (hb.mono (by simp))).alloc (Nat.le_of_lt hz) _⟩

set_option maxHeartbeats 2000000 in
theorem rjoin_same1 (s : Bool) (x g : Int) (B : Nat) (hx0 : -1074 ≤ x) (hx1 : x ≤ 971) (hg0 : 0 ≤ g) (hg : g < 9007199254740992) (H1 : Hid (∀ w, Calls Try.prog 40 #[.bool s, .int .u64 g, .int .i64 x] w fun r w' => r = .returned (.tuple #[.float .f64 B, .bool true]) ∧ w' = w)) (H2 : Hid (∀ w, Calls Try.prog 13 #[.float .f64 B] w fun r w' => r = .returned (.agg #[.bool s, .int .i64 1, .int .i64 x, .int .u64 g]) ∧ Below w.heap.size w w')) (w : World) :
    Calls Try.prog 19 #[.agg #[.bool s, .int .i64 1, .int .i64 x, .int .u64 g]] w fun r w' => r = .returned (.tuple #[.float .f64 B, .int .i64 0]) ∧ Below w.heap.size w w' := by
  go_enter Try.func19, Try.ntmps19
  go_wp2_with (first
    | (go_at_call 38; refine (rnan_any _).mono ?_; rintro r w1 ⟨rfl, rfl⟩)
    | (go_at_call 39; refine (of_any _ _).mono ?_; rintro r w1 ⟨rfl, rfl⟩)
    | (go_at_call 40; refine (H1.out _).mono ?_; rintro r w1 ⟨rfl, rfl⟩)
    | (go_at_call 41; refine (endless_any _ _).mono ?_; rintro r w1 ⟨rfl, rfl⟩))
  refine (H2.out _).mono ?_
  rintro r w2 ⟨rfl, hb⟩
  have hz : w.heap.size < w2.heap.size := by (have := hb.size; simp at this; omega)
  obtain ⟨hc, hfz⟩ := bcell hb
  go_wp2_with (go_at_call 39; refine (of_any _ _).mono ?_; rintro r w1 ⟨rfl, rfl⟩)
  go_ret2
  exact ⟨rfl, (((Below.refl _ _).alloc (Nat.le_refl _) _).trans (hb.mono (by simp))).alloc (Nat.le_of_lt hz) _⟩

set_option maxHeartbeats 2000000 in
theorem rjoin_clsd1 (s : Bool) (x g : Int) (B : Nat) (hx0 : -1074 ≤ x) (hx1 : x ≤ 971) (hg0 : 0 ≤ g) (hg : g < 9007199254740992) (H1 : Hid (∀ w, Calls Try.prog 40 #[.bool s, .int .u64 g, .int .i64 x] w fun r w' => r = .returned (.tuple #[.float .f64 B, .bool true]) ∧ w' = w)) (k y h : Int) (H2 : Hid (∀ w, Calls Try.prog 13 #[.float .f64 B] w fun r w' => r = .returned (.agg #[.bool s, .int .i64 k, .int .i64 y, .int .u64 h]) ∧ Below w.heap.size w w')) (hk : (k == 1) = false) (w : World) :
    Calls Try.prog 19 #[.agg #[.bool s, .int .i64 1, .int .i64 x, .int .u64 g]] w fun r w' => r = .returned (.tuple #[.float .f64 0, .int .i64 10]) ∧ Below w.heap.size w w' := by
  go_enter Try.func19, Try.ntmps19
  go_wp2_with (first
    | (go_at_call 38; refine (rnan_any _).mono ?_; rintro r w1 ⟨rfl, rfl⟩)
    | (go_at_call 39; refine (of_any _ _).mono ?_; rintro r w1 ⟨rfl, rfl⟩)
    | (go_at_call 40; refine (H1.out _).mono ?_; rintro r w1 ⟨rfl, rfl⟩)
    | (go_at_call 41; refine (endless_any _ _).mono ?_; rintro r w1 ⟨rfl, rfl⟩))
  refine (H2.out _).mono ?_
  rintro r w2 ⟨rfl, hb⟩
  have hz : w.heap.size < w2.heap.size := by (have := hb.size; simp at this; omega)
  obtain ⟨hc, hfz⟩ := bcell hb
  go_wp2_with (go_at_call 39; refine (of_any _ _).mono ?_; rintro r w1 ⟨rfl, rfl⟩)
  go_ret2
  exact ⟨rfl, (((Below.refl _ _).alloc (Nat.le_refl _) _).trans (hb.mono (by simp))).alloc (Nat.le_of_lt hz) _⟩

set_option maxHeartbeats 2000000 in
theorem rjoin_expd1 (s : Bool) (x g : Int) (B : Nat) (hx0 : -1074 ≤ x) (hx1 : x ≤ 971) (hg0 : 0 ≤ g) (hg : g < 9007199254740992) (H1 : Hid (∀ w, Calls Try.prog 40 #[.bool s, .int .u64 g, .int .i64 x] w fun r w' => r = .returned (.tuple #[.float .f64 B, .bool true]) ∧ w' = w)) (y h : Int) (H2 : Hid (∀ w, Calls Try.prog 13 #[.float .f64 B] w fun r w' => r = .returned (.agg #[.bool s, .int .i64 1, .int .i64 y, .int .u64 h]) ∧ Below w.heap.size w w')) (hk : (y == x) = false) (w : World) :
    Calls Try.prog 19 #[.agg #[.bool s, .int .i64 1, .int .i64 x, .int .u64 g]] w fun r w' => r = .returned (.tuple #[.float .f64 0, .int .i64 10]) ∧ Below w.heap.size w w' := by
  go_enter Try.func19, Try.ntmps19
  go_wp2_with (first
    | (go_at_call 38; refine (rnan_any _).mono ?_; rintro r w1 ⟨rfl, rfl⟩)
    | (go_at_call 39; refine (of_any _ _).mono ?_; rintro r w1 ⟨rfl, rfl⟩)
    | (go_at_call 40; refine (H1.out _).mono ?_; rintro r w1 ⟨rfl, rfl⟩)
    | (go_at_call 41; refine (endless_any _ _).mono ?_; rintro r w1 ⟨rfl, rfl⟩))
  refine (H2.out _).mono ?_
  rintro r w2 ⟨rfl, hb⟩
  have hz : w.heap.size < w2.heap.size := by (have := hb.size; simp at this; omega)
  obtain ⟨hc, hfz⟩ := bcell hb
  go_wp2_with (go_at_call 39; refine (of_any _ _).mono ?_; rintro r w1 ⟨rfl, rfl⟩)
  go_ret2
  exact ⟨rfl, (((Below.refl _ _).alloc (Nat.le_refl _) _).trans (hb.mono (by simp))).alloc (Nat.le_of_lt hz) _⟩

set_option maxHeartbeats 2000000 in
theorem rjoin_frad1 (s : Bool) (x g : Int) (B : Nat) (hx0 : -1074 ≤ x) (hx1 : x ≤ 971) (hg0 : 0 ≤ g) (hg : g < 9007199254740992) (H1 : Hid (∀ w, Calls Try.prog 40 #[.bool s, .int .u64 g, .int .i64 x] w fun r w' => r = .returned (.tuple #[.float .f64 B, .bool true]) ∧ w' = w)) (h : Int) (H2 : Hid (∀ w, Calls Try.prog 13 #[.float .f64 B] w fun r w' => r = .returned (.agg #[.bool s, .int .i64 1, .int .i64 x, .int .u64 h]) ∧ Below w.heap.size w w')) (hk : (h == g) = false) (w : World) :
    Calls Try.prog 19 #[.agg #[.bool s, .int .i64 1, .int .i64 x, .int .u64 g]] w fun r w' => r = .returned (.tuple #[.float .f64 0, .int .i64 10]) ∧ Below w.heap.size w w' := by
  go_enter Try.func19, Try.ntmps19
  go_wp2_with (first
    | (go_at_call 38; refine (rnan_any _).mono ?_; rintro r w1 ⟨rfl, rfl⟩)
    | (go_at_call 39; refine (of_any _ _).mono ?_; rintro r w1 ⟨rfl, rfl⟩)
    | (go_at_call 40; refine (H1.out _).mono ?_; rintro r w1 ⟨rfl, rfl⟩)
    | (go_at_call 41; refine (endless_any _ _).mono ?_; rintro r w1 ⟨rfl, rfl⟩))
  refine (H2.out _).mono ?_
  rintro r w2 ⟨rfl, hb⟩
  have hz : w.heap.size < w2.heap.size := by (have := hb.size; simp at this; omega)
  obtain ⟨hc, hfz⟩ := bcell hb
  go_wp2_with (go_at_call 39; refine (of_any _ _).mono ?_; rintro r w1 ⟨rfl, rfl⟩)
  go_ret2
  exact ⟨rfl, (((Below.refl _ _).alloc (Nat.le_refl _) _).trans (hb.mono (by simp))).alloc (Nat.le_of_lt hz) _⟩

set_option maxHeartbeats 2000000 in
theorem rjoin_same2 (s : Bool) (x g : Int) (B : Nat) (hx0 : -1074 ≤ x) (hx1 : x ≤ 971) (hg0 : 0 ≤ g) (hg : g < 9007199254740992) (H1 : Hid (∀ w, Calls Try.prog 40 #[.bool s, .int .u64 g, .int .i64 x] w fun r w' => r = .returned (.tuple #[.float .f64 B, .bool true]) ∧ w' = w)) (H2 : Hid (∀ w, Calls Try.prog 13 #[.float .f64 B] w fun r w' => r = .returned (.agg #[.bool s, .int .i64 2, .int .i64 x, .int .u64 g]) ∧ Below w.heap.size w w')) (w : World) :
    Calls Try.prog 19 #[.agg #[.bool s, .int .i64 2, .int .i64 x, .int .u64 g]] w fun r w' => r = .returned (.tuple #[.float .f64 B, .int .i64 0]) ∧ Below w.heap.size w w' := by
  go_enter Try.func19, Try.ntmps19
  go_wp2_with (first
    | (go_at_call 38; refine (rnan_any _).mono ?_; rintro r w1 ⟨rfl, rfl⟩)
    | (go_at_call 39; refine (of_any _ _).mono ?_; rintro r w1 ⟨rfl, rfl⟩)
    | (go_at_call 40; refine (H1.out _).mono ?_; rintro r w1 ⟨rfl, rfl⟩)
    | (go_at_call 41; refine (endless_any _ _).mono ?_; rintro r w1 ⟨rfl, rfl⟩))
  refine (H2.out _).mono ?_
  rintro r w2 ⟨rfl, hb⟩
  have hz : w.heap.size < w2.heap.size := by (have := hb.size; simp at this; omega)
  obtain ⟨hc, hfz⟩ := bcell hb
  go_wp2_with (go_at_call 39; refine (of_any _ _).mono ?_; rintro r w1 ⟨rfl, rfl⟩)
  go_ret2
  exact ⟨rfl, (((Below.refl _ _).alloc (Nat.le_refl _) _).trans (hb.mono (by simp))).alloc (Nat.le_of_lt hz) _⟩

set_option maxHeartbeats 2000000 in
theorem rjoin_clsd2 (s : Bool) (x g : Int) (B : Nat) (hx0 : -1074 ≤ x) (hx1 : x ≤ 971) (hg0 : 0 ≤ g) (hg : g < 9007199254740992) (H1 : Hid (∀ w, Calls Try.prog 40 #[.bool s, .int .u64 g, .int .i64 x] w fun r w' => r = .returned (.tuple #[.float .f64 B, .bool true]) ∧ w' = w)) (k y h : Int) (H2 : Hid (∀ w, Calls Try.prog 13 #[.float .f64 B] w fun r w' => r = .returned (.agg #[.bool s, .int .i64 k, .int .i64 y, .int .u64 h]) ∧ Below w.heap.size w w')) (hk : (k == 2) = false) (w : World) :
    Calls Try.prog 19 #[.agg #[.bool s, .int .i64 2, .int .i64 x, .int .u64 g]] w fun r w' => r = .returned (.tuple #[.float .f64 0, .int .i64 10]) ∧ Below w.heap.size w w' := by
  go_enter Try.func19, Try.ntmps19
  go_wp2_with (first
    | (go_at_call 38; refine (rnan_any _).mono ?_; rintro r w1 ⟨rfl, rfl⟩)
    | (go_at_call 39; refine (of_any _ _).mono ?_; rintro r w1 ⟨rfl, rfl⟩)
    | (go_at_call 40; refine (H1.out _).mono ?_; rintro r w1 ⟨rfl, rfl⟩)
    | (go_at_call 41; refine (endless_any _ _).mono ?_; rintro r w1 ⟨rfl, rfl⟩))
  refine (H2.out _).mono ?_
  rintro r w2 ⟨rfl, hb⟩
  have hz : w.heap.size < w2.heap.size := by (have := hb.size; simp at this; omega)
  obtain ⟨hc, hfz⟩ := bcell hb
  go_wp2_with (go_at_call 39; refine (of_any _ _).mono ?_; rintro r w1 ⟨rfl, rfl⟩)
  go_ret2
  exact ⟨rfl, (((Below.refl _ _).alloc (Nat.le_refl _) _).trans (hb.mono (by simp))).alloc (Nat.le_of_lt hz) _⟩

set_option maxHeartbeats 2000000 in
theorem rjoin_expd2 (s : Bool) (x g : Int) (B : Nat) (hx0 : -1074 ≤ x) (hx1 : x ≤ 971) (hg0 : 0 ≤ g) (hg : g < 9007199254740992) (H1 : Hid (∀ w, Calls Try.prog 40 #[.bool s, .int .u64 g, .int .i64 x] w fun r w' => r = .returned (.tuple #[.float .f64 B, .bool true]) ∧ w' = w)) (y h : Int) (H2 : Hid (∀ w, Calls Try.prog 13 #[.float .f64 B] w fun r w' => r = .returned (.agg #[.bool s, .int .i64 2, .int .i64 y, .int .u64 h]) ∧ Below w.heap.size w w')) (hk : (y == x) = false) (w : World) :
    Calls Try.prog 19 #[.agg #[.bool s, .int .i64 2, .int .i64 x, .int .u64 g]] w fun r w' => r = .returned (.tuple #[.float .f64 0, .int .i64 10]) ∧ Below w.heap.size w w' := by
  go_enter Try.func19, Try.ntmps19
  go_wp2_with (first
    | (go_at_call 38; refine (rnan_any _).mono ?_; rintro r w1 ⟨rfl, rfl⟩)
    | (go_at_call 39; refine (of_any _ _).mono ?_; rintro r w1 ⟨rfl, rfl⟩)
    | (go_at_call 40; refine (H1.out _).mono ?_; rintro r w1 ⟨rfl, rfl⟩)
    | (go_at_call 41; refine (endless_any _ _).mono ?_; rintro r w1 ⟨rfl, rfl⟩))
  refine (H2.out _).mono ?_
  rintro r w2 ⟨rfl, hb⟩
  have hz : w.heap.size < w2.heap.size := by (have := hb.size; simp at this; omega)
  obtain ⟨hc, hfz⟩ := bcell hb
  go_wp2_with (go_at_call 39; refine (of_any _ _).mono ?_; rintro r w1 ⟨rfl, rfl⟩)
  go_ret2
  exact ⟨rfl, (((Below.refl _ _).alloc (Nat.le_refl _) _).trans (hb.mono (by simp))).alloc (Nat.le_of_lt hz) _⟩

set_option maxHeartbeats 2000000 in
theorem rjoin_frad2 (s : Bool) (x g : Int) (B : Nat) (hx0 : -1074 ≤ x) (hx1 : x ≤ 971) (hg0 : 0 ≤ g) (hg : g < 9007199254740992) (H1 : Hid (∀ w, Calls Try.prog 40 #[.bool s, .int .u64 g, .int .i64 x] w fun r w' => r = .returned (.tuple #[.float .f64 B, .bool true]) ∧ w' = w)) (h : Int) (H2 : Hid (∀ w, Calls Try.prog 13 #[.float .f64 B] w fun r w' => r = .returned (.agg #[.bool s, .int .i64 2, .int .i64 x, .int .u64 h]) ∧ Below w.heap.size w w')) (hk : (h == g) = false) (w : World) :
    Calls Try.prog 19 #[.agg #[.bool s, .int .i64 2, .int .i64 x, .int .u64 g]] w fun r w' => r = .returned (.tuple #[.float .f64 0, .int .i64 10]) ∧ Below w.heap.size w w' := by
  go_enter Try.func19, Try.ntmps19
  go_wp2_with (first
    | (go_at_call 38; refine (rnan_any _).mono ?_; rintro r w1 ⟨rfl, rfl⟩)
    | (go_at_call 39; refine (of_any _ _).mono ?_; rintro r w1 ⟨rfl, rfl⟩)
    | (go_at_call 40; refine (H1.out _).mono ?_; rintro r w1 ⟨rfl, rfl⟩)
    | (go_at_call 41; refine (endless_any _ _).mono ?_; rintro r w1 ⟨rfl, rfl⟩))
  refine (H2.out _).mono ?_
  rintro r w2 ⟨rfl, hb⟩
  have hz : w.heap.size < w2.heap.size := by (have := hb.size; simp at this; omega)
  obtain ⟨hc, hfz⟩ := bcell hb
  go_wp2_with (go_at_call 39; refine (of_any _ _).mono ?_; rintro r w1 ⟨rfl, rfl⟩)
  go_ret2
  exact ⟨rfl, (((Below.refl _ _).alloc (Nat.le_refl _) _).trans (hb.mono (by simp))).alloc (Nat.le_of_lt hz) _⟩
end Go.Proofs.Ytedknjiipmppgaa
