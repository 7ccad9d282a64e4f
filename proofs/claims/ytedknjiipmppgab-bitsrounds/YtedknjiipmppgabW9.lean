/- What the document's Join answers: at parts that a number has, the number; at other parts, nought and ErrParts. -/
import Derived.Test.YtedknjiipmppgabW8
namespace Go.Proofs.Ytedknjiipmppgab
open Go.RowKit
attribute [local go_sem] f64bits f64frombits

set_option maxHeartbeats 1000000 in
theorem of_any (n : Int) (w : World) : Calls Try.prog 52 #[.int .u64 n] w fun r w' => r = .returned (.float .f64 n.toNat) ∧ w' = w := by
  go_enter Try.func52, Try.ntmps52
  go_wp2
  go_ret
  exact ⟨rfl, rfl⟩

set_option maxHeartbeats 1000000 in
theorem rnan_any (w : World) : Calls Try.prog 39 #[] w fun r w' => r = .returned (.float .f64 9221120237041090560) ∧ w' = w := by
  go_enter Try.func39, Try.ntmps39
  go_wp2_with (go_at_call 52; refine (of_any _ _).mono ?_; rintro r w1 ⟨rfl, rfl⟩)
  go_ret
  exact ⟨rfl, rfl⟩

set_option maxHeartbeats 1000000 in
theorem endless_any (s : Bool) (w : World) : Calls Try.prog 40 #[.bool s] w fun r w' => r = .returned (.float .f64 (bw s 2047 0)) ∧ w' = w := by
  cases s
  · go_enter Try.func40, Try.ntmps40
    go_wp2_with (go_at_call 52; refine (of_any _ _).mono ?_; rintro r w1 ⟨rfl, rfl⟩)
    go_ret
    exact ⟨rfl, rfl⟩
  · go_enter Try.func40, Try.ntmps40
    go_wp2_with (go_at_call 52; refine (of_any _ _).mono ?_; rintro r w1 ⟨rfl, rfl⟩)
    go_ret
    exact ⟨rfl, rfl⟩

theorem rSplit_nan (w : World) : Calls Try.prog 35 #[.float .f64 9221120237041090560] w fun r w' => r = .returned (.agg #[.bool false, .int .i64 4, .int .i64 0, .int .u64 0]) ∧ Below w.heap.size w w' :=
  rSplit_any false 2047 2251799813685248 (by omega) (by omega) w
theorem rSplit_end (s : Bool) (w : World) : Calls Try.prog 35 #[.float .f64 (bw s 2047 0)] w fun r w' => r = .returned (.agg #[.bool s, .int .i64 3, .int .i64 0, .int .u64 0]) ∧ Below w.heap.size w w' := by
  rw [← splitV_end s 2047 0 rfl (by simp)]; exact rSplit_any s 2047 0 (by omega) (by omega) w
theorem rSplit_fin (s : Bool) (e f : Nat) (he : e < 2047) (hf : f < 4503599627370496) (w : World) : Calls Try.prog 35 #[.float .f64 (bw s e f)] w fun r w' => r = .returned (.agg #[.bool s, .int .i64 (cls e f), .int .i64 (xp e), .int .u64 (fr e f)]) ∧ Below w.heap.size w w' := by
  have h : ng s e f = s := if_neg (by omega)
  have := rSplit_any s e f (by omega) hf w
  rw [h] at this; exact this

theorem val_small (f : Nat) (hf : f < 4503599627370496) : val Ieee.double (0 * 4503599627370496 + f) = f * 2 ^ ((-1074 : Int) + 1074).toNat := by
  unfold val; rw [dBin, Nat.zero_mul, Nat.zero_add, if_pos hf, show ((-1074 : Int) + 1074).toNat = 0 from rfl, Nat.pow_zero, Nat.mul_one]
theorem val_plain (e f : Nat) (h0 : 0 < e) (hf : f < 4503599627370496) : val Ieee.double (e * 4503599627370496 + f) = (f + 4503599627370496) * 2 ^ ((e : Int) - 1075 + 1074).toNat := by
  unfold val
  rw [dBin, if_neg (by omega)]
  have e2 : (e * 4503599627370496 + f) % 4503599627370496 = f := by omega
  have e3 : (e * 4503599627370496 + f) / 4503599627370496 - 1 = ((e : Int) - 1075 + 1074).toNat := by omega
  rw [e2, e3, Nat.add_comm]



























end Go.Proofs.Ytedknjiipmppgab
