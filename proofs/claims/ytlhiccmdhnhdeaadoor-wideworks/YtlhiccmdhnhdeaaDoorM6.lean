/- Shifts of words. -/
import Derived.Test.YtlhiccmdhnhdeaaDoorM3
import Derived.Test.YtlhiccmdhnhdeaaDoorM4
namespace Go.Proofs.YtlhiccmdhnhdeaaDoor
open Go.RowKit
set_option linter.unusedVariables false

theorem two_pow_rest (rest : Nat) (h : rest < 32) : 2 ^ rest * 2 ^ (32 - rest) = 4294967296 := by
  rw [← Nat.pow_add, show rest + (32 - rest) = 32 by omega]

theorem or_low (x y rest : Nat) (hr : rest < 32) (hx : x < 2 ^ rest) : x ||| (y * 2 ^ rest % 4294967296) = x + y * 2 ^ rest % 4294967296 := by
  have e : y * 2 ^ rest % 4294967296 = 2 ^ rest * (y % 2 ^ (32 - rest)) := by
    rw [← two_pow_rest rest hr, Nat.mul_comm y, Nat.mul_mod_mul_left]
  rw [e, Nat.or_comm, ← Nat.two_pow_add_eq_or_of_lt hx, Nat.add_comm]

theorem up_top (y rest : Nat) (hy : y < 4294967296) : y * 2 ^ rest / 4294967296 < 2 ^ rest := by
  rw [Nat.div_lt_iff_lt_mul (by decide), Nat.mul_comm]
  exact Nat.mul_lt_mul_of_pos_left hy (Nat.two_pow_pos _)

theorem two_pow_lt (rest : Nat) (h : rest < 32) : 2 ^ rest ≤ 2147483648 := by
  have : 2 ^ rest ≤ 2 ^ 31 := Nat.pow_le_pow_right (by decide) (by omega)
  omega

theorem up_lt (y rest : Nat) (hy : y < 4294967296) (hr : rest < 32) : y * 2 ^ rest < 18446744073709551616 := by
  have h := two_pow_lt rest hr
  have : y * 2 ^ rest ≤ 4294967295 * 2147483648 := Nat.mul_le_mul (by omega) h
  omega

theorem wrap_u64n (n : Int) (h0 : 0 ≤ n) (h1 : n < 18446744073709551616) : IntKind.u64.wrap n = n := by
  rw [IntKind.wrap_u64]; omega

theorem pw_two (words rest : Nat) : 2 ^ (32 * words + rest) = pw words * 2 ^ rest := by
  rw [Nat.pow_add, Nat.pow_mul]; rfl

theorem up_step (p S x t q b s d y r : Nat) (hS : S + p * x = b * r) (ht : t = y * r) (hs : s = x + t % 4294967296) (hd : d = t / 4294967296) : S + p * s + 4294967296 * p * d = (b + p * y) * r := by
  have e : t % 4294967296 + 4294967296 * d = t := by rw [hd]; exact Nat.mod_add_div _ _
  have e2 : p * s + 4294967296 * p * d = p * x + p * t := by
    have : p * (s + 4294967296 * d) = p * (x + t) := by rw [hs]; congr 1; omega
    grind
  have e3 : (b + p * y) * r = b * r + p * t := by rw [ht]; grind
  omega
end Go.Proofs.YtlhiccmdhnhdeaaDoor
