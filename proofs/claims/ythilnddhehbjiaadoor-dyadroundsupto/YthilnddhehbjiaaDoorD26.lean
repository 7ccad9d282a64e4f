/- The law's awake (layer 3): its numbers. -/
import Derived.Test.YthilnddhehbjiaaDoorD21x
import Derived.Deep.RegionWith
namespace Go.Proofs.YthilnddhehbjiaaDoor
open Go.RowKit
set_option linter.unusedVariables false
set_option maxRecDepth 20000
set_option linter.unusedSimpArgs false

theorem mkS_pow (n : Bool) (k X : Nat) (e : Int) : mkS n (2 ^ k * X) e = mkS n X (e + k) := by
  induction k generalizing e with
  | zero => simp
  | succ k ih =>
    rw [Nat.pow_succ, Nat.mul_comm (2 ^ k) 2, Nat.mul_assoc, mkS_double, ih]
    congr 1
    omega
theorem mkS_lit (n : Bool) (X : Nat) (e : Int) (b : Nat) (hb : bl X = b) (ho : X % 2 = 1) (h1 : b ≤ 262144) (h2 : e ≤ 1048576) (h3 : -1048576 ≤ e) : mkS n X e = some (n, X, e) := by
  rw [mkS_odd n X e ho, if_neg (by omega)]

theorem aw_three : ofR false 1022 2251799813685248 = some (false, 3, -2) := by
  have e : ofR false 1022 2251799813685248 = mkS false (2 ^ 51 * 3) (-53) := rfl
  rw [e, mkS_pow]
  exact mkS_lit false 3 (-2) 2 (bl_eq 3 1 (by decide) (by decide)) rfl (by omega) (by omega) (by omega)
theorem aw_four : mkS (decide ((4 : Int) < 0)) (4 : Int).natAbs 0 = some (false, 1, 2) := by
  have e : mkS (decide ((4 : Int) < 0)) (4 : Int).natAbs 0 = mkS false (2 ^ 2 * 1) 0 := rfl
  rw [e, mkS_pow]
  exact mkS_lit false 1 2 1 (bl_eq 1 0 (by decide) (by decide)) rfl (by omega) (by omega) (by omega)
theorem mkS_three : mkS false 3 (-2) = some (false, 3, -2) := mkS_lit false 3 (-2) 2 (bl_eq 3 1 (by decide) (by decide)) rfl (by omega) (by omega) (by omega)
theorem mkS_one2 : mkS false 1 2 = some (false, 1, 2) := mkS_lit false 1 2 1 (bl_eq 1 0 (by decide) (by decide)) rfl (by omega) (by omega) (by omega)
theorem aw_sum : addD (some (false, 3, -2)) (some (false, 1, 2)) = some (false, 19, -2) := by
  have b1 : bl 1 = 1 := bl_eq 1 0 (by decide) (by decide)
  have e : addD (some (false, 3, -2)) (some (false, 1, 2)) = addUp false 1 2 false 3 (-2) := rfl
  rw [e]
  unfold addUp
  rw [b1, if_neg (by decide), if_pos rfl]
  exact mkS_lit false 19 (-2) 5 (bl_eq 19 4 (by decide) (by decide)) rfl (by omega) (by omega) (by omega)
theorem aw_big : mkS false (val [1, 2097152]) 0 = some (false, 9007199254740993, 0) := by
  have e : mkS false (val [1, 2097152]) 0 = mkS false 9007199254740993 0 := rfl
  rw [e]
  exact mkS_lit false _ 0 54 (bl_eq 9007199254740993 53 (by decide) (by decide)) rfl (by omega) (by omega) (by omega)
theorem aw_tiny : mkS true (val [1]) (-1075) = some (true, 1, -1075) := by
  have e : mkS true (val [1]) (-1075) = mkS true 1 (-1075) := rfl
  rw [e]
  exact mkS_lit true _ _ 1 (bl_eq 1 0 (by decide) (by decide)) rfl (by omega) (by omega) (by omega)
theorem plc_big : plc 53 (-1074) 1024 9007199254740993 0 = (4503599627370496, 1, false, 0) := by
  unfold plc
  rw [bl_eq 9007199254740993 53 (by decide) (by decide)]
  decide
theorem plc_tiny : plc 53 (-1074) 1024 1 (-1075) = (0, -1074, false, 0) := by
  unfold plc
  rw [bl_eq 1 0 (by decide) (by decide)]
  decide
theorem aw_up : rndS (mkS false (val [1, 2097152]) 0) 2 = (4845873199050653697, 0) := by
  rw [aw_big]; unfold rndS; rw [if_neg (by decide)]; simp only; rw [if_neg (by decide)]; unfold rndK; rw [plc_big]; decide
theorem aw_even : rndS (mkS false (val [1, 2097152]) 0) 0 = (4845873199050653696, 0) := by
  rw [aw_big]; unfold rndS; rw [if_neg (by decide)]; simp only; rw [if_neg (by decide)]; unfold rndK; rw [plc_big]; decide
theorem aw_neg : rndS (mkS true (val [1]) (-1075)) 0 = (9223372036854775808, 0) := by
  rw [aw_tiny]; unfold rndS; rw [if_neg (by decide)]; simp only; rw [if_neg (by decide)]; unfold rndK; rw [plc_tiny]; decide
theorem aw_eq1 : (FloatKind.f64.format.order 4845873199050653697 4845873199050653697 == some .eq) = true := B.eq_f64 false false 1076 1 1076 1 (by omega) (by omega) (by omega) (by omega) ▸ by decide
theorem aw_eq2 : (FloatKind.f64.format.order 4845873199050653696 4845873199050653696 == some .eq) = true := B.eq_f64 false false 1076 0 1076 0 (by omega) (by omega) (by omega) (by omega) ▸ by decide
end Go.Proofs.YthilnddhehbjiaaDoor
