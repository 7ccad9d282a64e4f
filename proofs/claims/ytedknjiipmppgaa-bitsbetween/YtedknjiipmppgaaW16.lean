/- Plain facts for BitsBetween: where the next number stands, that there and back is where one was, how far apart neighbours lie. -/
import Derived.Test.YtedknjiipmppgaaW15
namespace Go.Proofs.Ytedknjiipmppgaa
open Go.RowKit

/-- where the next number stands. -/
theorem nx_pl (s : Bool) (e f : Nat) (he : e < 2048) (hf : f < 4503599627370496) (ho : odd e f = false) :
    ∃ t u v, u < 2048 ∧ v < 4503599627370496 ∧ odd u v = false ∧ nx s e f = bw t u v ∧
      (¬ (s = false ∧ e = 2047) → pl t u v = pl s e f + 1) ∧ (s = false ∧ e = 2047 → pl t u v = pl s e f) ∧
      (¬ (s = false ∧ e = 2047) → ¬ (s = true ∧ e = 0 ∧ f = 0) → nx (!t) u v = bw (!s) e f) := by
  have h0 := not_odd e f ho
  by_cases hz : e = 0 ∧ f = 0
  · obtain ⟨rfl, rfl⟩ := hz
    refine ⟨false, 0, 1, by omega, by omega, odd_lt 0 1 (by omega), nx_zero s, fun _ => ?_, fun h => by omega, fun _ h => ?_⟩
    · cases s <;> rfl
    · cases s
      · rw [Bool.not_false, nx_neg 0 1 (odd_lt 0 1 (by omega)) (by omega)]; exact bw_dec true 0 1 (by omega)
      · exact absurd ⟨rfl, rfl, rfl⟩ h
  · cases s
    · by_cases h1 : e = 2047
      · exact ⟨false, e, f, he, hf, ho, nx_top e f ho h1, fun h => absurd ⟨rfl, h1⟩ h, fun _ => rfl, fun h => absurd ⟨rfl, h1⟩ h⟩
      · rw [nx_pos e f (by omega) hz]
        by_cases h2 : f = 4503599627370495
        · subst h2
          refine ⟨false, e + 1, 0, by omega, by omega, odd_zero _, bw_inc0 false e, fun _ => ?_, fun h => by omega, fun _ _ => ?_⟩
          · unfold pl sg; simp only [Bool.false_eq_true, if_false]; omega
          · rw [Bool.not_false, nx_neg (e + 1) 0 (odd_zero _) (by omega), bw_dec0 (e + 1) (by omega), Nat.add_sub_cancel]
        · refine ⟨false, e, f + 1, he, by omega, odd_lt e _ (by omega), bw_inc false e f, fun _ => ?_, fun h => by omega, fun _ _ => ?_⟩
          · unfold pl sg; simp only [Bool.false_eq_true, if_false]; omega
          · rw [Bool.not_false, nx_neg e (f + 1) (odd_lt e _ (by omega)) (by omega), bw_dec true e (f + 1) (by omega), Nat.add_sub_cancel]
    · rw [nx_neg e f ho hz]
      by_cases h2 : f = 0
      · subst h2
        refine ⟨true, e - 1, 4503599627370495, by omega, by omega, odd_lt _ _ (by omega), bw_dec0 e (by omega), fun _ => ?_, fun h => by simp at h, fun _ _ => ?_⟩
        · unfold pl sg; simp only [if_true]; omega
        · rw [Bool.not_true, nx_pos (e - 1) 4503599627370495 (by omega) (by omega), bw_inc0 false (e - 1), Nat.sub_add_cancel (by omega)]
      · refine ⟨true, e, f - 1, he, by omega, odd_lt e _ (by omega), bw_dec true e f (by omega), fun _ => ?_, fun h => by simp at h, fun _ _ => ?_⟩
        · unfold pl sg; simp only [if_true]; omega
        · rw [Bool.not_true]
          by_cases h3 : e = 0 ∧ f - 1 = 0
          · obtain ⟨rfl, h4⟩ := h3
            have h5 : f = 1 := by omega
            subst h5
            rw [nx_zero]; rfl
          · rw [nx_pos e (f - 1) (by omega) h3, bw_inc, Nat.sub_add_cancel (by omega)]

theorem pl_not (t : Bool) (u v : Nat) : pl (!t) u v = - pl t u v := by
  unfold pl sg; cases t <;> simp

/-- two neighbours' difference. -/
theorem step_sub (r u v : Nat) (hr : r + 1 < 9218868437227405312) (hu : u < 2047) (hv : v < 4503599627370496) (hval : val Ieee.double (u * 4503599627370496 + v) = 1 * 2 ^ (r / 4503599627370496 - 1)) :
    Ieee.double.sub (Ieee.double.word false (r + 1)) (Ieee.double.word false r) = some (bw false u v) := by
  rw [bw_word]
  have hs : val Ieee.double (r + 1) = val Ieee.double r + 2 ^ (r / 4503599627370496 - 1) := by rw [val_succ, dBin]
  have hp : 0 < 2 ^ (r / 4503599627370496 - 1) := Nat.two_pow_pos _
  rw [Nat.one_mul] at hval
  have hnz : u * 4503599627370496 + v ≠ 0 := by
    intro h; rw [h, val_zero] at hval; omega
  have hsum : sg false (val Ieee.double (r + 1)) + sg (!false) (val Ieee.double r) = ((2 ^ (r / 4503599627370496 - 1) : Nat) : Int) := by
    unfold sg; simp only [Bool.not_false, if_true, Bool.false_eq_true, if_false]
    rw [hs]; omega
  have hsub := sub_exact Ieee.double dHs false false (r + 1) r (u * 4503599627370496 + v) (by rw [dInf]; omega) (by rw [dInf]; omega) (by rw [dInf]; omega) (by rw [hsum, hval, Int.natAbs_natCast])
  rw [hsub, if_neg hnz, hsum, decide_eq_false (by omega)]

theorem bne_of_beq {a b : Option Ordering} {c : Bool} (h : (a == b) = c) : (a != b) = !c := by
  rw [← h]; rfl
end Go.Proofs.Ytedknjiipmppgaa
