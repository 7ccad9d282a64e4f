/- A quotient's word, guessed by the highest words. -/
import Derived.Test.YtlhiccmdhnhdeaaDoorM4
namespace Go.Proofs.YtlhiccmdhnhdeaaDoor
set_option linter.unusedVariables false

/-- Where the guess stops: it times the two highest words is at most the three highest. (b: the base.) -/
theorem guess_end (b o t1 t2 l u2 T : Nat) (hT : o * t1 + l = T) (h : o * t2 ≤ l * b + u2) : o * (t1 * b + t2) ≤ T * b + u2 := by
  subst hT
  have e : o * (t1 * b + t2) = o * t1 * b + o * t2 := by grind
  have e2 : (o * t1 + l) * b = o * t1 * b + l * b := by grind
  omega

theorem guess_no (b o t1 t2 l u2 T : Nat) (hT : o * t1 + l = T) (h : l * b + u2 < o * t2) : T * b + u2 < o * (t1 * b + t2) := by
  subst hT
  have e : o * (t1 * b + t2) = o * t1 * b + o * t2 := by grind
  have e2 : (o * t1 + l) * b = o * t1 * b + l * b := by grind
  omega

theorem guess_first (b t1 t2 u2 T : Nat) (h1 : 0 < t1) (h2 : u2 < b) : T * b + u2 < (T / t1 + 1) * (t1 * b + t2) := by
  have h := Nat.lt_div_mul_add (a := T) (b := t1) h1
  have h3 : T + 1 ≤ (T / t1 + 1) * t1 := by rw [Nat.add_mul, Nat.one_mul]; omega
  have h4 : (T + 1) * b ≤ (T / t1 + 1) * t1 * b := Nat.mul_le_mul_right _ h3
  have e : (T / t1 + 1) * (t1 * b + t2) = (T / t1 + 1) * t1 * b + (T / t1 + 1) * t2 := by grind
  rw [Nat.add_mul, Nat.one_mul] at h4
  omega

theorem guess_break (b o t1 t2 l u2 T : Nat) (hT : o * t1 + l = T) (hl : b ≤ l) (hT2 : T < t1 * b + b) (ht : t2 < b) (h1 : 0 < t1) : o < b ∧ o * t2 ≤ l * b + u2 := by
  have ho : o < b := by
    by_cases h : o < b
    · exact h
    · exfalso
      have : b * t1 ≤ o * t1 := Nat.mul_le_mul_right _ (by omega)
      rw [Nat.mul_comm b] at this
      omega
  have h2 : o * t2 ≤ b * b := Nat.mul_le_mul (by omega) (by omega)
  have h3 : b * b ≤ l * b := Nat.mul_le_mul_right _ hl
  exact ⟨ho, by omega⟩

/-- The guess is the quotient, or one more. P counts what lies below the two highest words. -/
theorem guess_good (b o D W P u v U V : Nat) (hP : 0 < P) (hU : U = W * P + u) (hu : u < P) (hV : V = D * P + v) (hv : v < P) (h1 : o * D ≤ W) (h2 : b ≤ o + 1 ∨ W < (o + 1) * D) (hlt : U < V * b) (ho : o < b) (hD : b ≤ D) :
    U < (o + 1) * V ∧ o * V ≤ U + V := by
  constructor
  · rcases h2 with h2 | h2
    · obtain rfl : b = o + 1 := by omega
      rw [Nat.mul_comm]; exact hlt
    · have h3 : (W + 1) * P ≤ (o + 1) * D * P := Nat.mul_le_mul_right _ h2
      have h4 : (o + 1) * V = (o + 1) * D * P + (o + 1) * v := by rw [hV]; grind
      rw [Nat.add_mul] at h3
      omega
  · rcases o with _ | o
    · omega
    · have h3 : (o + 1) * D * P ≤ W * P := Nat.mul_le_mul_right _ h1
      have h4 : (o + 1) * V = (o + 1) * D * P + o * v + v := by rw [hV]; grind
      have h5 : o * v ≤ D * P := Nat.mul_le_mul (by omega) (by omega)
      omega

/-- The highest word of what is divided is no more than that of the divisor. -/
theorem guess_top (b P t1 t2 u0 u1 u2 u v U V : Nat) (hU : U = ((u0 * b + u1) * b + u2) * P + u) (hV : V = (t1 * b + t2) * P + v) (hv : v < P) (ht : t2 < b) (hlt : U < V * b) : u0 ≤ t1 := by
  by_cases h : u0 ≤ t1
  · exact h
  · exfalso
    have h1 : (t1 * b + t2 + 1) * P ≤ (t1 + 1) * b * P := Nat.mul_le_mul_right _ (by rw [Nat.add_mul, Nat.one_mul]; omega)
    have h2 : V < (t1 + 1) * b * P := by
      rw [Nat.add_mul, Nat.one_mul] at h1
      omega
    have h3 : V * b ≤ (t1 + 1) * b * P * b := Nat.mul_le_mul_right _ (by omega)
    have h4 : (t1 + 1) * (b * P * b) ≤ u0 * (b * P * b) := Nat.mul_le_mul_right _ (by omega)
    have h5 : (t1 + 1) * b * P * b = (t1 + 1) * (b * P * b) := by grind
    have h6 : U = u0 * (b * P * b) + (u1 * b + u2) * P + u := by rw [hU]; grind
    omega

/-- The highest words of a row of n words. -/
theorem top_two (L : List Nat) (off k : Nat) (hL : Wf L) (h : off + (k + 2) ≤ L.length) : sg L off (k + 2) = (L.getD (off + (k + 1)) 0 * 4294967296 + L.getD (off + k) 0) * pw k + sg L off k ∧ sg L off k < pw k := by
  refine ⟨?_, sg_lt L off k hL (by omega)⟩
  rw [show k + 2 = k + 1 + 1 by omega, sg_succ L off (k + 1) (by omega), sg_succ L off k (by omega), pw_succ]
  grind
theorem top_three (L : List Nat) (off k : Nat) (hL : Wf L) (h : off + (k + 3) ≤ L.length) : sg L off (k + 3) = ((L.getD (off + (k + 2)) 0 * 4294967296 + L.getD (off + (k + 1)) 0) * 4294967296 + L.getD (off + k) 0) * pw k + sg L off k ∧ sg L off k < pw k := by
  refine ⟨?_, sg_lt L off k hL (by omega)⟩
  rw [show k + 3 = k + 2 + 1 by omega, sg_succ L off (k + 2) (by omega), (top_two L off k hL (by omega)).1, show k + 2 = k + 1 + 1 by omega, pw_succ, pw_succ]
  grind
end Go.Proofs.YtlhiccmdhnhdeaaDoor
