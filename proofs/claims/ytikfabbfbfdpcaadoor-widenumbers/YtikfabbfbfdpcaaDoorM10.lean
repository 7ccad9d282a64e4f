/- Decimal digits. -/
import Derived.Test.YtikfabbfbfdpcaaDoorM4
namespace Go.Proofs.YtikfabbfbfdpcaaDoor
set_option linter.unusedVariables false

/-- The number that digits tell, the lowest first. -/
def nlow : List Nat → Nat
  | [] => 0
  | d :: D => d + 10 * nlow D
/-- .. the highest first. -/
def num (D : List Nat) : Nat := nlow D.reverse
/-- Each is a digit. -/
def Dg (D : List Nat) : Prop := ∀ d ∈ D, d < 10

theorem nlow_append (D E : List Nat) : nlow (D ++ E) = nlow D + 10 ^ D.length * nlow E := by
  induction D with
  | nil => simp [nlow]
  | cons d D ih => simp only [List.cons_append, nlow, ih, List.length_cons, Nat.pow_succ]; grind
theorem num_cons (d : Nat) (D : List Nat) : num (d :: D) = num D + 10 ^ D.length * d := by
  unfold num; rw [List.reverse_cons, nlow_append, List.length_reverse]; simp [nlow]
theorem num_snoc (D : List Nat) (d : Nat) : num (D ++ [d]) = 10 * num D + d := by
  unfold num; rw [List.reverse_append]; simp [nlow]; omega
theorem num_nil : num [] = 0 := rfl
theorem num_zero (D : List Nat) : num (0 :: D) = num D := by rw [num_cons]; simp
theorem num_append (D E : List Nat) : num (D ++ E) = num D * 10 ^ E.length + num E := by
  unfold num; rw [List.reverse_append, nlow_append, List.length_reverse, Nat.mul_comm, Nat.add_comm]
theorem nlow_lt (D : List Nat) (h : Dg D) : nlow D < 10 ^ D.length := by
  induction D with
  | nil => simp [nlow]
  | cons d D ih =>
    have h1 := ih (fun x hx => h x (by simp [hx]))
    have h2 := h d (by simp)
    simp only [nlow, List.length_cons, Nat.pow_succ]
    omega
theorem Dg.reverse {D : List Nat} (h : Dg D) : Dg D.reverse := fun d hd => h d (by simpa using hd)
theorem num_lt (D : List Nat) (h : Dg D) : num D < 10 ^ D.length := by have := nlow_lt _ h.reverse; rwa [List.length_reverse] at this
theorem Dg.cons {d : Nat} {D : List Nat} (h : d < 10) (k : Dg D) : Dg (d :: D) := by
  intro x hx; rcases List.mem_cons.1 hx with rfl | hx
  · exact h
  · exact k x hx
theorem Dg.nil : Dg [] := fun d hd => by cases hd
theorem Dg.tail {d : Nat} {D : List Nat} (h : Dg (d :: D)) : Dg D := fun x hx => h x (by simp [hx])
theorem Dg.head {d : Nat} {D : List Nat} (h : Dg (d :: D)) : d < 10 := h d (by simp)

/-- A number's digits, the lowest first; none of nought. -/
def ld (n : Nat) : List Nat := if h : n = 0 then [] else n % 10 :: ld (n / 10)
termination_by n
decreasing_by omega
theorem ld_zero : ld 0 = [] := by rw [ld]; simp
theorem ld_pos (n : Nat) (h : n ≠ 0) : ld n = n % 10 :: ld (n / 10) := by rw [ld]; simp [h]
theorem nlow_ld (n : Nat) : nlow (ld n) = n := by
  induction n using Nat.strongRecOn with
  | _ n ih =>
    by_cases h : n = 0
    · subst h; rw [ld_zero]; rfl
    · rw [ld_pos n h, nlow, ih (n / 10) (by omega)]; omega
theorem ld_unique (D : List Nat) (h : Dg D) (hl : D = [] ∨ D.getLast? ≠ some 0) : D = ld (nlow D) := by
  induction D with
  | nil => rw [show nlow [] = 0 from rfl, ld_zero]
  | cons d D ih =>
    have hd := h.head
    rcases D with _ | ⟨e, D⟩
    · have h0 : d ≠ 0 := by
        rcases hl with h1 | h1
        · cases h1
        · simpa using h1
      rw [show nlow [d] = d from by simp [nlow], ld_pos d h0, show d / 10 = 0 by omega, ld_zero, Nat.mod_eq_of_lt hd]
    · have h2 := ih h.tail (.inr (by
        rcases hl with h1 | h1
        · cases h1
        · simpa [List.getLast?_cons_cons] using h1))
      have h3 : nlow (e :: D) ≠ 0 := by
        intro h4
        rw [h4, ld_zero] at h2
        cases h2
      rw [nlow, ld_pos _ (by omega), show (d + 10 * nlow (e :: D)) % 10 = d by omega, show (d + 10 * nlow (e :: D)) / 10 = nlow (e :: D) by omega, ← h2]
/-- A number's digits, the highest first. -/
def hd (n : Nat) : List Nat := if n = 0 then [0] else (ld n).reverse
theorem hd_unique (d : Nat) (D : List Nat) (h : Dg (d :: D)) (h0 : d ≠ 0) : d :: D = hd (num (d :: D)) := by
  have h1 := ld_unique (d :: D).reverse h.reverse (.inr (by simp [h0]))
  have h2 : nlow (d :: D).reverse = num (d :: D) := rfl
  rw [h2] at h1
  have h3 : num (d :: D) ≠ 0 := by
    intro h4
    rw [h4, ld_zero] at h1
    simp at h1
  unfold hd
  rw [if_neg h3, ← h1, List.reverse_reverse]
theorem num_hd (n : Nat) : num (hd n) = n := by
  unfold hd
  split
  · next h => subst h; rfl
  · unfold num; rw [List.reverse_reverse, nlow_ld]
theorem ld_dg (n : Nat) : Dg (ld n) := by
  induction n using Nat.strongRecOn with
  | _ n ih =>
    by_cases h : n = 0
    · subst h; rw [ld_zero]; exact Dg.nil
    · rw [ld_pos n h]; exact Dg.cons (by omega) (ih _ (by omega))
theorem hd_dg (n : Nat) : Dg (hd n) := by
  unfold hd
  split
  · exact Dg.cons (by omega) Dg.nil
  · exact (ld_dg n).reverse

/-- The text of a number. -/
def tx (n : Nat) : List UInt8 := (hd n).map (fun d => UInt8.ofNat (48 + d))
def txs (n : Nat) : ByteArray := ⟨(tx n).toArray⟩

theorem words_ten (k : Nat) : pw k ≤ 10 ^ (10 * k) := by
  rw [Nat.pow_mul]
  exact Nat.pow_le_pow_left (by decide) k
theorem digits_room (X j V K : Nat) (hX : X < pw K) (hV : 0 < V) (h : 10 ^ j * V ≤ X) : j < 10 * K := by
  have h1 := words_ten K
  have h2 : 10 ^ j * 1 ≤ 10 ^ j * V := Nat.mul_le_mul_left _ hV
  have h3 : 10 ^ j < 10 ^ (10 * K) := by omega
  exact (Nat.pow_lt_pow_iff_right (by decide)).1 h3

theorem piece_step (A p V i j : Nat) (hi : i < 9) (X : Nat) (h : A + 10 ^ (j + i) * (p + 10 ^ (9 - i) * V) = X) :
    A + 10 ^ (j + i) * (p % 10) + 10 ^ (j + (i + 1)) * (p / 10 + 10 ^ (9 - (i + 1)) * V) = X := by
  rw [← h, show 9 - i = 9 - (i + 1) + 1 by omega, Nat.pow_succ, ← Nat.add_assoc j i 1, Nat.pow_succ]
  have e : p = p % 10 + 10 * (p / 10) := by omega
  generalize 10 ^ (j + i) = q at *
  generalize 10 ^ (9 - (i + 1)) = s at *
  generalize p % 10 = a at *
  generalize p / 10 = b at *
  subst e
  grind
end Go.Proofs.YtikfabbfbfdpcaaDoor
