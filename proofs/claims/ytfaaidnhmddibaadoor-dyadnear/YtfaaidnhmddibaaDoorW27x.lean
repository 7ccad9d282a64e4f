import Derived.Test.YtfaaidnhmddibaaDoorW17x
import Derived.Test.YtfaaidnhmddibaaDoorM3x
/- grow: a Nat times a word and more, in its own memory as far as it goes. -/
namespace Go.Proofs.YtfaaidnhmddibaaDoor
open Go.RowKit
set_option linter.unusedVariables false
set_option maxRecDepth 20000

/-- The first k cells of a row of one's own are these words. -/
def Pre (lo : Nat) (w : World) (g k cap : Nat) (M : List Nat) : Prop := w.ownsRow lo 52 1 (.slice (some ⟨g, 0, none⟩) k cap) k (M.map U)

theorem Pre.len {lo : Nat} {w : World} {g k cap : Nat} {M : List Nat} (h : Pre lo w g k cap M) : M.length = k := by have := h.1; simpa using this
theorem Pre.cell {lo : Nat} {w : World} {g k cap : Nat} {M : List Nat} (h : Pre lo w g k cap M) (i : Nat) (hi : i < k) : w.cell? ⟨g, i, none⟩ = some (.int .u32 ((M.getD i 0 : Nat) : Int)) := by
  rw [World.ownsRow.cellAt h i (by omega)]
  have := h.len
  simp [U, show i < M.length by omega]
theorem Pre.frozen {lo : Nat} {w : World} {g k cap : Nat} {M : List Nat} (h : Pre lo w g k cap M) (i : Nat) : w.frozen? ⟨g, i, none⟩ = false := World.ownsRow.frozenAt h i
theorem Pre.set {lo : Nat} {w : World} {g k cap : Nat} {M : List Nat} (h : Pre lo w g k cap M) (i x : Nat) : Pre lo (w.setCell ⟨g, i, none⟩ (.int .u32 (x : Int))) g k cap (M.set i x) := by
  have := (World.ownsRow.stored h i (.int .u32 (x : Int))).1
  unfold Pre
  rw [List.map_set]
  exact this
theorem Pre.lo {lo : Nat} {w : World} {g k cap : Nat} {M : List Nat} (h : Pre lo w g k cap M) : lo ≤ g ∧ g < w.heap.size := World.ownsRow.lt h g (by simp [Value.ownBlock])

theorem grow_form (M : List Nat) (k c Z : Nat) (hM : Wf M) (hl : M.length = k) (hc : c < 4294967296) (hsum : val M + c * pw k = Z) (hge : k = 0 ∨ pw (k - 1) ≤ Z) :
    (c = 0 → M = ws Z) ∧ (c ≠ 0 → M ++ [c] = ws Z) := by
  have hlt := val_lt M hM
  rw [hl] at hlt
  constructor
  · intro h0
    subst h0
    rw [Nat.zero_mul, Nat.add_zero] at hsum
    have h1 : nl M = M.length := by
      rw [nl_eq_length M hM, hsum]
      rcases hge with h | h
      · subst h
        have : Z = 0 := by rw [← hsum]; rw [pw_zero] at hlt; omega
        rw [this, ws_zero, hl]; rfl
      · rcases k with _ | k
        · have : Z = 0 := by rw [← hsum]; rw [pw_zero] at hlt; omega
          rw [this, ws_zero, hl]; rfl
        · rw [hl]
          rw [Nat.add_sub_cancel] at h
          exact ws_len_eq Z k h (by omega)
    rw [← hsum]
    exact ws_of_form M hM h1
  · intro h0
    have hW : Wf (M ++ [c]) := hM.append (Wf.cons hc Wf.nil)
    have hv : val (M ++ [c]) = Z := by rw [val_append, hl, ← hsum]; simp [val, Nat.mul_comm]
    have h1 : nl (M ++ [c]) = (M ++ [c]).length := by
      rw [nl_eq_length _ hW, hv, List.length_append, hl]
      have h2 : pw k * 1 ≤ c * pw k := by rw [Nat.mul_comm c]; exact Nat.mul_le_mul_left _ (by omega)
      refine ws_len_eq Z k (by omega) ?_
      have h3 := val_lt _ hW
      rw [hv, List.length_append, hl] at h3
      exact h3
    rw [← hv]
    exact ws_of_form _ hW h1

end Go.Proofs.YtfaaidnhmddibaaDoor

/- Decimal digits. -/
namespace Go.Proofs.YtfaaidnhmddibaaDoor
set_option linter.unusedVariables false
set_option maxRecDepth 20000

/-- The number that digits tell, the lowest first. -/
def nlow : List Nat → Nat
  | [] => 0
  | d :: D => d + 10 * nlow D
/-- .. the highest first. -/
def num (D : List Nat) : Nat := nlow D.reverse
/-- Each is a digit. -/
def Dg (D : List Nat) : Prop := ∀ d ∈ D, d < 10

theorem nlow_append (D E : List Nat) : nlow (D ++ E) = nlow D + 10 ^ D.length * nlow E := by
  induction D with
  | nil => simp [nlow]
  | cons d D ih => simp only [List.cons_append, nlow, ih, List.length_cons, Nat.pow_succ]; grind
theorem num_cons (d : Nat) (D : List Nat) : num (d :: D) = num D + 10 ^ D.length * d := by
  unfold num; rw [List.reverse_cons, nlow_append, List.length_reverse]; simp [nlow]
theorem num_snoc (D : List Nat) (d : Nat) : num (D ++ [d]) = 10 * num D + d := by
  unfold num; rw [List.reverse_append]; simp [nlow]; omega
theorem num_nil : num [] = 0 := rfl
theorem num_zero (D : List Nat) : num (0 :: D) = num D := by rw [num_cons]; simp
theorem num_append (D E : List Nat) : num (D ++ E) = num D * 10 ^ E.length + num E := by
  unfold num; rw [List.reverse_append, nlow_append, List.length_reverse, Nat.mul_comm, Nat.add_comm]
theorem nlow_lt (D : List Nat) (h : Dg D) : nlow D < 10 ^ D.length := by
  induction D with
  | nil => simp [nlow]
  | cons d D ih =>
    have h1 := ih (fun x hx => h x (by simp [hx]))
    have h2 := h d (by simp)
    simp only [nlow, List.length_cons, Nat.pow_succ]
    omega
theorem Dg.reverse {D : List Nat} (h : Dg D) : Dg D.reverse := fun d hd => h d (by simpa using hd)
theorem num_lt (D : List Nat) (h : Dg D) : num D < 10 ^ D.length := by have := nlow_lt _ h.reverse; rwa [List.length_reverse] at this
theorem Dg.cons {d : Nat} {D : List Nat} (h : d < 10) (k : Dg D) : Dg (d :: D) := by
  intro x hx; rcases List.mem_cons.1 hx with rfl | hx
  · exact h
  · exact k x hx
theorem Dg.nil : Dg [] := fun d hd => by cases hd
theorem Dg.tail {d : Nat} {D : List Nat} (h : Dg (d :: D)) : Dg D := fun x hx => h x (by simp [hx])
theorem Dg.head {d : Nat} {D : List Nat} (h : Dg (d :: D)) : d < 10 := h d (by simp)

/-- A number's digits, the lowest first; none of nought. -/
def ld (n : Nat) : List Nat := if h : n = 0 then [] else n % 10 :: ld (n / 10)
termination_by n
decreasing_by omega
theorem ld_zero : ld 0 = [] := by rw [ld]; simp
theorem ld_pos (n : Nat) (h : n ≠ 0) : ld n = n % 10 :: ld (n / 10) := by rw [ld]; simp [h]
theorem nlow_ld (n : Nat) : nlow (ld n) = n := by
  induction n using Nat.strongRecOn with
  | _ n ih =>
    by_cases h : n = 0
    · subst h; rw [ld_zero]; rfl
    · rw [ld_pos n h, nlow, ih (n / 10) (by omega)]; omega
theorem ld_unique (D : List Nat) (h : Dg D) (hl : D = [] ∨ D.getLast? ≠ some 0) : D = ld (nlow D) := by
  induction D with
  | nil => rw [show nlow [] = 0 from rfl, ld_zero]
  | cons d D ih =>
    have hd := h.head
    rcases D with _ | ⟨e, D⟩
    · have h0 : d ≠ 0 := by
        rcases hl with h1 | h1
        · cases h1
        · simpa using h1
      rw [show nlow [d] = d from by simp [nlow], ld_pos d h0, show d / 10 = 0 by omega, ld_zero, Nat.mod_eq_of_lt hd]
    · have h2 := ih h.tail (.inr (by
        rcases hl with h1 | h1
        · cases h1
        · simpa [List.getLast?_cons_cons] using h1))
      have h3 : nlow (e :: D) ≠ 0 := by
        intro h4
        rw [h4, ld_zero] at h2
        cases h2
      rw [nlow, ld_pos _ (by omega), show (d + 10 * nlow (e :: D)) % 10 = d by omega, show (d + 10 * nlow (e :: D)) / 10 = nlow (e :: D) by omega, ← h2]
/-- A number's digits, the highest first. -/
def hd (n : Nat) : List Nat := if n = 0 then [0] else (ld n).reverse
theorem hd_unique (d : Nat) (D : List Nat) (h : Dg (d :: D)) (h0 : d ≠ 0) : d :: D = hd (num (d :: D)) := by
  have h1 := ld_unique (d :: D).reverse h.reverse (.inr (by simp [h0]))
  have h2 : nlow (d :: D).reverse = num (d :: D) := rfl
  rw [h2] at h1
  have h3 : num (d :: D) ≠ 0 := by
    intro h4
    rw [h4, ld_zero] at h1
    simp at h1
  unfold hd
  rw [if_neg h3, ← h1, List.reverse_reverse]
theorem num_hd (n : Nat) : num (hd n) = n := by
  unfold hd
  split
  · next h => subst h; rfl
  · unfold num; rw [List.reverse_reverse, nlow_ld]
theorem ld_dg (n : Nat) : Dg (ld n) := by
  induction n using Nat.strongRecOn with
  | _ n ih =>
    by_cases h : n = 0
    · subst h; rw [ld_zero]; exact Dg.nil
    · rw [ld_pos n h]; exact Dg.cons (by omega) (ih _ (by omega))
theorem hd_dg (n : Nat) : Dg (hd n) := by
  unfold hd
  split
  · exact Dg.cons (by omega) Dg.nil
  · exact (ld_dg n).reverse

/-- The text of a number. -/
def tx (n : Nat) : List UInt8 := (hd n).map (fun d => UInt8.ofNat (48 + d))
def txs (n : Nat) : ByteArray := ⟨(tx n).toArray⟩

theorem words_ten (k : Nat) : pw k ≤ 10 ^ (10 * k) := by
  rw [Nat.pow_mul]
  exact Nat.pow_le_pow_left (by decide) k
theorem digits_room (X j V K : Nat) (hX : X < pw K) (hV : 0 < V) (h : 10 ^ j * V ≤ X) : j < 10 * K := by
  have h1 := words_ten K
  have h2 : 10 ^ j * 1 ≤ 10 ^ j * V := Nat.mul_le_mul_left _ hV
  have h3 : 10 ^ j < 10 ^ (10 * K) := by omega
  exact (Nat.pow_lt_pow_iff_right (by decide)).1 h3

theorem piece_step (A p V i j : Nat) (hi : i < 9) (X : Nat) (h : A + 10 ^ (j + i) * (p + 10 ^ (9 - i) * V) = X) :
    A + 10 ^ (j + i) * (p % 10) + 10 ^ (j + (i + 1)) * (p / 10 + 10 ^ (9 - (i + 1)) * V) = X := by
  rw [← h, show 9 - i = 9 - (i + 1) + 1 by omega, Nat.pow_succ, ← Nat.add_assoc j i 1, Nat.pow_succ]
  have e : p = p % 10 + 10 * (p / 10) := by omega
  generalize 10 ^ (j + i) = q at *
  generalize 10 ^ (9 - (i + 1)) = s at *
  generalize p % 10 = a at *
  generalize p / 10 = b at *
  subst e
  grind
end Go.Proofs.YtfaaidnhmddibaaDoor

