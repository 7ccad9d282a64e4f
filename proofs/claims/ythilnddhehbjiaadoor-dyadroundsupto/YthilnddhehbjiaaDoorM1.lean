/- Words and numbers: lists of words, their value, their form. Plain mathematics, no program. -/
namespace Go.Proofs.YthilnddhehbjiaaDoor

/-- 4294967296 to the power of k. -/
def pw (k : Nat) : Nat := 4294967296 ^ k
theorem pw_zero : pw 0 = 1 := by simp [pw]
theorem pw_succ (k : Nat) : pw (k + 1) = 4294967296 * pw k := by simp [pw, Nat.pow_succ, Nat.mul_comm]
theorem pw_add (i k : Nat) : pw (i + k) = pw i * pw k := by simp [pw, Nat.pow_add]
theorem pw_pos (k : Nat) : 0 < pw k := Nat.pow_pos (by decide)
theorem pw_mono {i k : Nat} (h : i ≤ k) : pw i ≤ pw k := Nat.pow_le_pow_right (by decide) h
theorem pw_lt {i k : Nat} (h : i < k) : pw i < pw k := Nat.pow_lt_pow_right (by decide) h

/-- The number that words tell. -/
def val : List Nat → Nat
  | [] => 0
  | x :: xs => x + 4294967296 * val xs

/-- Each is a word. -/
def Wf (xs : List Nat) : Prop := ∀ x ∈ xs, x < 4294967296

theorem Wf.nil : Wf [] := by intro x hx; cases hx
theorem Wf.cons {x : Nat} {xs : List Nat} (hx : x < 4294967296) (h : Wf xs) : Wf (x :: xs) := by
  intro y hy; cases hy with
  | head => exact hx
  | tail _ hy => exact h y hy
theorem Wf.head {x : Nat} {xs : List Nat} (h : Wf (x :: xs)) : x < 4294967296 := h x (by simp)
theorem Wf.tail {x : Nat} {xs : List Nat} (h : Wf (x :: xs)) : Wf xs := fun y hy => h y (by simp [hy])
theorem Wf.get {xs : List Nat} (h : Wf xs) (k : Nat) : xs.getD k 0 < 4294967296 := by
  by_cases hk : k < xs.length
  · rw [List.getD_eq_getElem?_getD, List.getElem?_eq_getElem hk]; exact h _ (List.getElem_mem hk)
  · rw [List.getD_eq_getElem?_getD, List.getElem?_eq_none (by omega)]; decide
theorem Wf.take {xs : List Nat} (h : Wf xs) (k : Nat) : Wf (xs.take k) := fun y hy => h y (List.mem_of_mem_take hy)
theorem Wf.drop {xs : List Nat} (h : Wf xs) (k : Nat) : Wf (xs.drop k) := fun y hy => h y (List.mem_of_mem_drop hy)
theorem Wf.append {xs ys : List Nat} (h : Wf xs) (k : Wf ys) : Wf (xs ++ ys) := by
  intro y hy; rcases List.mem_append.1 hy with hy | hy
  · exact h y hy
  · exact k y hy
theorem Wf.set {xs : List Nat} (h : Wf xs) (k x : Nat) (hx : x < 4294967296) : Wf (xs.set k x) := by
  intro y hy; rcases List.mem_or_eq_of_mem_set hy with hy | hy
  · exact h y hy
  · omega
theorem Wf.zeros (n : Nat) : Wf (List.replicate n 0) := by intro y hy; have := List.eq_of_mem_replicate hy; omega

theorem val_append (xs ys : List Nat) : val (xs ++ ys) = val xs + pw xs.length * val ys := by
  induction xs with
  | nil => simp [val, pw_zero]
  | cons x xs ih => simp only [List.cons_append, val, ih, List.length_cons, pw_succ]; grind

theorem val_zeros (n : Nat) : val (List.replicate n 0) = 0 := by
  induction n with
  | zero => rfl
  | succ n ih => simp [List.replicate_succ, val, ih]

theorem val_take_succ (xs : List Nat) (k : Nat) (hk : k < xs.length) : val (xs.take (k + 1)) = val (xs.take k) + pw k * xs.getD k 0 := by
  rw [List.take_succ_eq_append_getElem hk, val_append, List.length_take, Nat.min_eq_left (by omega), List.getD_eq_getElem?_getD, List.getElem?_eq_getElem hk]
  simp [val]

theorem val_take_drop (xs : List Nat) (k : Nat) (hk : k ≤ xs.length) : val xs = val (xs.take k) + pw k * val (xs.drop k) := by
  have h := val_append (xs.take k) (xs.drop k)
  rw [List.take_append_drop, List.length_take, Nat.min_eq_left hk] at h
  exact h

theorem val_drop_succ (xs : List Nat) (k : Nat) (hk : k < xs.length) : val (xs.drop k) = xs.getD k 0 + 4294967296 * val (xs.drop (k + 1)) := by
  rw [List.drop_eq_getElem_cons hk, val, List.getD_eq_getElem?_getD, List.getElem?_eq_getElem hk]
  rfl

theorem val_lt (xs : List Nat) (h : Wf xs) : val xs < pw xs.length := by
  induction xs with
  | nil => simp [val, pw_zero]
  | cons x xs ih =>
    have h1 := ih h.tail
    have h2 := h.head
    simp only [val, List.length_cons, pw_succ]
    omega

theorem val_eq_zero (xs : List Nat) : val xs = 0 ↔ ∀ x ∈ xs, x = 0 := by
  induction xs with
  | nil => simp [val]
  | cons x xs ih =>
    simp only [val, List.mem_cons, forall_eq_or_imp]
    constructor
    · intro h; exact ⟨by omega, ih.1 (by omega)⟩
    · intro h; have := ih.2 h.2; omega

/-- The words of a number, in their form. -/
def ws (n : Nat) : List Nat := if h : n = 0 then [] else n % 4294967296 :: ws (n / 4294967296)
termination_by n
decreasing_by omega

theorem ws_zero : ws 0 = [] := by rw [ws]; simp
theorem ws_pos (n : Nat) (h : n ≠ 0) : ws n = n % 4294967296 :: ws (n / 4294967296) := by rw [ws]; simp [h]
theorem val_ws (n : Nat) : val (ws n) = n := by
  induction n using Nat.strongRecOn with
  | _ n ih =>
    by_cases h : n = 0
    · subst h; simp [ws_zero, val]
    · rw [ws_pos n h, val, ih (n / 4294967296) (by omega)]; omega
theorem wf_ws (n : Nat) : Wf (ws n) := by
  induction n using Nat.strongRecOn with
  | _ n ih =>
    by_cases h : n = 0
    · subst h; rw [ws_zero]; exact Wf.nil
    · rw [ws_pos n h]; exact Wf.cons (by omega) (ih _ (by omega))

/-- How many words the form of words has. -/
def nl : List Nat → Nat
  | [] => 0
  | x :: xs => if nl xs = 0 ∧ x = 0 then 0 else nl xs + 1

theorem nl_le (xs : List Nat) : nl xs ≤ xs.length := by
  induction xs with
  | nil => simp [nl]
  | cons x xs ih => simp only [nl, List.length_cons]; split <;> omega

theorem nl_zero_iff (xs : List Nat) : nl xs = 0 ↔ val xs = 0 := by
  induction xs with
  | nil => simp [nl, val]
  | cons x xs ih => simp only [nl, val]; split <;> omega

theorem form_eq (xs : List Nat) (h : Wf xs) : xs.take (nl xs) = ws (val xs) := by
  induction xs with
  | nil => simp [nl, val, ws_zero]
  | cons x xs ih =>
    have h1 := ih h.tail
    have h2 := h.head
    by_cases h3 : nl xs = 0 ∧ x = 0
    · have h4 := (nl_zero_iff xs).1 h3.1
      simp [nl, h3, val, h4, ws_zero]
    · have h5 : val (x :: xs) ≠ 0 := by
        intro h6; simp only [val] at h6
        exact h3 ⟨(nl_zero_iff xs).2 (by omega), by omega⟩
      rw [ws_pos _ h5]
      simp only [nl, if_neg h3, val, List.take_succ_cons]
      rw [show (x + 4294967296 * val xs) % 4294967296 = x by omega, show (x + 4294967296 * val xs) / 4294967296 = val xs by omega, h1]

theorem nl_eq_length (xs : List Nat) (h : Wf xs) : nl xs = (ws (val xs)).length := by
  rw [← form_eq xs h, List.length_take, Nat.min_eq_left (nl_le xs)]

theorem val_form (xs : List Nat) (h : Wf xs) : val (xs.take (nl xs)) = val xs := by rw [form_eq xs h, val_ws]

theorem nl_ws (n : Nat) : nl (ws n) = (ws n).length := by rw [nl_eq_length _ (wf_ws n), val_ws]

theorem ws_of_form (xs : List Nat) (h : Wf xs) (hn : nl xs = xs.length) : xs = ws (val xs) := by
  rw [← form_eq xs h, hn, List.take_length]

theorem ws_inj {a b : Nat} (h : ws a = ws b) : a = b := by rw [← val_ws a, ← val_ws b, h]

theorem ws_len_le (n k : Nat) : (ws n).length ≤ k ↔ n < pw k := by
  constructor
  · intro h
    have h1 := val_lt (ws n) (wf_ws n)
    rw [val_ws] at h1
    exact Nat.lt_of_lt_of_le h1 (pw_mono h)
  · intro h
    induction k generalizing n with
    | zero => rw [pw_zero] at h; obtain rfl : n = 0 := by omega
              simp [ws_zero]
    | succ k ih =>
      by_cases h0 : n = 0
      · subst h0; simp [ws_zero]
      · rw [ws_pos n h0, List.length_cons]
        rw [pw_succ] at h
        have := ih (n / 4294967296) (by omega)
        omega

theorem ws_len_eq (n k : Nat) (h1 : pw k ≤ n) (h2 : n < pw (k + 1)) : (ws n).length = k + 1 := by
  have a := (ws_len_le n (k + 1)).2 h2
  have b : ¬ (ws n).length ≤ k := fun h => by have := (ws_len_le n k).1 h; omega
  omega

theorem ws_len_ge (n : Nat) (h : n ≠ 0) : pw ((ws n).length - 1) ≤ n := by
  have h1 : ¬ (ws n).length ≤ (ws n).length - 1 := by
    have : (ws n).length ≠ 0 := by rw [ws_pos n h]; simp
    omega
  rw [ws_len_le] at h1
  omega

theorem ws_len_lt (n : Nat) : n < pw (ws n).length := (ws_len_le n _).1 (Nat.le_refl _)

theorem ws_len_zero (n : Nat) : (ws n).length = 0 ↔ n = 0 := by
  constructor
  · intro h; have := ws_len_lt n; rw [h, pw_zero] at this; omega
  · intro h; subst h; simp [ws_zero]

/-- Where a loop that takes zero words off the end stops. -/
theorem nl_stop (xs : List Nat) (k : Nat) (hk : k ≤ xs.length) (h0 : ∀ j, k ≤ j → j < xs.length → xs.getD j 0 = 0) (h1 : k = 0 ∨ xs.getD (k - 1) 0 ≠ 0) : nl xs = k := by
  induction xs generalizing k with
  | nil => simp at hk; simp [nl, hk]
  | cons x xs ih =>
    cases k with
    | zero =>
      have hx := h0 0 (by omega) (by simp)
      have : nl xs = 0 := ih 0 (by omega) (fun j _ hj => by have := h0 (j + 1) (by omega) (by simp; omega); simpa using this) (.inl rfl)
      simp at hx
      simp [nl, this, hx]
    | succ k =>
      cases k with
      | zero =>
        have : nl xs = 0 := ih 0 (by omega) (fun j _ hj => by have := h0 (j + 1) (by omega) (by simp; omega); simpa using this) (.inl rfl)
        simp at h1
        simp [nl, this, h1]
      | succ k =>
        have : nl xs = k + 1 := ih (k + 1) (by simpa using hk) (fun j hj hj2 => by have := h0 (j + 1) (by omega) (by simp; omega); simpa using this) (.inr (by simpa using h1))
        simp [nl, this]

theorem nl_last (xs : List Nat) (h : nl xs ≠ 0) : xs.getD (nl xs - 1) 0 ≠ 0 := by
  induction xs with
  | nil => simp [nl] at h
  | cons x xs ih =>
    by_cases h1 : nl xs = 0
    · have hx : x ≠ 0 := by intro hx; simp [nl, h1, hx] at h
      simp [nl, h1, hx]
    · have h2 : ¬ (nl xs = 0 ∧ x = 0) := by omega
      have := ih h1
      simp only [nl, if_neg h2]
      obtain ⟨m, hm⟩ : ∃ m, nl xs = m + 1 := ⟨nl xs - 1, by omega⟩
      rw [hm] at this ⊢
      simpa using this

theorem nl_above (xs : List Nat) (j : Nat) (h : nl xs ≤ j) : xs.getD j 0 = 0 := by
  induction xs generalizing j with
  | nil => simp
  | cons x xs ih =>
    by_cases h2 : nl xs = 0 ∧ x = 0
    · cases j with
      | zero => simp [h2.2]
      | succ j => simpa using ih j (by omega)
    · simp only [nl, if_neg h2] at h
      cases j with
      | zero => omega
      | succ j => simpa using ih j (by omega)
end Go.Proofs.YthilnddhehbjiaaDoor
