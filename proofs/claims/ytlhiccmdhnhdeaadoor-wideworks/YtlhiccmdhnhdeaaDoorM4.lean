/- Pieces of a row of words, and their value. -/
import Derived.Test.YtlhiccmdhnhdeaaDoorM1
namespace Go.Proofs.YtlhiccmdhnhdeaaDoor
set_option linter.unusedVariables false

/-- The value of k words from off on. -/
def sg (L : List Nat) (off k : Nat) : Nat := val ((L.drop off).take k)

theorem sg_zero (L : List Nat) (off : Nat) : sg L off 0 = 0 := by simp [sg, val]
theorem sg_succ (L : List Nat) (off k : Nat) (h : off + k < L.length) : sg L off (k + 1) = sg L off k + pw k * L.getD (off + k) 0 := by
  unfold sg
  rw [val_take_succ _ _ (by simp; omega)]
  simp [List.getD_eq_getElem?_getD]
theorem sg_front (L : List Nat) (off k : Nat) (h : off < L.length) : sg L off (k + 1) = L.getD off 0 + 4294967296 * sg L (off + 1) k := by
  unfold sg
  rw [List.drop_eq_getElem_cons h, List.take_succ_cons, val, List.getD_eq_getElem?_getD, List.getElem?_eq_getElem h]
  rfl
theorem sg_all (L : List Nat) : sg L 0 L.length = val L := by simp [sg]
theorem sg_add (L : List Nat) (off k m : Nat) (h : off + k + m ≤ L.length) : sg L off (k + m) = sg L off k + pw k * sg L (off + k) m := by
  induction m with
  | zero => simp [sg_zero]
  | succ m ih =>
    rw [← Nat.add_assoc, sg_succ L off (k + m) (by omega), sg_succ L (off + k) m (by omega), ih (by omega), pw_add, Nat.mul_add, ← Nat.add_assoc off k m]
    simp only [Nat.mul_assoc, Nat.add_assoc]
theorem sg_congr (L M : List Nat) (off k : Nat) (hl : M.length = L.length) (h : off + k ≤ L.length) (he : ∀ j, off ≤ j → j < off + k → M.getD j 0 = L.getD j 0) : sg M off k = sg L off k := by
  induction k with
  | zero => simp [sg_zero]
  | succ k ih => rw [sg_succ M off k (by omega), sg_succ L off k (by omega), ih (by omega) (fun j h1 h2 => he j h1 (by omega)), he (off + k) (by omega) (by omega)]
theorem getD_set (L : List Nat) (i j x : Nat) : (L.set i x).getD j 0 = if i = j ∧ j < L.length then x else L.getD j 0 := by
  simp only [List.getD_eq_getElem?_getD, List.getElem?_set]
  by_cases h : i = j
  · subst h
    by_cases h2 : i < L.length
    · simp [h2]
    · simp [h2]
  · simp [h]
theorem getD_set_same (L : List Nat) (i x : Nat) (h : i < L.length) : (L.set i x).getD i 0 = x := by rw [getD_set, if_pos ⟨rfl, h⟩]
theorem getD_set_ne (L : List Nat) (i j x : Nat) (h : i ≠ j) : (L.set i x).getD j 0 = L.getD j 0 := by rw [getD_set, if_neg (fun e => h e.1)]
theorem sg_set_above (L : List Nat) (off k i x : Nat) (h : off + k ≤ i) (hl : off + k ≤ L.length) : sg (L.set i x) off k = sg L off k :=
  sg_congr L _ off k (by simp) hl (fun j _ h2 => getD_set_ne _ _ _ _ (by omega))
theorem sg_set_below (L : List Nat) (off k i x : Nat) (h : i < off) (hl : off + k ≤ L.length) : sg (L.set i x) off k = sg L off k :=
  sg_congr L _ off k (by simp) hl (fun j h1 _ => getD_set_ne _ _ _ _ (by omega))
theorem sg_set_last (L : List Nat) (off k x : Nat) (h : off + k < L.length) : sg (L.set (off + k) x) off (k + 1) = sg L off k + pw k * x := by
  rw [sg_succ _ _ _ (by simp; omega), getD_set_same _ _ _ h, sg_set_above _ _ _ _ _ (by omega) (by omega)]
theorem sg_lt (L : List Nat) (off k : Nat) (hw : Wf L) (h : off + k ≤ L.length) : sg L off k < pw k := by
  have := val_lt _ ((hw.drop off).take k)
  simp only [List.length_take, List.length_drop] at this
  rw [Nat.min_eq_left (by omega)] at this
  exact this
theorem sg_take (L : List Nat) (off k : Nat) (h : k ≤ L.length) : sg (L.take k) 0 k = sg L 0 k := by simp [sg, List.take_take]
theorem sg_val_take (L : List Nat) (k : Nat) : sg L 0 k = val (L.take k) := by simp [sg]
theorem sg_drop (L : List Nat) (off k : Nat) (h : off + k = L.length) : sg L off k = val (L.drop off) := by unfold sg; rw [List.take_of_length_le (by simp; omega)]
theorem getD_zeros (n i : Nat) : (List.replicate n 0).getD i 0 = 0 := by
  simp only [List.getD_eq_getElem?_getD, List.getElem?_replicate]; split <;> rfl
theorem sg_zeros (n off k : Nat) : sg (List.replicate n 0) off k = 0 := by
  unfold sg; rw [List.drop_replicate, List.take_replicate, val_zeros]

/-- M is L but for the words from off to off + n. -/
def Out (L M : List Nat) (off n : Nat) : Prop := M.length = L.length ∧ ∀ j, (j < off ∨ off + n ≤ j) → M.getD j 0 = L.getD j 0
theorem Out.refl (L : List Nat) (off n : Nat) : Out L L off n := ⟨rfl, fun _ _ => rfl⟩
theorem Out.set {L M : List Nat} {off n : Nat} (h : Out L M off n) (i x : Nat) (h1 : off ≤ i) (h2 : i < off + n) : Out L (M.set i x) off n :=
  ⟨by simp [h.1], fun j hj => by rw [getD_set_ne _ _ _ _ (by omega)]; exact h.2 j hj⟩
theorem Out.mono {L M : List Nat} {off n k : Nat} (h : Out L M off n) (hk : n ≤ k) : Out L M off k := ⟨h.1, fun j hj => h.2 j (by omega)⟩
theorem Out.trans {L M K : List Nat} {off n : Nat} (h : Out L M off n) (k : Out M K off n) : Out L K off n := ⟨k.1.trans h.1, fun j hj => (k.2 j hj).trans (h.2 j hj)⟩
theorem Out.below {L M : List Nat} {off n : Nat} (h : Out L M off n) (a k : Nat) (h1 : a + k ≤ off) (h2 : a + k ≤ L.length) : sg M a k = sg L a k := sg_congr L M a k h.1 h2 (fun j _ hj => h.2 j (by omega))
theorem Out.above {L M : List Nat} {off n : Nat} (h : Out L M off n) (a k : Nat) (h1 : off + n ≤ a) (h2 : a + k ≤ L.length) : sg M a k = sg L a k := sg_congr L M a k h.1 h2 (fun j hj _ => h.2 j (by omega))

/-- One word more, with what is carried. -/
theorem carry_step (p a b V c x y s d : Nat) (h : V + c * p = a + b) (e : s + d * 4294967296 = x + y + c) : V + p * s + d * (4294967296 * p) = (a + p * x) + (b + p * y) := by
  have : p * (s + d * 4294967296) = p * (x + y + c) := by rw [e]
  grind

/-- What was not reached is as it was. -/
theorem seg_rest {L M : List Nat} {off k n V : Nat} (hk : k ≤ n) (hn : off + n ≤ L.length) (ho : Out L M off k) (h : sg M off k = sg L off k + V) : sg M off n = sg L off n + V := by
  obtain ⟨d, rfl⟩ : ∃ d, n = k + d := ⟨n - k, by omega⟩
  have h1 := sg_add M off k d (by rw [ho.1]; omega)
  have h2 := sg_add L off k d (by omega)
  have h3 := ho.above (off + k) d (by omega) (by omega)
  rw [h1, h2, h3]; omega

/-- One word more of a product, with what is carried. -/
theorem times_step (p a b V c x y q s d : Nat) (h : V + c * p = a + b * q) (e : s + d * 4294967296 = y * q + x + c) : V + p * s + d * (4294967296 * p) = (a + p * x) + (b + p * y) * q := by
  have : p * (s + d * 4294967296) = p * (y * q + x + c) := by rw [e]
  grind

theorem mul_bound (x y : Nat) (hx : x < 4294967296) (hy : y < 4294967296) : x * y ≤ 18446744065119617025 := by
  have : x * y ≤ 4294967295 * 4294967295 := Nat.mul_le_mul (by omega) (by omega)
  omega

/-- One word more of a product that is taken away. -/
theorem takes_step (p a b V c x y q s d : Nat) (h : V + b * q = a + c * p) (e : s + y * q + c = x + d * 4294967296) : V + p * s + (b + p * y) * q = (a + p * x) + d * (4294967296 * p) := by
  have : p * (s + y * q + c) = p * (x + d * 4294967296) := by rw [e]
  grind

/-- One word more of a quotient. -/
theorem cut_step (X Q q x d l l2 : Nat) (h : X = Q * d + l) (e : l * 4294967296 + x = q * d + l2) : x + 4294967296 * X = (q + 4294967296 * Q) * d + l2 := by
  subst h
  grind

/-- One word more of a difference. -/
theorem borrow_step (p a b V c x y s d : Nat) (h : V + b = a + c * p) (e : s + y + c = x + d * 4294967296) : V + p * s + (b + p * y) = (a + p * x) + d * (4294967296 * p) := by
  have : p * (s + y + c) = p * (x + d * 4294967296) := by rw [e]
  grind

/-- What was not reached is as it was (differences). -/
theorem seg_rest2 {L M : List Nat} {off k n V : Nat} (hk : k ≤ n) (hn : off + n ≤ L.length) (ho : Out L M off k) (h : sg M off k + V = sg L off k) : sg M off n + V = sg L off n := by
  obtain ⟨d, rfl⟩ : ∃ d, n = k + d := ⟨n - k, by omega⟩
  have h1 := sg_add M off k d (by rw [ho.1]; omega)
  have h2 := sg_add L off k d (by omega)
  have h3 := ho.above (off + k) d (by omega) (by omega)
  rw [h1, h2, h3]; omega
end Go.Proofs.YtlhiccmdhnhdeaaDoor
