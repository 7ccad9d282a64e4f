/- Plain facts on comparisons, signs and neighbours of numbers of 64 bits, by their bits. -/
import Derived.Test.YtgnmnljmgmbmhaaBW0
import Derived.Laws.BitsAllLaws
import Derived.WalkLawsBesides
namespace Go.Proofs.Ytgnmnljmgmbmhaa.B
set_option linter.unusedVariables false
set_option maxRecDepth 20000

theorem lt_f64 (s t : Bool) (e f u v : Nat) (he : e < 2048) (hf : f < 4503599627370496) (hu : u < 2048) (hv : v < 4503599627370496) :
    (FloatKind.f64.format.order (bw s e f) (bw t u v) == some .lt) = (!odd e f && (!odd u v && decide (pl s e f < pl t u v))) := by
  rw [ord s t e f u v he hf hu hv]
  cases odd e f <;> cases odd u v <;> simp
  by_cases h : pl s e f < pl t u v
  · rw [Int.compare_eq_lt.2 h]; simp [h]
  · rw [decide_eq_false h]
    by_cases h2 : pl t u v < pl s e f
    · rw [Int.compare_eq_gt.2 h2]; rfl
    · rw [Int.compare_eq_eq.2 (by omega)]; rfl

theorem gt_f64 (s t : Bool) (e f u v : Nat) (he : e < 2048) (hf : f < 4503599627370496) (hu : u < 2048) (hv : v < 4503599627370496) :
    (FloatKind.f64.format.order (bw s e f) (bw t u v) == some .gt) = (!odd e f && (!odd u v && decide (pl t u v < pl s e f))) := by
  rw [ord s t e f u v he hf hu hv]
  cases odd e f <;> cases odd u v <;> simp
  by_cases h : pl t u v < pl s e f
  · rw [Int.compare_eq_gt.2 h]; simp [h]
  · rw [decide_eq_false h]
    by_cases h2 : pl s e f < pl t u v
    · rw [Int.compare_eq_lt.2 h2]; rfl
    · rw [Int.compare_eq_eq.2 (by omega)]; rfl

theorem eq_f64 (s t : Bool) (e f u v : Nat) (he : e < 2048) (hf : f < 4503599627370496) (hu : u < 2048) (hv : v < 4503599627370496) :
    (FloatKind.f64.format.order (bw s e f) (bw t u v) == some .eq) = (!odd e f && (!odd u v && decide (pl s e f = pl t u v))) := by
  rw [ord s t e f u v he hf hu hv]
  cases odd e f <;> cases odd u v <;> simp
  by_cases h : pl s e f < pl t u v
  · rw [Int.compare_eq_lt.2 h, decide_eq_false (by omega)]; rfl
  · by_cases h2 : pl t u v < pl s e f
    · rw [Int.compare_eq_gt.2 h2, decide_eq_false (by omega)]; rfl
    · rw [Int.compare_eq_eq.2 (by omega), decide_eq_true (by omega)]; rfl

/-- the place in the order of all. -/
def ky (s : Bool) (e f : Nat) : Int := if e = 2047 ∧ f ≠ 0 then 9221120237041090560 else if s then -1 - ((e : Int) * 4503599627370496 + f) else (e : Int) * 4503599627370496 + f
def oc (a b : Int) : Int := if a < b then -1 else if b < a then 1 else 0
theorem oc_lt {a b : Int} (h : a < b) : oc a b = -1 := if_pos h
theorem oc_gt {a b : Int} (h : b < a) : oc a b = 1 := by unfold oc; rw [if_neg (by omega), if_pos h]
theorem oc_eq {a b : Int} (h : a = b) : oc a b = 0 := by unfold oc; rw [if_neg (by omega), if_neg (by omega)]
theorem ky_odd (s : Bool) (e f : Nat) (h : odd e f = true) : ky s e f = 9221120237041090560 := if_pos (is_odd e f h)
theorem ky_lt (s : Bool) (e f : Nat) (he : e < 2048) (hf : f < 4503599627370496) (h : odd e f = false) : ky s e f < 9221120237041090560 := by
  have := not_odd e f h
  unfold ky; rw [if_neg this]; split <;> omega
theorem ky_else (s : Bool) (e f : Nat) (h : odd e f = false) : ky s e f = if s then -1 - ((e : Int) * 4503599627370496 + f) else (e : Int) * 4503599627370496 + f := if_neg (not_odd e f h)

theorem ky_of_pl (s t : Bool) (e f u v : Nat) (h1 : odd e f = false) (h2 : odd u v = false) (h : pl s e f < pl t u v) : ky s e f < ky t u v := by
  rw [ky_else s e f h1, ky_else t u v h2]
  unfold pl sg at h
  cases s <;> cases t <;> simp at h ⊢ <;> omega

theorem bw_inj (s t : Bool) (e f u v : Nat) (he : e < 2048) (hf : f < 4503599627370496) (hu : u < 2048) (hv : v < 4503599627370496) (h : bw s e f = bw t u v) : s = t ∧ e = u ∧ f = v := by
  unfold bw at h
  cases s <;> cases t <;> simp only [Bool.toNat_true, Bool.toNat_false] at h
  · exact ⟨rfl, by omega, by omega⟩
  · omega
  · omega
  · exact ⟨rfl, by omega, by omega⟩

theorem ky_of_cb (s t : Bool) (e f u v : Nat) (he : e < 2048) (hf : f < 4503599627370496) (hu : u < 2048) (hv : v < 4503599627370496) (h : cb s e f = cb t u v) : ky s e f = ky t u v := by
  cases h1 : odd e f
  · rw [cb_else s e f (not_odd e f h1)] at h
    cases h2 : odd u v
    · rw [cb_else t u v (not_odd u v h2)] at h
      obtain ⟨rfl, rfl, rfl⟩ := bw_inj s t e f u v he hf hu hv h
      rfl
    · rw [cb_odd t u v (is_odd u v h2)] at h
      exact absurd h (bw_ne_nan s e f he hf h1)
  · rw [cb_odd s e f (is_odd e f h1)] at h
    cases h2 : odd u v
    · rw [cb_else t u v (not_odd u v h2)] at h
      exact absurd h.symm (bw_ne_nan t u v hu hv h2)
    · rw [ky_odd s e f h1, ky_odd t u v h2]

theorem ky_zero (s t : Bool) (e f u v : Nat) (h1 : odd e f = false) (h2 : odd u v = false) (hne : ¬ bw s e f = bw t u v) (h : pl s e f = pl t u v) : (s = false → ky t u v < ky s e f) ∧ (s = true → ky s e f < ky t u v) := by
  rw [ky_else s e f h1, ky_else t u v h2]
  unfold bw at hne
  unfold pl sg at h
  cases s <;> cases t <;> simp at h hne ⊢ <;> omega

end Go.Proofs.Ytgnmnljmgmbmhaa.B
