/- tally: what the law of order needs besides. -/
import Derived.Test.YtgnmnljmgmbmhaaTA11
namespace Go.Proofs.Ytgnmnljmgmbmhaa
open Go.RowKit
set_option linter.unusedVariables false
set_option maxRecDepth 20000
set_option linter.unusedSimpArgs false

theorem Tm.perm {w : World} {g b : Nat} {j : Bool} {L M : List Nat} (h : Tm w g b j L) (hp : L.Perm M) : Tm w g b j M :=
  ⟨by rw [← hp.length_eq]; exact h.tb, h.mp.congr (fun x => hp.count_eq x), h.ne, fun x hx => h.v x (hp.mem_iff.2 hx)⟩

theorem count_filter18 (M : List Nat) (p : Nat → Bool) (a : Nat) : (M.filter p).count a = if p a then M.count a else 0 := by
  by_cases h : p a = true
  · rw [if_pos h, List.count_filter h]
  · rw [if_neg h]
    exact List.count_eq_zero.2 (fun hm => h (List.mem_filter.1 hm).2)
/-- One more of a row of places; two parts of it. -/
theorem filter_one {n k : Nat} {p q : Nat → Bool} (hk : k < n) (hp : p k = false) (hq : ∀ m, m < n → q m = (p m || m == k)) : ((List.range n).filter q).Perm (k :: (List.range n).filter p) := by
  rw [List.perm_iff_count]
  intro a
  rw [List.count_cons, count_filter18, count_filter18]
  by_cases ha : a < n
  · rw [hq a ha]
    by_cases e : a = k
    · subst e
      have : (List.range n).count a = 1 := by rw [List.nodup_range.count, if_pos (List.mem_range.2 ha)]
      simp [hp, this]
    · have e2 : (a == k) = false := by simp [e]
      have e3 : (k == a) = false := by simp; exact fun h => e h.symm
      simp [e2, e3]
  · have : (List.range n).count a = 0 := List.count_eq_zero.2 (fun h => ha (List.mem_range.1 h))
    have e3 : (k == a) = false := by simp; omega
    simp [this, e3]
theorem filter_two {n : Nat} {p q r : Nat → Bool} (hr : ∀ m, m < n → r m = (p m || q m)) (hd : ∀ m, m < n → p m = true → q m = false) : ((List.range n).filter r).Perm ((List.range n).filter p ++ (List.range n).filter q) := by
  rw [List.perm_iff_count]
  intro a
  rw [List.count_append, count_filter18, count_filter18, count_filter18]
  by_cases ha : a < n
  · rw [hr a ha]
    by_cases e : p a = true
    · simp [e, hd a ha e]
    · simp [e]
  · have : (List.range n).count a = 0 := List.count_eq_zero.2 (fun h => ha (List.mem_range.1 h))
    simp [this]
/-- The values of the places that p tells. -/
def at18 (j : Bool) (xs : List Nat) (p : Nat → Bool) : List Nat := ((List.range xs.length).filter p).map (fun m => vW j (xs.getD m 0))
theorem at_len (j : Bool) (xs : List Nat) (p : Nat → Bool) : (at18 j xs p).length ≤ xs.length := by
  unfold at18; rw [List.length_map]; have := List.length_filter_le p (List.range xs.length); simpa using this
theorem at_one {j : Bool} {xs : List Nat} {k : Nat} {p q : Nat → Bool} (hk : k < xs.length) (hp : p k = false) (hq : ∀ m, m < xs.length → q m = (p m || m == k)) : (at18 j xs q).Perm (vW j (xs.getD k 0) :: at18 j xs p) :=
  (filter_one hk hp hq).map (fun m => vW j (xs.getD m 0))
theorem at_two {j : Bool} {xs : List Nat} {p q r : Nat → Bool} (hr : ∀ m, m < xs.length → r m = (p m || q m)) (hd : ∀ m, m < xs.length → p m = true → q m = false) : (at18 j xs r).Perm (at18 j xs p ++ at18 j xs q) := by
  have := (filter_two hr hd).map (fun m => vW j (xs.getD m 0))
  rwa [List.map_append] at this
theorem at_congr {j : Bool} {xs : List Nat} {p q : Nat → Bool} (h : ∀ m, m < xs.length → p m = q m) : at18 j xs p = at18 j xs q := by
  unfold at18; rw [List.filter_congr (fun m hm => h m (List.mem_range.1 hm))]
theorem at_none {j : Bool} {xs : List Nat} {p : Nat → Bool} (h : ∀ m, m < xs.length → p m = false) : at18 j xs p = [] := by
  unfold at18; rw [List.filter_eq_nil_iff.2 (fun m hm => by rw [h m (List.mem_range.1 hm)]; simp)]; rfl
theorem at_all {j : Bool} {xs : List Nat} {p : Nat → Bool} (h : ∀ m, m < xs.length → p m = true) : at18 j xs p = xs.map (vW j) := by
  unfold at18; rw [List.filter_eq_self.2 (fun m hm => h m (List.mem_range.1 hm))]
  apply List.ext_getElem?
  intro i
  by_cases hi : i < xs.length
  · rw [List.getElem?_map, List.getElem?_map, List.getElem?_range hi, List.getElem?_eq_getElem hi]
    simp [List.getD_eq_getElem?_getD, hi]
  · rw [List.getElem?_eq_none (by simpa using hi), List.getElem?_eq_none (by simpa using hi)]
/-- A value is a value still. -/
theorem map_vW {j : Bool} {L : List Nat} (h : ∀ x ∈ L, isV j x) : L.map (vW j) = L := by
  have : L.map (vW j) = L.map id := List.map_congr_left (fun x hx => (h x hx).2)
  rw [this, List.map_id]

theorem sum_add : ∀ (K : List Nat) (f g : Nat → Nat), (K.map (fun x => f x + g x)).sum = (K.map f).sum + (K.map g).sum
  | [], _, _ => rfl
  | a :: K, f, g => by have := sum_add K f g; simp only [List.map_cons, List.sum_cons] at *; omega
theorem sum_zero : ∀ K : List Nat, (K.map (fun _ => 0)).sum = 0
  | [] => rfl
  | a :: K => by have := sum_zero K; simp only [List.map_cons, List.sum_cons]; omega
theorem sum_one (a : Nat) : ∀ (K : List Nat), K.Nodup → a ∈ K → (K.map (fun x => if a == x then 1 else 0)).sum = 1
  | [], _, h => by cases h
  | b :: K, hn, h => by
    have hn1 := List.nodup_cons.1 hn
    by_cases e : a = b
    · subst e
      have hz : (K.map (fun x => if a == x then 1 else 0)).sum = 0 := by
        have : K.map (fun x => if a == x then 1 else 0) = K.map (fun _ => 0) := List.map_congr_left (fun x hx => by
          have : a ≠ x := by rintro rfl; exact hn1.1 hx
          simp [this])
        rw [this, sum_zero]
      rw [List.map_cons, List.sum_cons, hz]
      simp
    · have := sum_one a K hn1.2 ((List.mem_cons.1 h).resolve_left e)
      have e2 : (a == b) = false := by simp [e]
      rw [List.map_cons, List.sum_cons, this, e2]
      simp
theorem sum_count (K : List Nat) (hn : K.Nodup) : ∀ V : List Nat, (∀ x ∈ V, x ∈ K) → (K.map (fun x => V.count x)).sum = V.length
  | [], _ => by simpa using sum_zero K
  | a :: V, h => by
    have ih := sum_count K hn V (fun x hx => h x (List.mem_cons_of_mem _ hx))
    have e : K.map (fun x => (a :: V).count x) = K.map (fun x => V.count x + (if a == x then 1 else 0)) := List.map_congr_left (fun x _ => by rw [List.count_cons])
    rw [e, sum_add, ih, sum_one a K hn (h a (List.mem_cons_self ..))]
    rfl
theorem IsEnt.sum {V : List Nat} {E : List (Nat × Nat)} (h : IsEnt V E) : (E.map (·.2)).sum = V.length := by
  have e : E.map (·.2) = (E.map (·.1)).map (fun x => V.count x) := by
    rw [List.map_map]
    exact List.map_congr_left (fun p hp => by obtain ⟨x, c⟩ := p; exact ((h.mem x c).1 hp).2)
  rw [e, sum_count _ h.nodup V (fun x hx => (h.keys x).2 hx)]

theorem eqz18 {x : Nat} (hx : x < 18446744073709551616) : (FloatKind.f64.format.order x 0 == some .eq) = decide (magW x = 0) := by
  obtain ⟨s, e, f, h1, h2, h3, rfl, rfl, rfl⟩ := bw15 hx
  have h := B.eq_f64 (negW x) false (magW x / 4503599627370496) (magW x % 4503599627370496) 0 0 h1 h2 (by decide) (by decide)
  rw [← h3] at h
  have e0 : B.bw false 0 0 = 0 := by decide
  rw [e0] at h
  rw [h]
  have hm : magW x < 9223372036854775808 := by unfold magW; omega
  have ho : B.odd (magW x / 4503599627370496) (magW x % 4503599627370496) = nanW x := by
    unfold B.odd nanW
    by_cases h : 9218868437227405312 < magW x
    · have : magW x / 4503599627370496 = 2047 := by omega
      have h9 : magW x % 4503599627370496 ≠ 0 := by omega
      simp [h, this, h9]
    · by_cases h8 : magW x / 4503599627370496 = 2047
      · have h9 : magW x % 4503599627370496 = 0 := by omega
        simp [h, h9]
      · simp [h, h8]
  have ho0 : B.odd 0 0 = false := by decide
  have e1 : B.pl (negW x) (magW x / 4503599627370496) (magW x % 4503599627370496) = B.sg (negW x) (magW x) := by
    unfold B.pl; rw [show magW x / 4503599627370496 * 4503599627370496 + magW x % 4503599627370496 = magW x from by omega]
  have e2 : B.pl false 0 0 = 0 := by decide
  rw [ho, ho0, e1, e2]
  unfold nanW B.sg
  by_cases hz : magW x = 0
  · rw [hz]; cases negW x <;> simp
  · by_cases hn : 9218868437227405312 < magW x
    · simp [hn, hz]
    · cases negW x <;> simp [hn, hz]
/-- Does a number of the list count as this value? -/
theorem alike_v {j : Bool} {x v : Nat} (hx : x < 18446744073709551616) (hv : isV j v) : (decide (nrm x = nrm v) || (j && (decide (magW x = 0) && decide (magW v = 0)))) = decide (vW j x = v) := by
  have h1 := nrm_isV hv
  have h2 := hv.2
  rw [h1]
  unfold nrm vW at *
  have ho : nanW oddW = true := by decide
  have hom : magW oddW ≠ 0 := by decide
  by_cases hn : nanW x = true
  · rw [if_pos hn, if_pos hn]
    have : ¬ magW x = 0 := by unfold nanW at hn; simp at hn; omega
    simp [this]
  · rw [if_neg hn, if_neg hn]
    by_cases hz : (j && decide (magW x = 0)) = true
    · rw [if_pos hz]
      simp only [Bool.and_eq_true, decide_eq_true_eq] at hz
      obtain ⟨rfl, hz⟩ := hz
      have hx2 : x = 0 ∨ x = 9223372036854775808 := by unfold magW at hz; omega
      by_cases hv0 : magW v = 0
      · have hnv : ¬ nanW v = true := by unfold nanW; simp [hv0]
        rw [if_neg hnv] at h2
        simp [hv0] at h2
        subst h2
        simp [hz, hv0]
      · have : ¬ x = v := by
          rintro rfl; exact hv0 hz
        have h3 : ¬ (0 = v) := by rintro rfl; exact hv0 (by decide)
        simp [hv0, this, h3]
    · rw [if_neg hz]
      have hz2 : (j && (decide (magW x = 0) && decide (magW v = 0))) = false := by
        cases j
        · rfl
        · simp at hz; simp [hz]
      rw [hz2, Bool.or_false]
end Go.Proofs.Ytgnmnljmgmbmhaa
