/- Roots by steps: what holds from step to step. -/
import Derived.Test.YtlhiccmdhnhdeaaDoorM4
namespace Go.Proofs.YtlhiccmdhnhdeaaDoor
set_option linter.unusedVariables false

theorem amgm (u v : Nat) : 4 * u * v ≤ (u + v) * (u + v) := by
  rcases Nat.le_total u v with h | h
  · obtain ⟨d, rfl⟩ : ∃ d, v = u + d := ⟨v - u, by omega⟩
    have : (u + (u + d)) * (u + (u + d)) = 4 * u * (u + d) + d * d := by grind
    omega
  · obtain ⟨d, rfl⟩ : ∃ d, u = v + d := ⟨u - v, by omega⟩
    have : (v + d + v) * (v + d + v) = 4 * (v + d) * v + d * d := by grind
    omega

/-- One step of Newton's way: p counts the bits that are new, A the root so far. -/
theorem newton (N A p q : Nat) (hp : 0 < p) (hA : p ≤ A) (h1 : 4 * p * p * ((A - 1) * (A - 1)) < N) (h2 : N < 4 * p * p * ((A + 1) * (A + 1))) (hq : q = N / (4 * p * A)) :
    N < (p * A + q + 1) * (p * A + q + 1) ∧ (p * A + q - 1) * (p * A + q - 1) < N := by
  obtain ⟨u, hu⟩ : ∃ u, u = p * A := ⟨_, rfl⟩
  have hup : p * p ≤ u := by rw [hu]; exact Nat.mul_le_mul_left _ hA
  have hu0 : 0 < u := by rw [hu]; exact Nat.mul_pos hp (by omega)
  have e4 : 4 * p * A = 4 * u := by rw [hu, Nat.mul_assoc]
  rw [e4] at hq
  have hq1 : 4 * u * q ≤ N := by rw [hq]; exact Nat.mul_div_le N (4 * u)
  have hq2 : N < 4 * u * (q + 1) := by
    have := Nat.lt_mul_div_succ N (show 0 < 4 * u by omega)
    rw [hq]; exact this
  rw [← hu]
  constructor
  · have := amgm u (q + 1)
    rw [show u + q + 1 = u + (q + 1) by omega]
    omega
  · obtain ⟨b, hb⟩ : ∃ b, b = u + q - 1 := ⟨_, rfl⟩
    rw [← hb]
    by_cases hlt : b * b < N
    · exact hlt
    · exfalso
      have hq' : q + u = b + 1 := by omega
      have g1 : 4 * p * p * ((A - 1) * (A - 1)) = 2 * (p * (A - 1)) * (2 * (p * (A - 1))) := by grind
      have g2 : 4 * p * p * ((A + 1) * (A + 1)) = 4 * u * u + 8 * u * p + 4 * (p * p) := by rw [hu]; grind
      have g3 : p * (A - 1) + p = u := by
        rw [hu]
        obtain ⟨a, rfl⟩ : ∃ a, A = a + 1 := ⟨A - 1, by omega⟩
        rw [Nat.add_sub_cancel, Nat.mul_add]; omega
      rw [g1] at h1
      rw [g2] at h2
      by_cases hc : b ≤ 2 * (p * (A - 1))
      · have := Nat.mul_le_mul hc hc
        omega
      · -- above 2 (u - p)
        by_cases hc2 : 2 * u + 2 * p ≤ b
        · have h5 : u + 2 * p + 1 ≤ q := by omega
          have h6 : 4 * u * (u + 2 * p + 1) ≤ 4 * u * q := Nat.mul_le_mul_left _ h5
          have h7 : 4 * u * (u + 2 * p + 1) = 4 * u * u + 8 * u * p + 4 * u := by grind
          omega
        · -- between: (b - 2u)^2 < 4 p^2 <= 4 u
          rcases Nat.le_total b (2 * u) with hl | hl
          · obtain ⟨d, hd⟩ : ∃ d, 2 * u = b + d := ⟨2 * u - b, by omega⟩
            have hd2 : d < 2 * p := by omega
            have h8 : d * d < 2 * p * (2 * p) := Nat.mul_lt_mul'' hd2 hd2
            have h9 : 2 * p * (2 * p) = 4 * (p * p) := by grind
            have h10 : b * b + 4 * u * u = 4 * u * b + d * d := by
              have : b = 2 * u - d := by omega
              have e : 4 * u * u = 2 * u * (2 * u) := by grind
              rw [e, hd]
              have e2 : 4 * u * b = 2 * (2 * u) * b := by grind
              rw [e2, hd]
              grind
            have h11 : 4 * u * q + 4 * u * u = 4 * u * b + 4 * u := by
              have : 4 * u * (q + u) = 4 * u * (b + 1) := by rw [hq']
              rw [Nat.mul_add, Nat.mul_add] at this
              omega
            omega
          · obtain ⟨d, hd⟩ : ∃ d, b = 2 * u + d := ⟨b - 2 * u, by omega⟩
            have hd2 : d < 2 * p := by omega
            have h8 : d * d < 2 * p * (2 * p) := Nat.mul_lt_mul'' hd2 hd2
            have h9 : 2 * p * (2 * p) = 4 * (p * p) := by grind
            have h10 : b * b + 4 * u * u = 4 * u * b + d * d := by rw [hd]; grind
            have h11 : 4 * u * q + 4 * u * u = 4 * u * b + 4 * u := by
              have : 4 * u * (q + u) = 4 * u * (b + 1) := by rw [hq']
              rw [Nat.mul_add, Nat.mul_add] at this
              omega
            omega

/-- What a root so far holds: e bits of c are good. -/
def Near (X c e A : Nat) : Prop := (A - 1) * (A - 1) < X / 4 ^ (c - e) ∧ X / 4 ^ (c - e) < (A + 1) * (A + 1) ∧ 2 ^ e ≤ A ∧ 0 < A

theorem near_ge (X c e A : Nat) (he : e ≤ c) (hX : 4 ^ c ≤ X) (h : X / 4 ^ (c - e) < (A + 1) * (A + 1)) : 2 ^ e ≤ A := by
  have h1 : 4 ^ e ≤ X / 4 ^ (c - e) := by
    rw [Nat.le_div_iff_mul_le (Nat.pow_pos (by decide)), ← Nat.pow_add, show e + (c - e) = c by omega]; exact hX
  have h2 : 4 ^ e = 2 ^ e * 2 ^ e := by rw [← Nat.mul_pow]
  by_cases hlt : 2 ^ e ≤ A
  · exact hlt
  · exfalso
    have := Nat.mul_le_mul (show A + 1 ≤ 2 ^ e by omega) (show A + 1 ≤ 2 ^ e by omega)
    omega

theorem near_start (X c : Nat) (h1 : 4 ^ c ≤ X) (h2 : X < 4 ^ (c + 1)) : Near X c 0 1 := by
  have hp : 0 < 4 ^ c := Nat.pow_pos (by decide)
  have a : 1 ≤ X / 4 ^ c := (Nat.le_div_iff_mul_le hp).2 (by omega)
  have b : X / 4 ^ c < 4 := (Nat.div_lt_iff_lt_mul hp).2 (by rw [Nat.pow_succ] at h2; omega)
  exact ⟨by simpa using (by omega : 0 < X / 4 ^ c), by simpa using b, by simp, by omega⟩

/-- From e good bits to d. -/
theorem near_step (X c e d A q : Nat) (hX : 4 ^ c ≤ X) (hed : e < d) (hd2 : d ≤ 2 * e + 1) (hdc : d ≤ c) (h : Near X c e A) (hq : q = X / 2 ^ (2 * c - e - d + 1) / A) : Near X c d (A * 2 ^ (d - e - 1) + q) := by
  obtain ⟨h1, h2, h3, h4⟩ := h
  obtain ⟨k, hk⟩ : ∃ k, d = e + k + 1 := ⟨d - e - 1, by omega⟩
  obtain ⟨p, hp⟩ : ∃ p, p = 2 ^ k := ⟨_, rfl⟩
  obtain ⟨N, hN⟩ : ∃ N, N = X / 4 ^ (c - d) := ⟨_, rfl⟩
  have hp0 : 0 < p := by rw [hp]; exact Nat.two_pow_pos _
  have e1 : 4 ^ (k + 1) = 4 * p * p := by
    rw [hp, Nat.pow_succ, Nat.mul_comm, Nat.mul_assoc, ← Nat.mul_pow]
  have hNe : X / 4 ^ (c - e) = N / (4 * p * p) := by
    rw [hN, ← e1, Nat.div_div_eq_div_mul, ← Nat.pow_add]; congr 2; omega
  have hpp : 0 < 4 * p * p := Nat.mul_pos (Nat.mul_pos (by decide) hp0) hp0
  rw [hNe] at h1 h2
  have g1 : 4 * p * p * ((A - 1) * (A - 1)) < N := by
    have := (Nat.le_div_iff_mul_le hpp).1 h1
    rw [Nat.mul_comm]
    rw [Nat.succ_mul] at this
    omega
  have g2 : N < 4 * p * p * ((A + 1) * (A + 1)) := by
    rw [Nat.mul_comm]; exact (Nat.div_lt_iff_lt_mul hpp).1 h2
  have hq' : q = N / (4 * p * A) := by
    have e2 : 2 ^ (2 * c - e - d + 1) = 4 ^ (c - d) * (4 * p) := by
      have : (4 : Nat) = 2 ^ 2 := rfl
      rw [hp, this, ← Nat.pow_mul, ← Nat.pow_add, ← Nat.pow_add]; congr 1; omega
    rw [hq, e2, hN, Nat.div_div_eq_div_mul, Nat.div_div_eq_div_mul]
    congr 1; rw [Nat.mul_assoc]
  have hpA : p ≤ A := Nat.le_trans (by rw [hp]; exact Nat.pow_le_pow_right (by decide) (by omega)) h3
  obtain ⟨r1, r2⟩ := newton N A p q hp0 hpA g1 g2 hq'
  have ea : A * 2 ^ (d - e - 1) + q = p * A + q := by rw [show d - e - 1 = k by omega, ← hp, Nat.mul_comm]
  rw [ea]
  refine ⟨by rw [← hN]; exact r2, by rw [← hN]; exact r1, near_ge X c d _ hdc hX (by rw [← hN]; exact r1), ?_⟩
  have := Nat.mul_pos hp0 h4
  omega

theorem near_le (X c e A : Nat) (h : Near X c e A) : A ≤ X := by
  obtain ⟨h1, h2, h3, h4⟩ := h
  have a : X / 4 ^ (c - e) ≤ X := Nat.div_le_self _ _
  rcases A with _ | A
  · omega
  · rw [Nat.add_sub_cancel] at h1
    have : A ≤ A * A := by
      rcases A with _ | A
      · omega
      · exact Nat.le_mul_of_pos_left _ (by omega)
    omega

theorem near_end (X c A : Nat) (h : Near X c c A) : (A - 1) * (A - 1) < X ∧ X < (A + 1) * (A + 1) := by
  obtain ⟨h1, h2, h3, h4⟩ := h
  rw [Nat.sub_self, Nat.pow_zero, Nat.div_one] at h1 h2
  exact ⟨h1, h2⟩

/-- A whole root. -/
def IsRoot (X r : Nat) : Prop := r * r ≤ X ∧ X < (r + 1) * (r + 1)
theorem IsRoot.unique {X r s : Nat} (h : IsRoot X r) (k : IsRoot X s) : r = s := by
  rcases Nat.lt_trichotomy r s with h1 | h1 | h1
  · exfalso; have := Nat.mul_le_mul (show r + 1 ≤ s from h1) (show r + 1 ≤ s from h1); have := h.2; have := k.1; omega
  · exact h1
  · exfalso; have := Nat.mul_le_mul (show s + 1 ≤ r from h1) (show s + 1 ≤ r from h1); have := k.2; have := h.1; omega
end Go.Proofs.YtlhiccmdhnhdeaaDoor
