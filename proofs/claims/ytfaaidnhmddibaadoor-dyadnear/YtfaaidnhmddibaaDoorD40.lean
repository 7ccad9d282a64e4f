/- Dyads as whole numbers over a common power: sums, products, what is alike, how they stand. -/
import Derived.Test.YtfaaidnhmddibaaDoorD36
import Derived.Test.YtfaaidnhmddibaaDoorD38
namespace Go.Proofs.YtfaaidnhmddibaaDoor
open Go.RowKit
set_option linter.unusedVariables false
set_option maxRecDepth 20000

/-- A sign. -/
def sg1 (n : Bool) : Int := if n then -1 else 1
/-- The value of (n, X, e), in units of 2^B. -/
def zv (B : Int) (x : Bool × Nat × Int) : Int := sg1 x.1 * ((x.2.1 * 2 ^ (x.2.2 - B).toNat : Nat) : Int)

theorem pow_split (e l B : Int) (h : B ≤ e) (hl : 0 ≤ l) : (2 : Nat) ^ (e + l - B).toNat = 2 ^ l.toNat * 2 ^ (e - B).toNat := by
  rw [← Nat.pow_add]; congr 1; omega

theorem zv_mkS {n : Bool} {X : Nat} {e : Int} {x : Bool × Nat × Int} (h : mkS n X e = some x) (B : Int) (hB : X = 0 ∨ B ≤ e) : zv B x = sg1 n * ((X * 2 ^ (e - B).toNat : Nat) : Int) := by
  unfold mkS at h
  by_cases h0 : X = 0
  · rw [if_pos h0] at h
    cases h
    subst h0
    simp [zv]
  · rw [if_neg h0] at h
    split at h
    · cases h
    · cases h
      have hB' : B ≤ e := by rcases hB with h | h; exact absurd h h0; exact h
      obtain ⟨m, hm, hd, _⟩ := odd_part X h0
      show sg1 n * ((X / 2 ^ lo X * 2 ^ (e + (lo X : Int) - B).toNat : Nat) : Int) = _
      rw [pow_split e (lo X) B hB' (by omega), Int.toNat_natCast, ← Nat.mul_assoc]
      have hx : X / 2 ^ lo X * 2 ^ lo X = X := by rw [hd]; rw [Nat.mul_comm]; exact hm.symm
      rw [hx]

theorem zv_up {x : Bool × Nat × Int} (B C : Int) (hB : x.2.1 = 0 ∨ B ≤ x.2.2) (hC : C ≤ B) : zv C x = zv B x * ((2 ^ (B - C).toNat : Nat) : Int) := by
  unfold zv
  rcases hB with h | h
  · rw [h]; simp
  · rw [show (x.2.2 - C).toNat = (x.2.2 - B).toNat + (B - C).toNat by omega, Nat.pow_add, ← Nat.mul_assoc, Int.natCast_mul, Int.mul_assoc]

theorem sg1_ne {n m : Bool} (h : ¬ n = m) : sg1 m = -sg1 n := by cases n <;> cases m <;> first | exact absurd rfl h | rfl
theorem sg1_not (n : Bool) : sg1 (!n) = -sg1 n := by cases n <;> rfl
theorem sg1_bne (n m : Bool) : sg1 (n != m) = sg1 n * sg1 m := by cases n <;> cases m <;> rfl

theorem zv_addUp {n m : Bool} {X Y : Nat} {e f : Int} {z : Bool × Nat × Int} (h : addUp n X e m Y f = some z) (hfe : f ≤ e) (B : Int) (hB : B ≤ f) : zv B z = zv B (n, X, e) + zv B (m, Y, f) := by
  unfold addUp at h
  split at h
  · cases h
  · have key : X * 2 ^ (e - f).toNat * 2 ^ (f - B).toNat = X * 2 ^ (e - B).toNat := by
      rw [Nat.mul_assoc, ← Nat.pow_add, show (e - f).toNat + (f - B).toNat = (e - B).toNat by omega]
    show zv B z = sg1 n * ((X * 2 ^ (e - B).toNat : Nat) : Int) + sg1 m * ((Y * 2 ^ (f - B).toNat : Nat) : Int)
    generalize 2 ^ (e - f).toNat = P at h key
    split at h
    · rename_i hnm
      rw [zv_mkS h B (.inr hB), hnm, ← Int.mul_add, Nat.add_mul, key, Int.natCast_add]
    · rename_i hnm
      split at h
      · rename_i hle
        rw [zv_mkS h B (.inr hB), sg1_ne hnm, Nat.sub_mul, key, Int.ofNat_sub (by rw [← key]; exact Nat.mul_le_mul_right _ hle), Int.mul_sub, Int.neg_mul]
        omega
      · rename_i hle
        rw [zv_mkS h B (.inr hB), sg1_not, sg1_ne hnm, Nat.sub_mul, key, Int.ofNat_sub (by rw [← key]; exact Nat.mul_le_mul_right _ (by omega)), Int.mul_sub, Int.neg_mul, Int.neg_mul]
        omega

theorem zv_zero {x : Bool × Nat × Int} (B : Int) (h : x.2.1 = 0) : zv B x = 0 := by unfold zv; rw [h]; simp

theorem zv_addF {x y z : Bool × Nat × Int} (h : addF x y = some z) (B : Int) (hx : x.2.1 = 0 ∨ B ≤ x.2.2) (hy : y.2.1 = 0 ∨ B ≤ y.2.2) : zv B z = zv B x + zv B y := by
  obtain ⟨n, X, e⟩ := x
  obtain ⟨m, Y, f⟩ := y
  unfold addF at h
  simp only at h hx hy
  by_cases h0 : X = 0
  · rw [if_pos h0] at h
    cases h
    rw [zv_zero (x := (n, X, e)) B h0, Int.zero_add]
  · rw [if_neg h0] at h
    by_cases h1 : Y = 0
    · rw [if_pos h1] at h
      cases h
      rw [zv_zero (x := (m, Y, f)) B h1, Int.add_zero]
    · rw [if_neg h1] at h
      have hx' : B ≤ e := by rcases hx with k | k; exact absurd k h0; exact k
      have hy' : B ≤ f := by rcases hy with k | k; exact absurd k h1; exact k
      by_cases h2 : e < f
      · rw [if_pos h2] at h
        rw [zv_addUp h (by omega) B hx', Int.add_comm]
      · rw [if_neg h2] at h
        exact zv_addUp h (by omega) B hy'

theorem zv_mulF {x y z : Bool × Nat × Int} (h : mulF x y = some z) (B C : Int) (hx : x.2.1 = 0 ∨ B ≤ x.2.2) (hy : y.2.1 = 0 ∨ C ≤ y.2.2) : zv (B + C) z = zv B x * zv C y := by
  obtain ⟨n, X, e⟩ := x
  obtain ⟨m, Y, f⟩ := y
  unfold mulF at h
  simp only at h hx hy
  by_cases h0 : X = 0
  · subst h0
    rw [Nat.zero_mul] at h
    rw [zv_mkS h _ (.inl rfl), zv_zero (x := (n, 0, e)) B rfl]
    simp
  · by_cases h1 : Y = 0
    · subst h1
      rw [Nat.mul_zero] at h
      rw [zv_mkS h _ (.inl rfl), zv_zero (x := (m, 0, f)) C rfl]
      simp
    · have hx' : B ≤ e := by rcases hx with k | k; exact absurd k h0; exact k
      have hy' : C ≤ f := by rcases hy with k | k; exact absurd k h1; exact k
      rw [zv_mkS h _ (.inr (by omega)), sg1_bne]
      unfold zv
      simp only
      rw [show (e + f - (B + C)).toNat = (e - B).toNat + (f - C).toNat by omega, Nat.pow_add]
      rw [show X * Y * (2 ^ (e - B).toNat * 2 ^ (f - C).toNat) = (X * 2 ^ (e - B).toNat) * (Y * 2 ^ (f - C).toNat) by rw [Nat.mul_mul_mul_comm]]
      rw [Int.natCast_mul, Int.mul_assoc, Int.mul_assoc]
      congr 1
      rw [← Int.mul_assoc, ← Int.mul_assoc]
      congr 1
      exact Int.mul_comm _ _

/-- What has one value has one form. -/
theorem odd_pow {X Y : Nat} (a b : Nat) (hX : X % 2 = 1) (hY : Y % 2 = 1) (h : X * 2 ^ a = Y * 2 ^ b) : X = Y ∧ a = b := by
  have key : ∀ (a b X Y : Nat), X % 2 = 1 → Y % 2 = 1 → X * 2 ^ a = Y * 2 ^ b → a ≤ b := by
    intro a b X Y hX hY h
    rcases Nat.lt_or_ge b a with k | k
    · exfalso
      obtain ⟨d, rfl⟩ : ∃ d, a = b + (d + 1) := ⟨a - b - 1, by omega⟩
      rw [Nat.pow_add, Nat.mul_comm (2 ^ b), ← Nat.mul_assoc] at h
      have := Nat.eq_of_mul_eq_mul_right (Nat.two_pow_pos b) h
      rw [Nat.pow_succ, ← Nat.mul_assoc] at this
      omega
    · exact k
  have h1 := key a b X Y hX hY h
  have h2 := key b a Y X hY hX h.symm
  have e : a = b := by omega
  subst e
  exact ⟨Nat.eq_of_mul_eq_mul_right (Nat.two_pow_pos a) h, rfl⟩

theorem zv_inj {n m : Bool} {X Y : Nat} {e f : Int} (FX : Frm n X e) (FY : Frm m Y f) (B : Int) (hB : B ≤ -1048576) (h : zv B (n, X, e) = zv B (m, Y, f)) : n = m ∧ X = Y ∧ e = f := by
  have hx := FX.down
  have hy := FY.down
  unfold zv at h
  simp only at h
  have hpX : 0 < 2 ^ (e - B).toNat := Nat.two_pow_pos _
  have hpY : 0 < 2 ^ (f - B).toNat := Nat.two_pow_pos _
  rcases FX.odd with oX | ⟨rfl, rfl, rfl⟩
  · rcases FY.odd with oY | ⟨rfl, rfl, rfl⟩
    · have pX : 0 < X * 2 ^ (e - B).toNat := Nat.mul_pos (by omega) hpX
      have pY : 0 < Y * 2 ^ (f - B).toNat := Nat.mul_pos (by omega) hpY
      have hn : n = m := by
        generalize X * 2 ^ (e - B).toNat = P at h pX
        generalize Y * 2 ^ (f - B).toNat = Q at h pY
        cases n <;> cases m <;> first | rfl | (simp only [sg1, Bool.false_eq_true, if_true, if_false] at h; omega)
      subst hn
      have hPQ : X * 2 ^ (e - B).toNat = Y * 2 ^ (f - B).toNat := by
        generalize X * 2 ^ (e - B).toNat = P at h
        generalize Y * 2 ^ (f - B).toNat = Q at h
        cases n <;> (simp only [sg1, Bool.false_eq_true, if_true, if_false] at h; omega)
      obtain ⟨h1, h2⟩ := odd_pow _ _ oX oY hPQ
      exact ⟨rfl, h1, by omega⟩
    · exfalso
      have pX : 0 < X * 2 ^ (e - B).toNat := Nat.mul_pos (by omega) hpX
      generalize X * 2 ^ (e - B).toNat = P at h pX
      rw [Nat.zero_mul] at h
      cases n <;> (simp only [sg1, Bool.false_eq_true, if_true, if_false] at h; omega)
  · rcases FY.odd with oY | ⟨rfl, rfl, rfl⟩
    · exfalso
      have pY : 0 < Y * 2 ^ (f - B).toNat := Nat.mul_pos (by omega) hpY
      generalize Y * 2 ^ (f - B).toNat = Q at h pY
      rw [Nat.zero_mul] at h
      cases m <;> (simp only [sg1, Bool.false_eq_true, if_true, if_false] at h; omega)
    · exact ⟨rfl, rfl, rfl⟩
end Go.Proofs.YtfaaidnhmddibaaDoor
