import Derived.Test.YthilnddhehbjiaaDoorD36
import Derived.Test.YthilnddhehbjiaaDoorD33x
import Derived.Test.YthilnddhehbjiaaDoorD21x
/- Dyads as whole numbers over a common power: sums, products, what is alike, how they stand. -/
namespace Go.Proofs.YthilnddhehbjiaaDoor
open Go.RowKit
set_option linter.unusedVariables false
set_option maxRecDepth 20000

/-- A sign. -/
def sg1 (n : Bool) : Int := if n then -1 else 1
/-- The value of (n, X, e), in units of 2^B. -/
def zv (B : Int) (x : Bool × Nat × Int) : Int := sg1 x.1 * ((x.2.1 * 2 ^ (x.2.2 - B).toNat : Nat) : Int)

theorem pow_split (e l B : Int) (h : B ≤ e) (hl : 0 ≤ l) : (2 : Nat) ^ (e + l - B).toNat = 2 ^ l.toNat * 2 ^ (e - B).toNat := by
  rw [← Nat.pow_add]; congr 1; omega

theorem zv_mkS {n : Bool} {X : Nat} {e : Int} {x : Bool × Nat × Int} (h : mkS n X e = some x) (B : Int) (hB : X = 0 ∨ B ≤ e) : zv B x = sg1 n * ((X * 2 ^ (e - B).toNat : Nat) : Int) := by
  unfold mkS at h
  by_cases h0 : X = 0
  · rw [if_pos h0] at h
    cases h
    subst h0
    simp [zv]
  · rw [if_neg h0] at h
    split at h
    · cases h
    · cases h
      have hB' : B ≤ e := by rcases hB with h | h; exact absurd h h0; exact h
      obtain ⟨m, hm, hd, _⟩ := odd_part X h0
      show sg1 n * ((X / 2 ^ lo X * 2 ^ (e + (lo X : Int) - B).toNat : Nat) : Int) = _
      rw [pow_split e (lo X) B hB' (by omega), Int.toNat_natCast, ← Nat.mul_assoc]
      have hx : X / 2 ^ lo X * 2 ^ lo X = X := by rw [hd]; rw [Nat.mul_comm]; exact hm.symm
      rw [hx]

theorem zv_up {x : Bool × Nat × Int} (B C : Int) (hB : x.2.1 = 0 ∨ B ≤ x.2.2) (hC : C ≤ B) : zv C x = zv B x * ((2 ^ (B - C).toNat : Nat) : Int) := by
  unfold zv
  rcases hB with h | h
  · rw [h]; simp
  · rw [show (x.2.2 - C).toNat = (x.2.2 - B).toNat + (B - C).toNat by omega, Nat.pow_add, ← Nat.mul_assoc, Int.natCast_mul, Int.mul_assoc]

theorem sg1_ne {n m : Bool} (h : ¬ n = m) : sg1 m = -sg1 n := by cases n <;> cases m <;> first | exact absurd rfl h | rfl
theorem sg1_not (n : Bool) : sg1 (!n) = -sg1 n := by cases n <;> rfl
theorem sg1_bne (n m : Bool) : sg1 (n != m) = sg1 n * sg1 m := by cases n <;> cases m <;> rfl

theorem zv_addUp {n m : Bool} {X Y : Nat} {e f : Int} {z : Bool × Nat × Int} (h : addUp n X e m Y f = some z) (hfe : f ≤ e) (B : Int) (hB : B ≤ f) : zv B z = zv B (n, X, e) + zv B (m, Y, f) := by
  unfold addUp at h
  split at h
  · cases h
  · have key : X * 2 ^ (e - f).toNat * 2 ^ (f - B).toNat = X * 2 ^ (e - B).toNat := by
      rw [Nat.mul_assoc, ← Nat.pow_add, show (e - f).toNat + (f - B).toNat = (e - B).toNat by omega]
    show zv B z = sg1 n * ((X * 2 ^ (e - B).toNat : Nat) : Int) + sg1 m * ((Y * 2 ^ (f - B).toNat : Nat) : Int)
    generalize 2 ^ (e - f).toNat = P at h key
    split at h
    · rename_i hnm
      rw [zv_mkS h B (.inr hB), hnm, ← Int.mul_add, Nat.add_mul, key, Int.natCast_add]
    · rename_i hnm
      split at h
      · rename_i hle
        rw [zv_mkS h B (.inr hB), sg1_ne hnm, Nat.sub_mul, key, Int.ofNat_sub (by rw [← key]; exact Nat.mul_le_mul_right _ hle), Int.mul_sub, Int.neg_mul]
        omega
      · rename_i hle
        rw [zv_mkS h B (.inr hB), sg1_not, sg1_ne hnm, Nat.sub_mul, key, Int.ofNat_sub (by rw [← key]; exact Nat.mul_le_mul_right _ (by omega)), Int.mul_sub, Int.neg_mul, Int.neg_mul]
        omega

theorem zv_zero {x : Bool × Nat × Int} (B : Int) (h : x.2.1 = 0) : zv B x = 0 := by unfold zv; rw [h]; simp

theorem zv_addF {x y z : Bool × Nat × Int} (h : addF x y = some z) (B : Int) (hx : x.2.1 = 0 ∨ B ≤ x.2.2) (hy : y.2.1 = 0 ∨ B ≤ y.2.2) : zv B z = zv B x + zv B y := by
  obtain ⟨n, X, e⟩ := x
  obtain ⟨m, Y, f⟩ := y
  unfold addF at h
  simp only at h hx hy
  by_cases h0 : X = 0
  · rw [if_pos h0] at h
    cases h
    rw [zv_zero (x := (n, X, e)) B h0, Int.zero_add]
  · rw [if_neg h0] at h
    by_cases h1 : Y = 0
    · rw [if_pos h1] at h
      cases h
      rw [zv_zero (x := (m, Y, f)) B h1, Int.add_zero]
    · rw [if_neg h1] at h
      have hx' : B ≤ e := by rcases hx with k | k; exact absurd k h0; exact k
      have hy' : B ≤ f := by rcases hy with k | k; exact absurd k h1; exact k
      by_cases h2 : e < f
      · rw [if_pos h2] at h
        rw [zv_addUp h (by omega) B hx', Int.add_comm]
      · rw [if_neg h2] at h
        exact zv_addUp h (by omega) B hy'

theorem zv_mulF {x y z : Bool × Nat × Int} (h : mulF x y = some z) (B C : Int) (hx : x.2.1 = 0 ∨ B ≤ x.2.2) (hy : y.2.1 = 0 ∨ C ≤ y.2.2) : zv (B + C) z = zv B x * zv C y := by
  obtain ⟨n, X, e⟩ := x
  obtain ⟨m, Y, f⟩ := y
  unfold mulF at h
  simp only at h hx hy
  by_cases h0 : X = 0
  · subst h0
    rw [Nat.zero_mul] at h
    rw [zv_mkS h _ (.inl rfl), zv_zero (x := (n, 0, e)) B rfl]
    simp
  · by_cases h1 : Y = 0
    · subst h1
      rw [Nat.mul_zero] at h
      rw [zv_mkS h _ (.inl rfl), zv_zero (x := (m, 0, f)) C rfl]
      simp
    · have hx' : B ≤ e := by rcases hx with k | k; exact absurd k h0; exact k
      have hy' : C ≤ f := by rcases hy with k | k; exact absurd k h1; exact k
      rw [zv_mkS h _ (.inr (by omega)), sg1_bne]
      unfold zv
      simp only
      rw [show (e + f - (B + C)).toNat = (e - B).toNat + (f - C).toNat by omega, Nat.pow_add]
      rw [show X * Y * (2 ^ (e - B).toNat * 2 ^ (f - C).toNat) = (X * 2 ^ (e - B).toNat) * (Y * 2 ^ (f - C).toNat) by rw [Nat.mul_mul_mul_comm]]
      rw [Int.natCast_mul, Int.mul_assoc, Int.mul_assoc]
      congr 1
      rw [← Int.mul_assoc, ← Int.mul_assoc]
      congr 1
      exact Int.mul_comm _ _

/-- What has one value has one form. -/
theorem odd_pow {X Y : Nat} (a b : Nat) (hX : X % 2 = 1) (hY : Y % 2 = 1) (h : X * 2 ^ a = Y * 2 ^ b) : X = Y ∧ a = b := by
  have key : ∀ (a b X Y : Nat), X % 2 = 1 → Y % 2 = 1 → X * 2 ^ a = Y * 2 ^ b → a ≤ b := by
    intro a b X Y hX hY h
    rcases Nat.lt_or_ge b a with k | k
    · exfalso
      obtain ⟨d, rfl⟩ : ∃ d, a = b + (d + 1) := ⟨a - b - 1, by omega⟩
      rw [Nat.pow_add, Nat.mul_comm (2 ^ b), ← Nat.mul_assoc] at h
      have := Nat.eq_of_mul_eq_mul_right (Nat.two_pow_pos b) h
      rw [Nat.pow_succ, ← Nat.mul_assoc] at this
      omega
    · exact k
  have h1 := key a b X Y hX hY h
  have h2 := key b a Y X hY hX h.symm
  have e : a = b := by omega
  subst e
  exact ⟨Nat.eq_of_mul_eq_mul_right (Nat.two_pow_pos a) h, rfl⟩

theorem zv_inj {n m : Bool} {X Y : Nat} {e f : Int} (FX : Frm n X e) (FY : Frm m Y f) (B : Int) (hB : B ≤ -1048576) (h : zv B (n, X, e) = zv B (m, Y, f)) : n = m ∧ X = Y ∧ e = f := by
  have hx := FX.down
  have hy := FY.down
  unfold zv at h
  simp only at h
  have hpX : 0 < 2 ^ (e - B).toNat := Nat.two_pow_pos _
  have hpY : 0 < 2 ^ (f - B).toNat := Nat.two_pow_pos _
  rcases FX.odd with oX | ⟨rfl, rfl, rfl⟩
  · rcases FY.odd with oY | ⟨rfl, rfl, rfl⟩
    · have pX : 0 < X * 2 ^ (e - B).toNat := Nat.mul_pos (by omega) hpX
      have pY : 0 < Y * 2 ^ (f - B).toNat := Nat.mul_pos (by omega) hpY
      have hn : n = m := by
        generalize X * 2 ^ (e - B).toNat = P at h pX
        generalize Y * 2 ^ (f - B).toNat = Q at h pY
        cases n <;> cases m <;> first | rfl | (simp only [sg1, Bool.false_eq_true, if_true, if_false] at h; omega)
      subst hn
      have hPQ : X * 2 ^ (e - B).toNat = Y * 2 ^ (f - B).toNat := by
        generalize X * 2 ^ (e - B).toNat = P at h
        generalize Y * 2 ^ (f - B).toNat = Q at h
        cases n <;> (simp only [sg1, Bool.false_eq_true, if_true, if_false] at h; omega)
      obtain ⟨h1, h2⟩ := odd_pow _ _ oX oY hPQ
      exact ⟨rfl, h1, by omega⟩
    · exfalso
      have pX : 0 < X * 2 ^ (e - B).toNat := Nat.mul_pos (by omega) hpX
      generalize X * 2 ^ (e - B).toNat = P at h pX
      rw [Nat.zero_mul] at h
      cases n <;> (simp only [sg1, Bool.false_eq_true, if_true, if_false] at h; omega)
  · rcases FY.odd with oY | ⟨rfl, rfl, rfl⟩
    · exfalso
      have pY : 0 < Y * 2 ^ (f - B).toNat := Nat.mul_pos (by omega) hpY
      generalize Y * 2 ^ (f - B).toNat = Q at h pY
      rw [Nat.zero_mul] at h
      cases m <;> (simp only [sg1, Bool.false_eq_true, if_true, if_false] at h; omega)
    · exact ⟨rfl, rfl, rfl⟩
end Go.Proofs.YthilnddhehbjiaaDoor

/- Dyads are a ring; Cmp is the Sign of Sub. -/
namespace Go.Proofs.YthilnddhehbjiaaDoor
open Go.RowKit
set_option linter.unusedVariables false
set_option maxRecDepth 20000

/-- What an answer is when it is handed in again. -/
def rf (o : Option (Bool × Nat × Int)) : Option (Bool × Nat × Int) := mkS (dN o) (dX o) (dE o)
theorem mkS_idem {n : Bool} {X : Nat} {e : Int} (F : Frm n X e) : mkS n X e = some (n, X, e) := by
  unfold mkS
  rcases F.odd with h | ⟨rfl, rfl, rfl⟩
  · have h1 := F.size; have h2 := F.up; have h3 := F.down
    rw [if_neg (by omega), lo_odd1 h, if_neg (by omega), Nat.pow_zero, Nat.div_one]
    simp
  · rw [if_pos rfl]
theorem rf_some {o : Option (Bool × Nat × Int)} {n : Bool} {X : Nat} {e : Int} (h : o = some (n, X, e)) (F : Frm n X e) : rf o = some (n, X, e) := by
  subst h; exact mkS_idem F
theorem addUp_frm {n m : Bool} {X Y : Nat} {e f : Int} {n' : Bool} {Z : Nat} {g : Int} (h : addUp n X e m Y f = some (n', Z, g)) : Frm n' Z g := by
  unfold addUp at h
  split at h
  · cases h
  · split at h
    · exact mkS_frm h
    · split at h
      · exact mkS_frm h
      · exact mkS_frm h
theorem addF_frm {n m : Bool} {X Y : Nat} {e f : Int} (FX : Frm n X e) (FY : Frm m Y f) {n' : Bool} {Z : Nat} {g : Int} (h : addF (n, X, e) (m, Y, f) = some (n', Z, g)) : Frm n' Z g := by
  unfold addF at h
  simp only at h
  split at h
  · cases h; exact FY
  · split at h
    · cases h; exact FX
    · split at h
      · exact addUp_frm h
      · exact addUp_frm h
theorem addD_some {o p : Option (Bool × Nat × Int)} (h : (addD o p).isSome = true) : ∃ x y z, o = some x ∧ p = some y ∧ addF x y = some z ∧ addD o p = some z := by
  cases o with
  | none => cases h
  | some x =>
    cases p with
    | none => cases h
    | some y =>
      obtain ⟨z, hz⟩ := Option.isSome_iff_exists.1 h
      exact ⟨x, y, z, rfl, rfl, hz, hz⟩
theorem mulD_some {o p : Option (Bool × Nat × Int)} (h : (mulD o p).isSome = true) : ∃ x y z, o = some x ∧ p = some y ∧ mulF x y = some z ∧ mulD o p = some z := by
  cases o with
  | none => cases h
  | some x =>
    cases p with
    | none => cases h
    | some y =>
      obtain ⟨z, hz⟩ := Option.isSome_iff_exists.1 h
      exact ⟨x, y, z, rfl, rfl, hz, hz⟩

/-- A form whose value is known. -/
structure Fv (B : Int) (o : Option (Bool × Nat × Int)) (z : Int) : Prop where
  ex : ∃ n X e, o = some (n, X, e) ∧ Frm n X e ∧ zv B (n, X, e) = z
theorem Frm.base {n : Bool} {X : Nat} {e : Int} (F : Frm n X e) {B : Int} (hB : B ≤ -1048576) : X = 0 ∨ B ≤ e := .inr (by have := F.down; omega)
theorem Fv.rf {B : Int} {o : Option (Bool × Nat × Int)} {z : Int} (h : Fv B o z) : Fv B (rf o) z := by
  obtain ⟨n, X, e, rfl, F, hz⟩ := h.ex
  exact ⟨n, X, e, mkS_idem F, F, hz⟩
theorem Fv.add {B : Int} (hB : B ≤ -1048576) {o p : Option (Bool × Nat × Int)} {x y : Int} (h1 : Fv B o x) (h2 : Fv B p y) (h : (addD o p).isSome = true) : Fv B (addD o p) (x + y) := by
  obtain ⟨n, X, e, rfl, F, rfl⟩ := h1.ex
  obtain ⟨m, Y, f, rfl, G, rfl⟩ := h2.ex
  obtain ⟨_, _, z, e1, e2, hz, hd⟩ := addD_some h
  cases e1; cases e2
  obtain ⟨n', Z, g⟩ := z
  exact ⟨n', Z, g, hd, addF_frm F G hz, zv_addF hz B (F.base hB) (G.base hB)⟩
theorem Fv.mul {B C : Int} (hB : B ≤ -1048576) (hC : C ≤ -1048576) {o p : Option (Bool × Nat × Int)} {x y : Int} (h1 : Fv B o x) (h2 : Fv C p y) (h : (mulD o p).isSome = true) : Fv (B + C) (mulD o p) (x * y) := by
  obtain ⟨n, X, e, rfl, F, rfl⟩ := h1.ex
  obtain ⟨m, Y, f, rfl, G, rfl⟩ := h2.ex
  obtain ⟨_, _, z, e1, e2, hz, hd⟩ := mulD_some h
  cases e1; cases e2
  obtain ⟨n', Z, g⟩ := z
  exact ⟨n', Z, g, hd, mkS_frm hz, zv_mulF hz B C (F.base hB) (G.base hC)⟩
theorem Fv.same {B : Int} (hB : B ≤ -1048576) {o p : Option (Bool × Nat × Int)} {x y : Int} (h1 : Fv B o x) (h2 : Fv B p y) (h : x = y) : dN o = dN p ∧ dX o = dX p ∧ dE o = dE p := by
  obtain ⟨n, X, e, rfl, F, rfl⟩ := h1.ex
  obtain ⟨m, Y, f, rfl, G, rfl⟩ := h2.ex
  exact zv_inj F G B hB h
theorem Fv.raw {n : Bool} {X : Nat} {e B : Int} (hB : B ≤ e) (h : (mkS n X e).isSome = true) : Fv B (mkS n X e) (sg1 n * ((X * 2 ^ (e - B).toNat : Nat) : Int)) := by
  obtain ⟨⟨n', Y, f⟩, hz⟩ := Option.isSome_iff_exists.1 h
  exact ⟨n', Y, f, hz, mkS_frm hz, zv_mkS hz B (.inr hB)⟩
theorem Fv.neg {n : Bool} {X : Nat} {e B : Int} (hB : B ≤ e) (h : (mkS n X e).isSome = true) : Fv B (mkS (!n) X e) (-(sg1 n * ((X * 2 ^ (e - B).toNat : Nat) : Int))) := by
  have h2 : (mkS (!n) X e).isSome = true := by
    unfold mkS at h ⊢
    split
    · rfl
    · rename_i h0
      rw [if_neg h0] at h
      split
      · rename_i h1; rw [if_pos h1] at h; cases h
      · rfl
  have := Fv.raw hB h2
  rw [sg1_not, Int.neg_mul] at this
  exact this

/-- All of them. -/
theorem ring_eq (nA : Bool) (XA : Nat) (eA : Int) (nB : Bool) (XB : Nat) (eB : Int) (nC : Bool) (XC : Nat) (eC : Int)
    (h1 : (addD (mkS nA XA eA) (mkS nB XB eB)).isSome = true) (h2 : (addD (mkS nB XB eB) (mkS nC XC eC)).isSome = true)
    (h3 : (addD (rf (addD (mkS nA XA eA) (mkS nB XB eB))) (mkS nC XC eC)).isSome = true) (h4 : (addD (mkS nA XA eA) (rf (addD (mkS nB XB eB) (mkS nC XC eC)))).isSome = true)
    (h5 : (mulD (mkS nA XA eA) (mkS nB XB eB)).isSome = true) (h6 : (mulD (rf (mulD (mkS nA XA eA) (mkS nB XB eB))) (mkS nC XC eC)).isSome = true)
    (h7 : (mulD (mkS nB XB eB) (mkS nC XC eC)).isSome = true) (h8 : (mulD (mkS nA XA eA) (rf (mulD (mkS nB XB eB) (mkS nC XC eC)))).isSome = true)
    (h9 : (mulD (mkS nA XA eA) (rf (addD (mkS nB XB eB) (mkS nC XC eC)))).isSome = true)
    (h11 : (mulD (mkS nA XA eA) (mkS nC XC eC)).isSome = true) (h12 : (addD (rf (mulD (mkS nA XA eA) (mkS nB XB eB))) (rf (mulD (mkS nA XA eA) (mkS nC XC eC)))).isSome = true)
    (h13 : (addD (rf (addD (mkS nA XA eA) (mkS nB XB eB))) (rf (mkS (!nB) XB eB))).isSome = true) :
    (dN (addD (rf (addD (mkS nA XA eA) (mkS nB XB eB))) (mkS nC XC eC)) = dN (addD (mkS nA XA eA) (rf (addD (mkS nB XB eB) (mkS nC XC eC)))) ∧ dX (addD (rf (addD (mkS nA XA eA) (mkS nB XB eB))) (mkS nC XC eC)) = dX (addD (mkS nA XA eA) (rf (addD (mkS nB XB eB) (mkS nC XC eC)))) ∧ dE (addD (rf (addD (mkS nA XA eA) (mkS nB XB eB))) (mkS nC XC eC)) = dE (addD (mkS nA XA eA) (rf (addD (mkS nB XB eB) (mkS nC XC eC))))) ∧
    (dN (mulD (rf (mulD (mkS nA XA eA) (mkS nB XB eB))) (mkS nC XC eC)) = dN (mulD (mkS nA XA eA) (rf (mulD (mkS nB XB eB) (mkS nC XC eC)))) ∧ dX (mulD (rf (mulD (mkS nA XA eA) (mkS nB XB eB))) (mkS nC XC eC)) = dX (mulD (mkS nA XA eA) (rf (mulD (mkS nB XB eB) (mkS nC XC eC)))) ∧ dE (mulD (rf (mulD (mkS nA XA eA) (mkS nB XB eB))) (mkS nC XC eC)) = dE (mulD (mkS nA XA eA) (rf (mulD (mkS nB XB eB) (mkS nC XC eC))))) ∧
    (dN (mulD (mkS nA XA eA) (rf (addD (mkS nB XB eB) (mkS nC XC eC)))) = dN (addD (rf (mulD (mkS nA XA eA) (mkS nB XB eB))) (rf (mulD (mkS nA XA eA) (mkS nC XC eC)))) ∧ dX (mulD (mkS nA XA eA) (rf (addD (mkS nB XB eB) (mkS nC XC eC)))) = dX (addD (rf (mulD (mkS nA XA eA) (mkS nB XB eB))) (rf (mulD (mkS nA XA eA) (mkS nC XC eC)))) ∧ dE (mulD (mkS nA XA eA) (rf (addD (mkS nB XB eB) (mkS nC XC eC)))) = dE (addD (rf (mulD (mkS nA XA eA) (mkS nB XB eB))) (rf (mulD (mkS nA XA eA) (mkS nC XC eC))))) ∧
    (dN (addD (rf (addD (mkS nA XA eA) (mkS nB XB eB))) (rf (mkS (!nB) XB eB))) = dN (mkS nA XA eA) ∧ dX (addD (rf (addD (mkS nA XA eA) (mkS nB XB eB))) (rf (mkS (!nB) XB eB))) = dX (mkS nA XA eA) ∧ dE (addD (rf (addD (mkS nA XA eA) (mkS nB XB eB))) (rf (mkS (!nB) XB eB))) = dE (mkS nA XA eA)) := by
  obtain ⟨B, hB⟩ : ∃ B : Int, B ≤ -1048576 ∧ B ≤ eA ∧ B ≤ eB ∧ B ≤ eC := ⟨min (-1048576) (min eA (min eB eC)), by omega⟩
  obtain ⟨hB0, hBA, hBB, hBC⟩ := hB
  have sA : (mkS nA XA eA).isSome = true := by obtain ⟨x, y, z, e1, e2, _⟩ := addD_some h1; rw [e1]; rfl
  have sB : (mkS nB XB eB).isSome = true := by obtain ⟨x, y, z, e1, e2, _⟩ := addD_some h1; rw [e2]; rfl
  have sC : (mkS nC XC eC).isSome = true := by obtain ⟨x, y, z, e1, e2, _⟩ := addD_some h2; rw [e2]; rfl
  have FA := Fv.raw hBA sA
  have FB := Fv.raw hBB sB
  have FC := Fv.raw hBC sC
  have FN := Fv.neg hBB sB
  generalize sg1 nA * ((XA * 2 ^ (eA - B).toNat : Nat) : Int) = a at FA
  generalize sg1 nB * ((XB * 2 ^ (eB - B).toNat : Nat) : Int) = b at FB FN
  generalize sg1 nC * ((XC * 2 ^ (eC - B).toNat : Nat) : Int) = c at FC
  have F1 := FA.add hB0 FB h1
  have F2 := FB.add hB0 FC h2
  have F3 := F1.rf.add hB0 FC h3
  have F4 := FA.add hB0 F2.rf h4
  have F5 := FA.mul hB0 hB0 FB h5
  have F6 := F5.rf.mul (by omega) hB0 FC h6
  have F7 := FB.mul hB0 hB0 FC h7
  have F8 := FA.mul hB0 (by omega) F7.rf h8
  have F9 := FA.mul hB0 hB0 F2.rf h9
  have F11 := FA.mul hB0 hB0 FC h11
  have F12 := F5.rf.add (by omega) F11.rf h12
  have F13 := F1.rf.add hB0 FN.rf h13
  refine ⟨F3.same hB0 F4 (by omega), ?_, F9.same (by omega) F12 (by rw [Int.mul_add]), F13.same hB0 FA (by omega)⟩
  rw [Int.add_assoc] at F6
  exact F6.same (by omega) F8 (by rw [Int.mul_assoc])

theorem cmpI_scale (x y k : Nat) (hk : 0 < k) : cmpI (x * k) (y * k) = cmpI x y := by
  unfold cmpI
  simp only [Nat.mul_lt_mul_right hk]
theorem cmpP_base (X : Nat) (e : Int) (Y : Nat) (f B : Int) (h1 : B ≤ e) (h2 : B ≤ f) : cmpP X e Y f = cmpI (X * 2 ^ (e - B).toNat) (Y * 2 ^ (f - B).toNat) := by
  unfold cmpP
  by_cases h : e < f
  · rw [if_pos h, ← cmpI_scale _ _ (2 ^ (e - B).toNat) (Nat.two_pow_pos _), Nat.mul_assoc, ← Nat.pow_add, show (f - e).toNat + (e - B).toNat = (f - B).toNat by omega]
  · rw [if_neg h, ← cmpI_scale _ _ (2 ^ (f - B).toNat) (Nat.two_pow_pos _), Nat.mul_assoc, ← Nat.pow_add, show (e - f).toNat + (f - B).toNat = (e - B).toNat by omega]
theorem pos_iff (X k : Nat) : X * 2 ^ k = 0 ↔ X = 0 := by
  constructor
  · intro h
    rcases Nat.mul_eq_zero.1 h with h | h
    · exact h
    · have := Nat.two_pow_pos k; omega
  · rintro rfl; exact Nat.zero_mul _
theorem cmpV_z (n : Bool) (X : Nat) (e : Int) (m : Bool) (Y : Nat) (f B : Int) (h1 : B ≤ e) (h2 : B ≤ f) : cmpV n X e m Y f = cmpZ (sg1 n * ((X * 2 ^ (e - B).toNat : Nat) : Int)) (sg1 m * ((Y * 2 ^ (f - B).toNat : Nat) : Int)) := by
  unfold cmpV
  rw [cmpP_base X e Y f B h1 h2, cmpP_base Y f X e B h2 h1]
  have p1 := pos_iff X (e - B).toNat
  have p2 := pos_iff Y (f - B).toNat
  generalize X * 2 ^ (e - B).toNat = P at p1
  generalize Y * 2 ^ (f - B).toNat = Q at p2
  unfold sgn cmpZ cmpI sg1
  have q1 : X = 0 ∧ P = 0 ∨ X ≠ 0 ∧ 0 < P := by
    by_cases h : X = 0
    · exact .inl ⟨h, p1.2 h⟩
    · exact .inr ⟨h, Nat.pos_of_ne_zero fun k => h (p1.1 k)⟩
  have q2 : Y = 0 ∧ Q = 0 ∨ Y ≠ 0 ∧ 0 < Q := by
    by_cases h : Y = 0
    · exact .inl ⟨h, p2.2 h⟩
    · exact .inr ⟨h, Nat.pos_of_ne_zero fun k => h (p2.1 k)⟩
  clear p1 p2
  rcases q1 with ⟨hX, hP⟩ | ⟨hX, hP⟩ <;> rcases q2 with ⟨hY, hQ⟩ | ⟨hY, hQ⟩ <;> cases n <;> cases m <;> simp only [hX, hY, if_true, if_false, Bool.false_eq_true] <;> (repeat' split) <;> omega
theorem sgn_z (n : Bool) (X : Nat) (e B : Int) : sgn n X = cmpZ (zv B (n, X, e)) 0 := by
  unfold zv
  simp only
  have p1 := pos_iff X (e - B).toNat
  generalize X * 2 ^ (e - B).toNat = P at p1
  unfold sgn cmpZ sg1
  have q1 : X = 0 ∧ P = 0 ∨ X ≠ 0 ∧ 0 < P := by
    by_cases h : X = 0
    · exact .inl ⟨h, p1.2 h⟩
    · exact .inr ⟨h, Nat.pos_of_ne_zero fun k => h (p1.1 k)⟩
  clear p1
  rcases q1 with ⟨hX, hP⟩ | ⟨hX, hP⟩ <;> cases n <;> simp only [hX, if_true, if_false, Bool.false_eq_true] <;> (repeat' split) <;> omega
theorem cmpZ_sub (x y : Int) : cmpZ (x + -y) 0 = cmpZ x y := by
  unfold cmpZ
  (repeat' split) <;> omega
theorem sub_sign (nA : Bool) (XA : Nat) (eA : Int) (nB : Bool) (XB : Nat) (eB : Int) (sB : (mkS nB XB eB).isSome = true) (h : (addD (mkS nA XA eA) (mkS (!nB) XB eB)).isSome = true) :
    sgn (dN (addD (mkS nA XA eA) (mkS (!nB) XB eB))) (dX (addD (mkS nA XA eA) (mkS (!nB) XB eB))) = cmpV nA XA eA nB XB eB := by
  obtain ⟨B, hB⟩ : ∃ B : Int, B ≤ -1048576 ∧ B ≤ eA ∧ B ≤ eB := ⟨min (-1048576) (min eA eB), by omega⟩
  obtain ⟨hB0, hBA, hBB⟩ := hB
  have sA : (mkS nA XA eA).isSome = true := by obtain ⟨x, y, z, e1, e2, _⟩ := addD_some h; rw [e1]; rfl
  have FA := Fv.raw hBA sA
  have FN := Fv.neg hBB sB
  have F := FA.add hB0 FN h
  obtain ⟨n, X, e, ho, _, hz⟩ := F.ex
  rw [ho]
  show sgn n X = _
  rw [sgn_z n X e B, hz, cmpZ_sub, ← cmpV_z nA XA eA nB XB eB B hBA hBB]
end Go.Proofs.YthilnddhehbjiaaDoor

/- Where a value lies among the numbers of 64 bits: plain mathematics of rounding. -/
namespace Go.Proofs.YthilnddhehbjiaaDoor
open Go.RowKit
set_option linter.unusedVariables false
set_option maxRecDepth 20000

/-- How the place of a value stands to it (units of 2^Bs). -/
theorem plc_floor (dg : Nat) (least top : Int) (X : Nat) (e : Int) (ho : X % 2 = 1) (Bs : Int) (h1 : Bs ≤ e) (h2 : Bs ≤ least) (hin : ¬ top < e + (bl X : Int)) :
    Bs ≤ (plc dg least top X e).2.1 ∧
    (((plc dg least top X e).2.2.1 = true ∧ X * 2 ^ (e - Bs).toNat = (plc dg least top X e).1 * 2 ^ ((plc dg least top X e).2.1 - Bs).toNat) ∨
     ((plc dg least top X e).2.2.1 = false ∧ (plc dg least top X e).1 * 2 ^ ((plc dg least top X e).2.1 - Bs).toNat < X * 2 ^ (e - Bs).toNat ∧ X * 2 ^ (e - Bs).toNat < ((plc dg least top X e).1 + 1) * 2 ^ ((plc dg least top X e).2.1 - Bs).toNat ∧
      ((plc dg least top X e).2.2.2 = -1 ∧ 2 * (X * 2 ^ (e - Bs).toNat) < (2 * (plc dg least top X e).1 + 1) * 2 ^ ((plc dg least top X e).2.1 - Bs).toNat ∨
       (plc dg least top X e).2.2.2 = 0 ∧ 2 * (X * 2 ^ (e - Bs).toNat) = (2 * (plc dg least top X e).1 + 1) * 2 ^ ((plc dg least top X e).2.1 - Bs).toNat ∨
       (plc dg least top X e).2.2.2 = 1 ∧ (2 * (plc dg least top X e).1 + 1) * 2 ^ ((plc dg least top X e).2.1 - Bs).toNat < 2 * (X * 2 ^ (e - Bs).toNat)))) := by
  unfold plc
  rw [if_neg hin]
  simp only
  obtain ⟨ex, hex⟩ : ∃ ex, max (e + (bl X : Int) - (dg : Int)) least = ex := ⟨_, rfl⟩
  rw [hex]
  have hle : least ≤ ex := by omega
  by_cases hoff : ex - e ≤ 0
  · rw [if_pos hoff]
    simp only
    refine ⟨by omega, .inl ⟨trivial, ?_⟩⟩
    rw [Nat.mul_assoc, ← Nat.pow_add, show (-(ex - e)).toNat + (ex - Bs).toNat = (e - Bs).toNat by omega]
  · rw [if_neg hoff]
    simp only
    obtain ⟨k, hk⟩ : ∃ k : Nat, (ex - e).toNat = k := ⟨_, rfl⟩
    have hk0 : 0 < k := by omega
    have hexB : (ex - Bs).toNat = k + (e - Bs).toNat := by omega
    have hk1 : (ex - e - 1).toNat = k - 1 := by omega
    rw [hk, hexB, hk1, Nat.pow_add]
    obtain ⟨Q, hQ⟩ : ∃ Q, 2 ^ (e - Bs).toNat = Q := ⟨_, rfl⟩
    have hQ0 : 0 < Q := by rw [← hQ]; exact Nat.two_pow_pos _
    rw [hQ]
    have hdm := Nat.div_add_mod X (2 ^ k)
    have hmod := Nat.mod_lt X (Nat.two_pow_pos k)
    obtain ⟨F, hF⟩ : ∃ F, X / 2 ^ k = F := ⟨_, rfl⟩
    obtain ⟨R, hR⟩ : ∃ R, X % 2 ^ k = R := ⟨_, rfl⟩
    have hhalf : 2 ^ k = 2 * 2 ^ (k - 1) := by rw [show k = k - 1 + 1 by omega, Nat.pow_succ, Nat.mul_comm]; rfl
    have hbit : X / 2 ^ (k - 1) % 2 = R / 2 ^ (k - 1) := by
      rw [← hR, hhalf]
      rw [Nat.mul_comm 2, Nat.mod_mul_right_div_self]
    obtain ⟨Hf, hHf⟩ : ∃ Hf, 2 ^ (k - 1) = Hf := ⟨_, rfl⟩
    have hHf0 : 0 < Hf := by rw [← hHf]; exact Nat.two_pow_pos _
    rw [hHf] at hhalf hbit ⊢
    rw [hbit]
    rw [hhalf] at hdm hmod hF hR ⊢
    rw [hF, hR] at hdm
    rw [hR] at hmod
    rw [hF]
    have hR0 : R ≠ 0 := by
      intro h
      rw [h, Nat.add_zero, Nat.mul_assoc] at hdm
      omega
    have e1 : F * (2 * Hf * Q) = (F * (2 * Hf)) * Q := (Nat.mul_assoc _ _ _).symm
    have e2 : (F + 1) * (2 * Hf * Q) = ((F + 1) * (2 * Hf)) * Q := (Nat.mul_assoc _ _ _).symm
    have e3 : (2 * F + 1) * (2 * Hf * Q) = (2 * (F * (2 * Hf)) + 2 * Hf) * Q := by
      rw [Nat.add_mul, Nat.add_mul, Nat.one_mul, Nat.mul_assoc 2 F, ← Nat.mul_assoc F, Nat.mul_assoc 2 (F * (2 * Hf)) Q]
    have e4 : 2 * (X * Q) = (2 * X) * Q := by rw [Nat.mul_assoc]
    have e5 : 2 * Hf * F = F * (2 * Hf) := Nat.mul_comm _ _
    rw [e5] at hdm
    have e6 : (F + 1) * (2 * Hf) = F * (2 * Hf) + 2 * Hf := by rw [Nat.add_mul, Nat.one_mul]
    rw [e1, e2, e3, e4, e6]
    generalize F * (2 * Hf) = G at hdm ⊢
    refine ⟨by omega, .inr ⟨trivial, Nat.mul_lt_mul_of_pos_right (by omega) hQ0, Nat.mul_lt_mul_of_pos_right (by omega) hQ0, ?_⟩⟩
    by_cases hone : ex - e = 1
    · rw [if_pos hone]
      have hk1' : k = 1 := by omega
      have hHf1 : Hf = 1 := by rw [← hHf, hk1']
      refine .inr (.inl ⟨rfl, ?_⟩)
      congr 1
      omega
    · rw [if_neg hone]
      have hHf2 : Hf % 2 = 0 := by
        rw [← hHf, show k - 1 = k - 2 + 1 by omega, Nat.pow_succ]; omega
      have hRodd : R % 2 = 1 := by
        have : G % 2 = 0 ∨ True := .inr trivial
        rw [← hR]
        rw [Nat.mod_mul_right_mod]
        exact ho
      by_cases hge : Hf ≤ R
      · have hd1 : R / Hf = 1 := by
          rw [Nat.div_eq_iff hHf0]; omega
        rw [hd1, if_pos rfl]
        refine .inr (.inr ⟨rfl, Nat.mul_lt_mul_of_pos_right ?_ hQ0⟩)
        have : R ≠ Hf := by intro h; rw [h] at hRodd; omega
        omega
      · have hd0 : R / Hf = 0 := Nat.div_eq_of_lt (by omega)
        rw [hd0, if_neg (by omega)]
        exact .inl ⟨rfl, Nat.mul_lt_mul_of_pos_right (by omega) hQ0⟩

/-- The greatest finite word that is not above a value, and the word after it. -/
def flK (X : Nat) (e : Int) : Nat := ((plc 53 (-1074) 1024 X e).2.1 + 1074).toNat * 4503599627370496 + (plc 53 (-1074) 1024 X e).1
/-- A word's value. -/
abbrev vK (K : Nat) : Nat := B.val Ieee.double K
theorem vK_lt {K L : Nat} : vK K < vK L ↔ K < L := B.val_lt_iff Ieee.double
theorem vK_word (j F : Nat) (h : j = 0 ∨ 4503599627370496 ≤ F) (hF : F ≤ 9007199254740992) : vK (j * 4503599627370496 + F) = F * 2 ^ j := by
  have := B.val_at Ieee.double j F (by rw [B.dBin]; exact h) (by rw [B.dBin]; omega)
  rw [B.dBin] at this
  exact this

/-- Where a value lies: at a word, or between it and the next one; how it stands to their middle. V: the value, S: what the words' unit is. -/
structure Lies (K : Nat) (at' : Bool) (mid : Int) (V S : Nat) : Prop where
  fin : K < 9218868437227405312
  pos : 0 < S
  one : at' = true → V = vK K * S
  low : at' = false → vK K * S < V
  mids : at' = false → V < vK (K + 1) * S → (mid = -1 ∧ 2 * V < vK K * S + vK (K + 1) * S ∨ mid = 0 ∧ 2 * V = vK K * S + vK (K + 1) * S ∨ mid = 1 ∧ vK K * S + vK (K + 1) * S < 2 * V)
  high : at' = false → V < vK (K + 1) * S ∨ (K = 9218868437227405311 ∧ mid = 1)

theorem lies (X : Nat) (e : Int) (hX : X % 2 = 1) (he0 : -1048576 ≤ e) (he1 : e ≤ 1048576) (Bs : Int) (h1 : Bs ≤ e) (h2 : Bs ≤ -1074) :
    Lies (flK X e) (plc 53 (-1074) 1024 X e).2.2.1 (plc 53 (-1074) 1024 X e).2.2.2 (X * 2 ^ (e - Bs).toNat) (2 ^ (-1074 - Bs).toNat) := by
  have hX0 : X ≠ 0 := by omega
  obtain ⟨f1, f2, f3, f4⟩ := plc_facts X e hX0 he0 he1
  obtain ⟨j, hj⟩ : ∃ j : Nat, ((plc 53 (-1074) 1024 X e).2.1 + 1074).toNat = j := ⟨_, rfl⟩
  have hS : 0 < 2 ^ (-1074 - Bs).toNat := Nat.two_pow_pos _
  have hw : ∀ F, F ≤ 9007199254740992 → (j = 0 ∨ 4503599627370496 ≤ F) → vK (j * 4503599627370496 + F) * 2 ^ (-1074 - Bs).toNat = F * 2 ^ ((plc 53 (-1074) 1024 X e).2.1 - Bs).toNat := by
    intro F hF hn
    rw [vK_word j F hn hF, Nat.mul_assoc, ← Nat.pow_add]
    congr 2
    omega
  have hn1 : j = 0 ∨ 4503599627370496 ≤ (plc 53 (-1074) 1024 X e).1 := by
    rcases f4 with h | h
    · left; omega
    · exact .inr h
  have w1 := hw (plc 53 (-1074) 1024 X e).1 (by omega) hn1
  have w2 := hw ((plc 53 (-1074) 1024 X e).1 + 1) (by omega) (by rcases hn1 with h | h; exact .inl h; exact .inr (by omega))
  have hflK : flK X e = j * 4503599627370496 + (plc 53 (-1074) 1024 X e).1 := by unfold flK; rw [hj]
  have hflK1 : flK X e + 1 = j * 4503599627370496 + ((plc 53 (-1074) 1024 X e).1 + 1) := by rw [hflK]; omega
  have hfin : flK X e < 9218868437227405312 := by rw [hflK]; omega
  rw [← hflK] at w1
  rw [← hflK1] at w2
  by_cases hin : 1024 < e + (bl X : Int)
  · have hp : plc 53 (-1074) 1024 X e = ((2 ^ 53 - 1 : Nat), ((1024 : Int) - ((53 : Nat) : Int)), false, (1 : Int)) := by unfold plc; rw [if_pos hin]
    have hK : flK X e = 9218868437227405311 := by unfold flK; rw [hp]; rfl
    refine ⟨hfin, hS, fun h => (by rw [hp] at h; cases h), fun _ => ?_, fun _ hlt => ?_, fun _ => .inr ⟨hK, (by rw [hp])⟩⟩
    · rw [w1]
      have hlow : (2 ^ 53 - 1) * 2 ^ (971 - Bs).toNat < 2 ^ 53 * 2 ^ (971 - Bs).toNat := Nat.mul_lt_mul_of_pos_right (by decide) (Nat.two_pow_pos _)
      have hup : 2 ^ 53 * 2 ^ (971 - Bs).toNat ≤ X * 2 ^ (e - Bs).toNat := by
        have hb := bl_ge X hX0
        have hbp := bl_pos X hX0
        refine Nat.le_trans ?_ (Nat.mul_le_mul_right _ hb)
        rw [← Nat.pow_add, ← Nat.pow_add]
        exact Nat.pow_le_pow_right (by omega) (by omega)
      rw [hp]
      exact Nat.lt_of_lt_of_le hlow hup
    · exfalso
      rw [w2, hp] at hlt
      have hup : 2 ^ 53 * 2 ^ (971 - Bs).toNat ≤ X * 2 ^ (e - Bs).toNat := by
        have hb := bl_ge X hX0
        have hbp := bl_pos X hX0
        refine Nat.le_trans ?_ (Nat.mul_le_mul_right _ hb)
        rw [← Nat.pow_add, ← Nat.pow_add]
        exact Nat.pow_le_pow_right (by omega) (by omega)
      exact absurd hlt (Nat.not_lt.2 hup)
  · obtain ⟨_, hfl⟩ := plc_floor 53 (-1074) 1024 X e hX Bs h1 h2 hin
    have hmid : vK (flK X e) * 2 ^ (-1074 - Bs).toNat + vK (flK X e + 1) * 2 ^ (-1074 - Bs).toNat = (2 * (plc 53 (-1074) 1024 X e).1 + 1) * 2 ^ ((plc 53 (-1074) 1024 X e).2.1 - Bs).toNat := by
      rw [w1, w2, ← Nat.add_mul]; congr 1; omega
    rcases hfl with ⟨ht, hv⟩ | ⟨hf, hlo, hhi, hm⟩
    · exact ⟨hfin, hS, fun _ => (by rw [w1]; exact hv), fun h => (by rw [ht] at h; cases h), fun h => (by rw [ht] at h; cases h), fun h => (by rw [ht] at h; cases h)⟩
    · refine ⟨hfin, hS, fun h => (by rw [hf] at h; cases h), fun _ => (by rw [w1]; exact hlo), fun _ _ => (by rw [hmid]; exact hm), fun _ => .inl (by rw [w2]; exact hhi)⟩
end Go.Proofs.YthilnddhehbjiaaDoor

/- Rounding: what is not greater is not rounded to what is greater; neighbours; the nearest. -/
namespace Go.Proofs.YthilnddhehbjiaaDoor
open Go.RowKit
set_option linter.unusedVariables false
set_option maxRecDepth 20000

theorem vS_le {K L S : Nat} (h : K ≤ L) : vK K * S ≤ vK L * S := by
  rcases Nat.lt_or_ge K L with k | k
  · exact Nat.mul_le_mul_right _ (Nat.le_of_lt (vK_lt.2 k))
  · rw [show K = L by omega]; exact Nat.le_refl _
theorem vS_lt {K L S : Nat} (hS : 0 < S) (h : K < L) : vK K * S < vK L * S := Nat.mul_lt_mul_of_pos_right (vK_lt.2 h) hS
theorem Lies.ge {K : Nat} {t : Bool} {m : Int} {V S : Nat} (h : Lies K t m V S) : vK K * S ≤ V := by
  cases ht : t
  · exact Nat.le_of_lt (h.low ht)
  · rw [h.one ht]; exact Nat.le_refl _

/-- The word that is answered. -/
def rK (mode : Int) (n : Bool) (K : Nat) (t : Bool) (m : Int) : Nat := if t then K else if outS mode K m n then K + 1 else K
theorem outS_par (mode : Int) (j F : Nat) (m : Int) (n : Bool) : outS mode (j * 4503599627370496 + F) m n = outS mode F m n := by
  unfold outS
  rw [show (j * 4503599627370496 + F) % 2 = F % 2 by omega]
theorem rndK_eq (mode : Int) (n : Bool) (X : Nat) (e : Int) : rndK mode n X e = rK mode n (flK X e) (plc 53 (-1074) 1024 X e).2.2.1 (plc 53 (-1074) 1024 X e).2.2.2 := by
  unfold rndK rK flK
  simp only
  rw [outS_par]
  split
  · rfl
  · split <;> omega

/-- Floors rise with values. -/
theorem lies_mono {K1 K2 : Nat} {t1 t2 : Bool} {m1 m2 : Int} {V1 V2 S : Nat} (h1 : Lies K1 t1 m1 V1 S) (h2 : Lies K2 t2 m2 V2 S) (h : V1 ≤ V2) : K1 ≤ K2 := by
  rcases Nat.lt_or_ge K2 K1 with k | k
  · exfalso
    have a1 := h1.ge
    have a2 : vK (K2 + 1) * S ≤ vK K1 * S := vS_le (by omega)
    have a3 : V2 < vK (K2 + 1) * S := by
      cases ht : t2
      · rcases h2.high ht with q | q
        · exact q
        · have := h1.fin; omega
      · rw [h2.one ht]; exact vS_lt h2.pos (by omega)
    omega
  · exact k

theorem rK_mono (mode : Int) (n : Bool) {K1 K2 : Nat} {t1 t2 : Bool} {m1 m2 : Int} {V1 V2 S : Nat} (h1 : Lies K1 t1 m1 V1 S) (h2 : Lies K2 t2 m2 V2 S) (h : V1 ≤ V2) : rK mode n K1 t1 m1 ≤ rK mode n K2 t2 m2 := by
  have hK := lies_mono h1 h2 h
  have u1 : rK mode n K1 t1 m1 ≤ K1 + 1 := by unfold rK; split; omega; split <;> omega
  have l2 : K2 ≤ rK mode n K2 t2 m2 := by unfold rK; split; omega; split <;> omega
  rcases Nat.lt_or_ge K1 K2 with k | k
  · omega
  · have e : K1 = K2 := by omega
    subst e
    by_cases ht1 : t1 = true
    · unfold rK at *
      rw [if_pos ht1] at *
      exact l2
    · have ht1f : t1 = false := by simpa using ht1
      have ht2f : t2 = false := by
        cases ht2 : t2
        · rfl
        · exfalso
          have a1 := h1.low ht1f
          have a2 := h2.one ht2
          omega
      have hmm : m1 ≤ m2 := by
        rcases h2.high ht2f with q2 | ⟨q2, q2'⟩
        · have q1 : V1 < vK (K1 + 1) * S := by omega
          have r1 := h1.mids ht1f q1
          have r2 := h2.mids ht2f q2
          generalize vK K1 * S + vK (K1 + 1) * S = M at r1 r2
          omega
        · rw [q2']
          rcases h1.high ht1f with q1 | ⟨q1, q1'⟩
          · have r1 := h1.mids ht1f q1
            omega
          · omega
      unfold rK
      rw [ht1f, ht2f]
      simp only [Bool.false_eq_true, if_false]
      have key : outS mode K1 m1 n = true → outS mode K1 m2 n = true := by
        unfold outS
        split
        · intro hq
          simp only [Bool.or_eq_true, Bool.and_eq_true, decide_eq_true_eq] at hq ⊢
          omega
        · split
          · exact id
          · split
            · exact id
            · split
              · intro hq
                simp only [decide_eq_true_eq] at hq ⊢
                omega
              · exact id
      by_cases ho : outS mode K1 m1 n = true
      · rw [if_pos ho, if_pos (key ho)]; exact Nat.le_refl _
      · rw [if_neg ho]; split <;> omega

/-- Toward nought it is not above, away from it not below, where it is finite. -/
theorem rK_inner (mode : Int) (n : Bool) {K : Nat} {t : Bool} {m : Int} {V S : Nat} (h : Lies K t m V S) (ho : outS mode K m n = false) : vK (rK mode n K t m) * S ≤ V := by
  unfold rK
  split
  · exact h.ge
  · rw [if_neg (by rw [ho]; exact Bool.false_ne_true)]; exact h.ge
theorem rK_outer (mode : Int) (n : Bool) {K : Nat} {t : Bool} {m : Int} {V S : Nat} (h : Lies K t m V S) (ho : outS mode K m n = true) (hf : rK mode n K t m < 9218868437227405312) : V ≤ vK (rK mode n K t m) * S := by
  unfold rK at hf ⊢
  split
  · rename_i ht; rw [h.one ht]; exact Nat.le_refl _
  · rename_i ht
    have htf : t = false := by simpa using ht
    rw [if_neg ht, if_pos ho] at hf
    try rw [if_pos ho]
    rcases h.high htf with q | ⟨q, _⟩
    · omega
    · omega

/-- No word lies nearer. -/
theorem rK_near (mode : Int) (n : Bool) (hmode : mode = 0 ∨ mode = 4) {K : Nat} {t : Bool} {m : Int} {V S : Nat} (h : Lies K t m V S) (hf : rK mode n K t m < 9218868437227405312) (L : Nat) :
    ((vK (rK mode n K t m) * S : Nat) - (V : Int)).natAbs ≤ ((vK L * S : Nat) - (V : Int)).natAbs := by
  by_cases ht : t = true
  · have : rK mode n K t m = K := by unfold rK; rw [if_pos ht]
    rw [this, h.one ht]
    omega
  · have htf : t = false := by simpa using ht
    have hlow := h.low htf
    rcases h.high htf with q | ⟨q, q'⟩
    · have r := h.mids htf q
      have hL : vK L * S ≤ vK K * S ∨ vK (K + 1) * S ≤ vK L * S := by
        rcases Nat.lt_or_ge K L with k | k
        · exact .inr (vS_le (by omega))
        · exact .inl (vS_le k)
      by_cases ho : outS mode K m n = true
      · have e : rK mode n K t m = K + 1 := by unfold rK; rw [if_neg ht, if_pos ho]
        rw [e]
        have hm : 0 ≤ m := by
          unfold outS at ho
          rcases hmode with rfl | rfl
          · rw [if_pos rfl] at ho
            simp only [Bool.or_eq_true, Bool.and_eq_true, decide_eq_true_eq] at ho
            omega
          · simp at ho; omega
        generalize vK K * S = A at *
        generalize vK (K + 1) * S = B at *
        generalize vK L * S = C at *
        omega
      · have e : rK mode n K t m = K := by unfold rK; rw [if_neg ht, if_neg ho]
        rw [e]
        have hm : m ≤ 0 := by
          unfold outS at ho
          rcases hmode with rfl | rfl
          · rw [if_pos rfl] at ho
            simp only [Bool.or_eq_true, Bool.and_eq_true, decide_eq_true_eq] at ho
            omega
          · simp at ho; omega
        generalize vK K * S = A at *
        generalize vK (K + 1) * S = B at *
        generalize vK L * S = C at *
        omega
    · exfalso
      have ho : outS mode K m n = true := by
        unfold outS
        rw [q']
        rcases hmode with rfl | rfl <;> simp
      have e : rK mode n K t m = K + 1 := by unfold rK; rw [if_neg ht, if_pos ho]
      rw [e, q] at hf
      omega
/-- A word's own value is answered as that word. -/
theorem rK_own (mode : Int) (n : Bool) {K : Nat} {t : Bool} {m : Int} {V S : Nat} (h : Lies K t m V S) (L : Nat) (hL : L < 9218868437227405312) (hV : V = vK L * S) : rK mode n K t m = L := by
  have hKL : K ≤ L := by
    rcases Nat.lt_or_ge L K with k | k
    · exfalso
      have a1 := h.ge
      have a2 := vS_lt h.pos k
      omega
    · exact k
  by_cases ht : t = true
  · have : vK K = vK L := Nat.eq_of_mul_eq_mul_right h.pos (by rw [← hV, h.one ht])
    unfold rK
    rw [if_pos ht]
    exact B.val_inj Ieee.double this
  · exfalso
    have htf : t = false := by simpa using ht
    have a1 := h.low htf
    have hlt : K < L := by
      rcases Nat.lt_or_ge K L with k | k
      · exact k
      · have : K = L := by omega
        rw [this] at a1
        omega
    rcases h.high htf with q | ⟨q, _⟩
    · have a2 : vK (K + 1) * S ≤ vK L * S := vS_le (by omega)
      omega
    · omega
end Go.Proofs.YthilnddhehbjiaaDoor

/- DyadNear: the plain mathematics of what it asks. -/
namespace Go.Proofs.YthilnddhehbjiaaDoor
open Go.RowKit
set_option linter.unusedVariables false
set_option maxRecDepth 20000

/-- A word with its sign. -/
def wd64 (s : Bool) (K : Nat) : Nat := K + (if s then 9223372036854775808 else 0)
/-- A word's signed place. -/
def sK (s : Bool) (K : Nat) : Int := if s then -(K : Int) else K
theorem wd64_bw (s : Bool) (K : Nat) (h : K ≤ 9218868437227405312) : wd64 s K = B.bw s (K / 4503599627370496) (K % 4503599627370496) ∧ K / 4503599627370496 < 2048 ∧ K % 4503599627370496 < 4503599627370496 ∧ B.odd (K / 4503599627370496) (K % 4503599627370496) = false ∧ B.pl s (K / 4503599627370496) (K % 4503599627370496) = sK s K := by
  refine ⟨?_, by omega, by omega, ?_, ?_⟩
  · unfold wd64 B.bw
    cases s
    · simp; omega
    · simp; omega
  · unfold B.odd
    simp
    omega
  · unfold B.pl B.sg sK
    rw [show K / 4503599627370496 * 4503599627370496 + K % 4503599627370496 = K by omega]
theorem gt64 (s t : Bool) (K L : Nat) (hK : K ≤ 9218868437227405312) (hL : L ≤ 9218868437227405312) : (FloatKind.f64.format.order (wd64 s K) (wd64 t L) == some .gt) = decide (sK t L < sK s K) := by
  obtain ⟨a1, a2, a3, a4, a5⟩ := wd64_bw s K hK
  obtain ⟨b1, b2, b3, b4, b5⟩ := wd64_bw t L hL
  rw [a1, b1, B.gt_f64 s t _ _ _ _ a2 a3 b2 b3, a4, b4, a5, b5]
  simp
theorem lt64 (s t : Bool) (K L : Nat) (hK : K ≤ 9218868437227405312) (hL : L ≤ 9218868437227405312) : (FloatKind.f64.format.order (wd64 s K) (wd64 t L) == some .lt) = decide (sK s K < sK t L) := by
  obtain ⟨a1, a2, a3, a4, a5⟩ := wd64_bw s K hK
  obtain ⟨b1, b2, b3, b4, b5⟩ := wd64_bw t L hL
  rw [a1, b1, B.lt_f64 s t _ _ _ _ a2 a3 b2 b3, a4, b4, a5, b5]
  simp
theorem eq64 (s t : Bool) (K L : Nat) (hK : K ≤ 9218868437227405312) (hL : L ≤ 9218868437227405312) : (FloatKind.f64.format.order (wd64 s K) (wd64 t L) == some .eq) = decide (sK s K = sK t L) := by
  obtain ⟨a1, a2, a3, a4, a5⟩ := wd64_bw s K hK
  obtain ⟨b1, b2, b3, b4, b5⟩ := wd64_bw t L hL
  rw [a1, b1, B.eq_f64 s t _ _ _ _ a2 a3 b2 b3, a4, b4, a5, b5]
  simp

/-- What a form is rounded to: the sign, the word. -/
def rS (n : Bool) (X : Nat) : Bool := if X = 0 then false else n
def rW (mode : Int) (n : Bool) (X : Nat) (e : Int) : Nat := if X = 0 then 0 else rndK mode n X e
theorem rndS_form (mode : Int) (n : Bool) (X : Nat) (e : Int) (h0 : 0 ≤ mode) (h4 : mode ≤ 4) : rndS (some (n, X, e)) mode = (wd64 (rS n X) (rW mode n X e), 0) := by
  unfold rndS
  rw [if_neg (by omega)]
  simp only
  unfold rS rW wd64
  by_cases h : X = 0
  · rw [if_pos h, if_pos h, if_pos h]; rfl
  · rw [if_neg h, if_neg h, if_neg h]
theorem rW_le (mode : Int) (n : Bool) (X : Nat) (e : Int) (F : Frm n X e) : rW mode n X e ≤ 9218868437227405312 := by
  unfold rW
  split
  · omega
  · rename_i h
    have ho : X % 2 = 1 := by rcases F.odd with k | k; exact k; exact absurd k.1 h
    have L := lies X e ho F.down F.up (min e (-1074)) (by omega) (by omega)
    rw [rndK_eq]
    have := L.fin
    unfold rK
    split
    · omega
    · split <;> omega

theorem cmpZ_le {x y : Int} : cmpZ x y ≤ 0 ↔ x ≤ y := by
  unfold cmpZ
  by_cases h : x < y
  · rw [if_pos h]; omega
  · rw [if_neg h]
    by_cases h2 : y < x
    · rw [if_pos h2]; omega
    · rw [if_neg h2]; omega
theorem cmpZ_ge {x y : Int} : 0 ≤ cmpZ x y ↔ y ≤ x := by
  unfold cmpZ
  by_cases h : x < y
  · rw [if_pos h]; omega
  · rw [if_neg h]
    by_cases h2 : y < x
    · rw [if_pos h2]; omega
    · rw [if_neg h2]; omega

theorem frm_odd {n : Bool} {X : Nat} {e : Int} (F : Frm n X e) (h : X ≠ 0) : X % 2 = 1 := by rcases F.odd with k | k; exact k; exact absurd k.1 h

/-- What is not greater is not rounded to what is greater. -/
theorem near_mono (mode : Int) {n m : Bool} {X Y : Nat} {e f : Int} (FX : Frm n X e) (FY : Frm m Y f) (h : cmpV n X e m Y f ≤ 0) : sK (rS n X) (rW mode n X e) ≤ sK (rS m Y) (rW mode m Y f) := by
  obtain ⟨Bs, hB⟩ : ∃ B : Int, B ≤ -1074 ∧ B ≤ e ∧ B ≤ f := ⟨min (-1074) (min e f), by omega⟩
  obtain ⟨hB0, hBe, hBf⟩ := hB
  rw [cmpV_z n X e m Y f Bs hBe hBf, cmpZ_le] at h
  have pX : X ≠ 0 → 0 < X * 2 ^ (e - Bs).toNat := fun k => Nat.mul_pos (by omega) (Nat.two_pow_pos _)
  have pY : Y ≠ 0 → 0 < Y * 2 ^ (f - Bs).toNat := fun k => Nat.mul_pos (by omega) (Nat.two_pow_pos _)
  unfold rS rW sK
  by_cases hX : X = 0
  · rw [if_pos hX, if_pos hX]
    by_cases hY : Y = 0
    · rw [if_pos hY, if_pos hY]; simp
    · rw [if_neg hY, if_neg hY]
      have := pY hY
      rw [hX, Nat.zero_mul] at h
      generalize Y * 2 ^ (f - Bs).toNat = Q at h this
      cases m
      · simp
      · exfalso; simp [sg1] at h; omega
  · rw [if_neg hX, if_neg hX]
    have hp := pX hX
    by_cases hY : Y = 0
    · rw [if_pos hY, if_pos hY]
      rw [hY, Nat.zero_mul] at h
      generalize X * 2 ^ (e - Bs).toNat = P at h hp
      cases n
      · exfalso; simp [sg1] at h; omega
      · simp
    · rw [if_neg hY, if_neg hY]
      have hq := pY hY
      have L1 := lies X e (frm_odd FX hX) FX.down FX.up Bs hBe hB0
      have L2 := lies Y f (frm_odd FY hY) FY.down FY.up Bs hBf hB0
      rw [rndK_eq, rndK_eq]
      generalize X * 2 ^ (e - Bs).toNat = P at h hp L1
      generalize Y * 2 ^ (f - Bs).toNat = Q at h hq L2
      cases n <;> cases m
      · have := rK_mono mode false L1 L2 (by simp [sg1] at h; omega)
        simp; omega
      · exfalso; simp [sg1] at h; omega
      · first | (simp; done) | (simp; omega)
      · have := rK_mono mode true L2 L1 (by simp [sg1] at h; omega)
        simp; omega
/-- Toward nought as down, or as up. -/
theorem near_zero (n : Bool) (X : Nat) (e : Int) : rW 1 n X e = rW (if n then 2 else 3) n X e := by
  unfold rW
  split
  · rfl
  · rw [rndK_eq, rndK_eq]
    unfold rK
    have : ∀ K m, outS 1 K m n = outS (if n then 2 else 3) K m n := by intro K m; cases n <;> simp [outS]
    rw [this]
end Go.Proofs.YthilnddhehbjiaaDoor

