/- Dyads as whole numbers over a common power: sums, products, what is alike, how they stand. -/
import Derived.Test.YteoednbmhiblfaaGreatDoorD32dx
import Derived.Test.YteoednbmhiblfaaGreatDoorD21x
import Derived.Test.YteoednbmhiblfaaGreatDoorH6x
import Derived.Laws.Bits64
import Derived.Laws.Bits64b
import Derived.Test.YteoednbmhiblfaaGreatDoorD8x
namespace Go.Proofs.YteoednbmhiblfaaGreatDoor
open Go.RowKit
set_option linter.unusedVariables false
set_option maxRecDepth 20000

/-- A sign. -/
def sg1 (n : Bool) : Int := if n then -1 else 1
/-- The value of (n, X, e), in units of 2^B. -/
def zv (B : Int) (x : Bool × Nat × Int) : Int := sg1 x.1 * ((x.2.1 * 2 ^ (x.2.2 - B).toNat : Nat) : Int)

theorem pow_split (e l B : Int) (h : B ≤ e) (hl : 0 ≤ l) : (2 : Nat) ^ (e + l - B).toNat = 2 ^ l.toNat * 2 ^ (e - B).toNat := by
  rw [← Nat.pow_add]; congr 1; omega

theorem zv_mkS {n : Bool} {X : Nat} {e : Int} {x : Bool × Nat × Int} (h : mkS n X e = some x) (B : Int) (hB : X = 0 ∨ B ≤ e) : zv B x = sg1 n * ((X * 2 ^ (e - B).toNat : Nat) : Int) := by
  unfold mkS at h
  by_cases h0 : X = 0
  · rw [if_pos h0] at h
    cases h
    subst h0
    simp [zv]
  · rw [if_neg h0] at h
    split at h
    · cases h
    · cases h
      have hB' : B ≤ e := by rcases hB with h | h; exact absurd h h0; exact h
      obtain ⟨m, hm, hd, _⟩ := odd_part X h0
      show sg1 n * ((X / 2 ^ lo X * 2 ^ (e + (lo X : Int) - B).toNat : Nat) : Int) = _
      rw [pow_split e (lo X) B hB' (by omega), Int.toNat_natCast, ← Nat.mul_assoc]
      have hx : X / 2 ^ lo X * 2 ^ lo X = X := by rw [hd]; rw [Nat.mul_comm]; exact hm.symm
      rw [hx]

theorem sg1_ne {n m : Bool} (h : ¬ n = m) : sg1 m = -sg1 n := by cases n <;> cases m <;> first | exact absurd rfl h | rfl
theorem sg1_not (n : Bool) : sg1 (!n) = -sg1 n := by cases n <;> rfl
theorem sg1_bne (n m : Bool) : sg1 (n != m) = sg1 n * sg1 m := by cases n <;> cases m <;> rfl

theorem zv_addUp {n m : Bool} {X Y : Nat} {e f : Int} {z : Bool × Nat × Int} (h : addUp n X e m Y f = some z) (hfe : f ≤ e) (B : Int) (hB : B ≤ f) : zv B z = zv B (n, X, e) + zv B (m, Y, f) := by
  unfold addUp at h
  split at h
  · cases h
  · have key : X * 2 ^ (e - f).toNat * 2 ^ (f - B).toNat = X * 2 ^ (e - B).toNat := by
      rw [Nat.mul_assoc, ← Nat.pow_add, show (e - f).toNat + (f - B).toNat = (e - B).toNat by omega]
    show zv B z = sg1 n * ((X * 2 ^ (e - B).toNat : Nat) : Int) + sg1 m * ((Y * 2 ^ (f - B).toNat : Nat) : Int)
    generalize 2 ^ (e - f).toNat = P at h key
    split at h
    · rename_i hnm
      rw [zv_mkS h B (.inr hB), hnm, ← Int.mul_add, Nat.add_mul, key, Int.natCast_add]
    · rename_i hnm
      split at h
      · rename_i hle
        rw [zv_mkS h B (.inr hB), sg1_ne hnm, Nat.sub_mul, key, Int.ofNat_sub (by rw [← key]; exact Nat.mul_le_mul_right _ hle), Int.mul_sub, Int.neg_mul]
        omega
      · rename_i hle
        rw [zv_mkS h B (.inr hB), sg1_not, sg1_ne hnm, Nat.sub_mul, key, Int.ofNat_sub (by rw [← key]; exact Nat.mul_le_mul_right _ (by omega)), Int.mul_sub, Int.neg_mul, Int.neg_mul]
        omega

theorem zv_zero {x : Bool × Nat × Int} (B : Int) (h : x.2.1 = 0) : zv B x = 0 := by unfold zv; rw [h]; simp

theorem zv_addF {x y z : Bool × Nat × Int} (h : addF x y = some z) (B : Int) (hx : x.2.1 = 0 ∨ B ≤ x.2.2) (hy : y.2.1 = 0 ∨ B ≤ y.2.2) : zv B z = zv B x + zv B y := by
  obtain ⟨n, X, e⟩ := x
  obtain ⟨m, Y, f⟩ := y
  unfold addF at h
  simp only at h hx hy
  by_cases h0 : X = 0
  · rw [if_pos h0] at h
    cases h
    rw [zv_zero (x := (n, X, e)) B h0, Int.zero_add]
  · rw [if_neg h0] at h
    by_cases h1 : Y = 0
    · rw [if_pos h1] at h
      cases h
      rw [zv_zero (x := (m, Y, f)) B h1, Int.add_zero]
    · rw [if_neg h1] at h
      have hx' : B ≤ e := by rcases hx with k | k; exact absurd k h0; exact k
      have hy' : B ≤ f := by rcases hy with k | k; exact absurd k h1; exact k
      by_cases h2 : e < f
      · rw [if_pos h2] at h
        rw [zv_addUp h (by omega) B hx', Int.add_comm]
      · rw [if_neg h2] at h
        exact zv_addUp h (by omega) B hy'

theorem zv_mulF {x y z : Bool × Nat × Int} (h : mulF x y = some z) (B C : Int) (hx : x.2.1 = 0 ∨ B ≤ x.2.2) (hy : y.2.1 = 0 ∨ C ≤ y.2.2) : zv (B + C) z = zv B x * zv C y := by
  obtain ⟨n, X, e⟩ := x
  obtain ⟨m, Y, f⟩ := y
  unfold mulF at h
  simp only at h hx hy
  by_cases h0 : X = 0
  · subst h0
    rw [Nat.zero_mul] at h
    rw [zv_mkS h _ (.inl rfl), zv_zero (x := (n, 0, e)) B rfl]
    simp
  · by_cases h1 : Y = 0
    · subst h1
      rw [Nat.mul_zero] at h
      rw [zv_mkS h _ (.inl rfl), zv_zero (x := (m, 0, f)) C rfl]
      simp
    · have hx' : B ≤ e := by rcases hx with k | k; exact absurd k h0; exact k
      have hy' : C ≤ f := by rcases hy with k | k; exact absurd k h1; exact k
      rw [zv_mkS h _ (.inr (by omega)), sg1_bne]
      unfold zv
      simp only
      rw [show (e + f - (B + C)).toNat = (e - B).toNat + (f - C).toNat by omega, Nat.pow_add]
      rw [show X * Y * (2 ^ (e - B).toNat * 2 ^ (f - C).toNat) = (X * 2 ^ (e - B).toNat) * (Y * 2 ^ (f - C).toNat) by rw [Nat.mul_mul_mul_comm]]
      rw [Int.natCast_mul, Int.mul_assoc, Int.mul_assoc]
      congr 1
      rw [← Int.mul_assoc, ← Int.mul_assoc]
      congr 1
      exact Int.mul_comm _ _

/-- What has one value has one form. -/
theorem odd_pow {X Y : Nat} (a b : Nat) (hX : X % 2 = 1) (hY : Y % 2 = 1) (h : X * 2 ^ a = Y * 2 ^ b) : X = Y ∧ a = b := by
  have key : ∀ (a b X Y : Nat), X % 2 = 1 → Y % 2 = 1 → X * 2 ^ a = Y * 2 ^ b → a ≤ b := by
    intro a b X Y hX hY h
    rcases Nat.lt_or_ge b a with k | k
    · exfalso
      obtain ⟨d, rfl⟩ : ∃ d, a = b + (d + 1) := ⟨a - b - 1, by omega⟩
      rw [Nat.pow_add, Nat.mul_comm (2 ^ b), ← Nat.mul_assoc] at h
      have := Nat.eq_of_mul_eq_mul_right (Nat.two_pow_pos b) h
      rw [Nat.pow_succ, ← Nat.mul_assoc] at this
      omega
    · exact k
  have h1 := key a b X Y hX hY h
  have h2 := key b a Y X hY hX h.symm
  have e : a = b := by omega
  subst e
  exact ⟨Nat.eq_of_mul_eq_mul_right (Nat.two_pow_pos a) h, rfl⟩

theorem zv_inj {n m : Bool} {X Y : Nat} {e f : Int} (FX : Frm n X e) (FY : Frm m Y f) (B : Int) (hB : B ≤ -1048576) (h : zv B (n, X, e) = zv B (m, Y, f)) : n = m ∧ X = Y ∧ e = f := by
  have hx := FX.down
  have hy := FY.down
  unfold zv at h
  simp only at h
  have hpX : 0 < 2 ^ (e - B).toNat := Nat.two_pow_pos _
  have hpY : 0 < 2 ^ (f - B).toNat := Nat.two_pow_pos _
  rcases FX.odd with oX | ⟨rfl, rfl, rfl⟩
  · rcases FY.odd with oY | ⟨rfl, rfl, rfl⟩
    · have pX : 0 < X * 2 ^ (e - B).toNat := Nat.mul_pos (by omega) hpX
      have pY : 0 < Y * 2 ^ (f - B).toNat := Nat.mul_pos (by omega) hpY
      have hn : n = m := by
        generalize X * 2 ^ (e - B).toNat = P at h pX
        generalize Y * 2 ^ (f - B).toNat = Q at h pY
        cases n <;> cases m <;> first | rfl | (simp only [sg1, Bool.false_eq_true, if_true, if_false] at h; omega)
      subst hn
      have hPQ : X * 2 ^ (e - B).toNat = Y * 2 ^ (f - B).toNat := by
        generalize X * 2 ^ (e - B).toNat = P at h
        generalize Y * 2 ^ (f - B).toNat = Q at h
        cases n <;> (simp only [sg1, Bool.false_eq_true, if_true, if_false] at h; omega)
      obtain ⟨h1, h2⟩ := odd_pow _ _ oX oY hPQ
      exact ⟨rfl, h1, by omega⟩
    · exfalso
      have pX : 0 < X * 2 ^ (e - B).toNat := Nat.mul_pos (by omega) hpX
      generalize X * 2 ^ (e - B).toNat = P at h pX
      rw [Nat.zero_mul] at h
      cases n <;> (simp only [sg1, Bool.false_eq_true, if_true, if_false] at h; omega)
  · rcases FY.odd with oY | ⟨rfl, rfl, rfl⟩
    · exfalso
      have pY : 0 < Y * 2 ^ (f - B).toNat := Nat.mul_pos (by omega) hpY
      generalize Y * 2 ^ (f - B).toNat = Q at h pY
      rw [Nat.zero_mul] at h
      cases m <;> (simp only [sg1, Bool.false_eq_true, if_true, if_false] at h; omega)
    · exact ⟨rfl, rfl, rfl⟩
end Go.Proofs.YteoednbmhiblfaaGreatDoor

/- Dyads are a ring; Cmp is the Sign of Sub. -/
namespace Go.Proofs.YteoednbmhiblfaaGreatDoor
open Go.RowKit
set_option linter.unusedVariables false
set_option maxRecDepth 20000

theorem mkS_idem {n : Bool} {X : Nat} {e : Int} (F : Frm n X e) : mkS n X e = some (n, X, e) := by
  unfold mkS
  rcases F.odd with h | ⟨rfl, rfl, rfl⟩
  · have h1 := F.size; have h2 := F.up; have h3 := F.down
    rw [if_neg (by omega), lo_odd1 h, if_neg (by omega), Nat.pow_zero, Nat.div_one]
    simp
  · rw [if_pos rfl]
theorem addUp_frm {n m : Bool} {X Y : Nat} {e f : Int} {n' : Bool} {Z : Nat} {g : Int} (h : addUp n X e m Y f = some (n', Z, g)) : Frm n' Z g := by
  unfold addUp at h
  split at h
  · cases h
  · split at h
    · exact mkS_frm h
    · split at h
      · exact mkS_frm h
      · exact mkS_frm h
theorem addF_frm {n m : Bool} {X Y : Nat} {e f : Int} (FX : Frm n X e) (FY : Frm m Y f) {n' : Bool} {Z : Nat} {g : Int} (h : addF (n, X, e) (m, Y, f) = some (n', Z, g)) : Frm n' Z g := by
  unfold addF at h
  simp only at h
  split at h
  · cases h; exact FY
  · split at h
    · cases h; exact FX
    · split at h
      · exact addUp_frm h
      · exact addUp_frm h
theorem addD_some {o p : Option (Bool × Nat × Int)} (h : (addD o p).isSome = true) : ∃ x y z, o = some x ∧ p = some y ∧ addF x y = some z ∧ addD o p = some z := by
  cases o with
  | none => cases h
  | some x =>
    cases p with
    | none => cases h
    | some y =>
      obtain ⟨z, hz⟩ := Option.isSome_iff_exists.1 h
      exact ⟨x, y, z, rfl, rfl, hz, hz⟩
theorem mulD_some {o p : Option (Bool × Nat × Int)} (h : (mulD o p).isSome = true) : ∃ x y z, o = some x ∧ p = some y ∧ mulF x y = some z ∧ mulD o p = some z := by
  cases o with
  | none => cases h
  | some x =>
    cases p with
    | none => cases h
    | some y =>
      obtain ⟨z, hz⟩ := Option.isSome_iff_exists.1 h
      exact ⟨x, y, z, rfl, rfl, hz, hz⟩

/-- A form whose value is known. -/
structure Fv (B : Int) (o : Option (Bool × Nat × Int)) (z : Int) : Prop where
  ex : ∃ n X e, o = some (n, X, e) ∧ Frm n X e ∧ zv B (n, X, e) = z
theorem Frm.base {n : Bool} {X : Nat} {e : Int} (F : Frm n X e) {B : Int} (hB : B ≤ -1048576) : X = 0 ∨ B ≤ e := .inr (by have := F.down; omega)
theorem Fv.add {B : Int} (hB : B ≤ -1048576) {o p : Option (Bool × Nat × Int)} {x y : Int} (h1 : Fv B o x) (h2 : Fv B p y) (h : (addD o p).isSome = true) : Fv B (addD o p) (x + y) := by
  obtain ⟨n, X, e, rfl, F, rfl⟩ := h1.ex
  obtain ⟨m, Y, f, rfl, G, rfl⟩ := h2.ex
  obtain ⟨_, _, z, e1, e2, hz, hd⟩ := addD_some h
  cases e1; cases e2
  obtain ⟨n', Z, g⟩ := z
  exact ⟨n', Z, g, hd, addF_frm F G hz, zv_addF hz B (F.base hB) (G.base hB)⟩
theorem Fv.mul {B C : Int} (hB : B ≤ -1048576) (hC : C ≤ -1048576) {o p : Option (Bool × Nat × Int)} {x y : Int} (h1 : Fv B o x) (h2 : Fv C p y) (h : (mulD o p).isSome = true) : Fv (B + C) (mulD o p) (x * y) := by
  obtain ⟨n, X, e, rfl, F, rfl⟩ := h1.ex
  obtain ⟨m, Y, f, rfl, G, rfl⟩ := h2.ex
  obtain ⟨_, _, z, e1, e2, hz, hd⟩ := mulD_some h
  cases e1; cases e2
  obtain ⟨n', Z, g⟩ := z
  exact ⟨n', Z, g, hd, mkS_frm hz, zv_mulF hz B C (F.base hB) (G.base hC)⟩
theorem Fv.same {B : Int} (hB : B ≤ -1048576) {o p : Option (Bool × Nat × Int)} {x y : Int} (h1 : Fv B o x) (h2 : Fv B p y) (h : x = y) : dN o = dN p ∧ dX o = dX p ∧ dE o = dE p := by
  obtain ⟨n, X, e, rfl, F, rfl⟩ := h1.ex
  obtain ⟨m, Y, f, rfl, G, rfl⟩ := h2.ex
  exact zv_inj F G B hB h
theorem Fv.raw {n : Bool} {X : Nat} {e B : Int} (hB : B ≤ e) (h : (mkS n X e).isSome = true) : Fv B (mkS n X e) (sg1 n * ((X * 2 ^ (e - B).toNat : Nat) : Int)) := by
  obtain ⟨⟨n', Y, f⟩, hz⟩ := Option.isSome_iff_exists.1 h
  exact ⟨n', Y, f, hz, mkS_frm hz, zv_mkS hz B (.inr hB)⟩
theorem Fv.neg {n : Bool} {X : Nat} {e B : Int} (hB : B ≤ e) (h : (mkS n X e).isSome = true) : Fv B (mkS (!n) X e) (-(sg1 n * ((X * 2 ^ (e - B).toNat : Nat) : Int))) := by
  have h2 : (mkS (!n) X e).isSome = true := by
    unfold mkS at h ⊢
    split
    · rfl
    · rename_i h0
      rw [if_neg h0] at h
      split
      · rename_i h1; rw [if_pos h1] at h; cases h
      · rfl
  have := Fv.raw hB h2
  rw [sg1_not, Int.neg_mul] at this
  exact this

theorem cmpI_scale (x y k : Nat) (hk : 0 < k) : cmpI (x * k) (y * k) = cmpI x y := by
  unfold cmpI
  simp only [Nat.mul_lt_mul_right hk]
theorem cmpP_base (X : Nat) (e : Int) (Y : Nat) (f B : Int) (h1 : B ≤ e) (h2 : B ≤ f) : cmpP X e Y f = cmpI (X * 2 ^ (e - B).toNat) (Y * 2 ^ (f - B).toNat) := by
  unfold cmpP
  by_cases h : e < f
  · rw [if_pos h, ← cmpI_scale _ _ (2 ^ (e - B).toNat) (Nat.two_pow_pos _), Nat.mul_assoc, ← Nat.pow_add, show (f - e).toNat + (e - B).toNat = (f - B).toNat by omega]
  · rw [if_neg h, ← cmpI_scale _ _ (2 ^ (f - B).toNat) (Nat.two_pow_pos _), Nat.mul_assoc, ← Nat.pow_add, show (e - f).toNat + (f - B).toNat = (e - B).toNat by omega]
theorem pos_iff (X k : Nat) : X * 2 ^ k = 0 ↔ X = 0 := by
  constructor
  · intro h
    rcases Nat.mul_eq_zero.1 h with h | h
    · exact h
    · have := Nat.two_pow_pos k; omega
  · rintro rfl; exact Nat.zero_mul _
theorem cmpV_z (n : Bool) (X : Nat) (e : Int) (m : Bool) (Y : Nat) (f B : Int) (h1 : B ≤ e) (h2 : B ≤ f) : cmpV n X e m Y f = cmpZ (sg1 n * ((X * 2 ^ (e - B).toNat : Nat) : Int)) (sg1 m * ((Y * 2 ^ (f - B).toNat : Nat) : Int)) := by
  unfold cmpV
  rw [cmpP_base X e Y f B h1 h2, cmpP_base Y f X e B h2 h1]
  have p1 := pos_iff X (e - B).toNat
  have p2 := pos_iff Y (f - B).toNat
  generalize X * 2 ^ (e - B).toNat = P at p1
  generalize Y * 2 ^ (f - B).toNat = Q at p2
  unfold sgn cmpZ cmpI sg1
  have q1 : X = 0 ∧ P = 0 ∨ X ≠ 0 ∧ 0 < P := by
    by_cases h : X = 0
    · exact .inl ⟨h, p1.2 h⟩
    · exact .inr ⟨h, Nat.pos_of_ne_zero fun k => h (p1.1 k)⟩
  have q2 : Y = 0 ∧ Q = 0 ∨ Y ≠ 0 ∧ 0 < Q := by
    by_cases h : Y = 0
    · exact .inl ⟨h, p2.2 h⟩
    · exact .inr ⟨h, Nat.pos_of_ne_zero fun k => h (p2.1 k)⟩
  clear p1 p2
  rcases q1 with ⟨hX, hP⟩ | ⟨hX, hP⟩ <;> rcases q2 with ⟨hY, hQ⟩ | ⟨hY, hQ⟩ <;> cases n <;> cases m <;> simp only [hX, hY, if_true, if_false, Bool.false_eq_true] <;> (repeat' split) <;> omega
end Go.Proofs.YteoednbmhiblfaaGreatDoor

/- Where a value lies among the numbers of 64 bits: plain mathematics of rounding. -/
namespace Go.Proofs.YteoednbmhiblfaaGreatDoor
open Go.RowKit
set_option linter.unusedVariables false
set_option maxRecDepth 20000

/-- How the place of a value stands to it (units of 2^Bs). -/
theorem plc_floor (dg : Nat) (least top : Int) (X : Nat) (e : Int) (ho : X % 2 = 1) (Bs : Int) (h1 : Bs ≤ e) (h2 : Bs ≤ least) (hin : ¬ top < e + (bl X : Int)) :
    Bs ≤ (plc dg least top X e).2.1 ∧
    (((plc dg least top X e).2.2.1 = true ∧ X * 2 ^ (e - Bs).toNat = (plc dg least top X e).1 * 2 ^ ((plc dg least top X e).2.1 - Bs).toNat) ∨
     ((plc dg least top X e).2.2.1 = false ∧ (plc dg least top X e).1 * 2 ^ ((plc dg least top X e).2.1 - Bs).toNat < X * 2 ^ (e - Bs).toNat ∧ X * 2 ^ (e - Bs).toNat < ((plc dg least top X e).1 + 1) * 2 ^ ((plc dg least top X e).2.1 - Bs).toNat ∧
      ((plc dg least top X e).2.2.2 = -1 ∧ 2 * (X * 2 ^ (e - Bs).toNat) < (2 * (plc dg least top X e).1 + 1) * 2 ^ ((plc dg least top X e).2.1 - Bs).toNat ∨
       (plc dg least top X e).2.2.2 = 0 ∧ 2 * (X * 2 ^ (e - Bs).toNat) = (2 * (plc dg least top X e).1 + 1) * 2 ^ ((plc dg least top X e).2.1 - Bs).toNat ∨
       (plc dg least top X e).2.2.2 = 1 ∧ (2 * (plc dg least top X e).1 + 1) * 2 ^ ((plc dg least top X e).2.1 - Bs).toNat < 2 * (X * 2 ^ (e - Bs).toNat)))) := by
  unfold plc
  rw [if_neg hin]
  simp only
  obtain ⟨ex, hex⟩ : ∃ ex, max (e + (bl X : Int) - (dg : Int)) least = ex := ⟨_, rfl⟩
  rw [hex]
  have hle : least ≤ ex := by omega
  by_cases hoff : ex - e ≤ 0
  · rw [if_pos hoff]
    simp only
    refine ⟨by omega, .inl ⟨trivial, ?_⟩⟩
    rw [Nat.mul_assoc, ← Nat.pow_add, show (-(ex - e)).toNat + (ex - Bs).toNat = (e - Bs).toNat by omega]
  · rw [if_neg hoff]
    simp only
    obtain ⟨k, hk⟩ : ∃ k : Nat, (ex - e).toNat = k := ⟨_, rfl⟩
    have hk0 : 0 < k := by omega
    have hexB : (ex - Bs).toNat = k + (e - Bs).toNat := by omega
    have hk1 : (ex - e - 1).toNat = k - 1 := by omega
    rw [hk, hexB, hk1, Nat.pow_add]
    obtain ⟨Q, hQ⟩ : ∃ Q, 2 ^ (e - Bs).toNat = Q := ⟨_, rfl⟩
    have hQ0 : 0 < Q := by rw [← hQ]; exact Nat.two_pow_pos _
    rw [hQ]
    have hdm := Nat.div_add_mod X (2 ^ k)
    have hmod := Nat.mod_lt X (Nat.two_pow_pos k)
    obtain ⟨F, hF⟩ : ∃ F, X / 2 ^ k = F := ⟨_, rfl⟩
    obtain ⟨R, hR⟩ : ∃ R, X % 2 ^ k = R := ⟨_, rfl⟩
    have hhalf : 2 ^ k = 2 * 2 ^ (k - 1) := by rw [show k = k - 1 + 1 by omega, Nat.pow_succ, Nat.mul_comm]; rfl
    have hbit : X / 2 ^ (k - 1) % 2 = R / 2 ^ (k - 1) := by
      rw [← hR, hhalf]
      rw [Nat.mul_comm 2, Nat.mod_mul_right_div_self]
    obtain ⟨Hf, hHf⟩ : ∃ Hf, 2 ^ (k - 1) = Hf := ⟨_, rfl⟩
    have hHf0 : 0 < Hf := by rw [← hHf]; exact Nat.two_pow_pos _
    rw [hHf] at hhalf hbit ⊢
    rw [hbit]
    rw [hhalf] at hdm hmod hF hR ⊢
    rw [hF, hR] at hdm
    rw [hR] at hmod
    rw [hF]
    have hR0 : R ≠ 0 := by
      intro h
      rw [h, Nat.add_zero, Nat.mul_assoc] at hdm
      omega
    have e1 : F * (2 * Hf * Q) = (F * (2 * Hf)) * Q := (Nat.mul_assoc _ _ _).symm
    have e2 : (F + 1) * (2 * Hf * Q) = ((F + 1) * (2 * Hf)) * Q := (Nat.mul_assoc _ _ _).symm
    have e3 : (2 * F + 1) * (2 * Hf * Q) = (2 * (F * (2 * Hf)) + 2 * Hf) * Q := by
      rw [Nat.add_mul, Nat.add_mul, Nat.one_mul, Nat.mul_assoc 2 F, ← Nat.mul_assoc F, Nat.mul_assoc 2 (F * (2 * Hf)) Q]
    have e4 : 2 * (X * Q) = (2 * X) * Q := by rw [Nat.mul_assoc]
    have e5 : 2 * Hf * F = F * (2 * Hf) := Nat.mul_comm _ _
    rw [e5] at hdm
    have e6 : (F + 1) * (2 * Hf) = F * (2 * Hf) + 2 * Hf := by rw [Nat.add_mul, Nat.one_mul]
    rw [e1, e2, e3, e4, e6]
    generalize F * (2 * Hf) = G at hdm ⊢
    refine ⟨by omega, .inr ⟨trivial, Nat.mul_lt_mul_of_pos_right (by omega) hQ0, Nat.mul_lt_mul_of_pos_right (by omega) hQ0, ?_⟩⟩
    by_cases hone : ex - e = 1
    · rw [if_pos hone]
      have hk1' : k = 1 := by omega
      have hHf1 : Hf = 1 := by rw [← hHf, hk1']
      refine .inr (.inl ⟨rfl, ?_⟩)
      congr 1
      omega
    · rw [if_neg hone]
      have hHf2 : Hf % 2 = 0 := by
        rw [← hHf, show k - 1 = k - 2 + 1 by omega, Nat.pow_succ]; omega
      have hRodd : R % 2 = 1 := by
        have : G % 2 = 0 ∨ True := .inr trivial
        rw [← hR]
        rw [Nat.mod_mul_right_mod]
        exact ho
      by_cases hge : Hf ≤ R
      · have hd1 : R / Hf = 1 := by
          rw [Nat.div_eq_iff hHf0]; omega
        rw [hd1, if_pos rfl]
        refine .inr (.inr ⟨rfl, Nat.mul_lt_mul_of_pos_right ?_ hQ0⟩)
        have : R ≠ Hf := by intro h; rw [h] at hRodd; omega
        omega
      · have hd0 : R / Hf = 0 := Nat.div_eq_of_lt (by omega)
        rw [hd0, if_neg (by omega)]
        exact .inl ⟨rfl, Nat.mul_lt_mul_of_pos_right (by omega) hQ0⟩

/-- The greatest finite word that is not above a value, and the word after it. -/
def flK (X : Nat) (e : Int) : Nat := ((plc 53 (-1074) 1024 X e).2.1 + 1074).toNat * 4503599627370496 + (plc 53 (-1074) 1024 X e).1
/-- A word's value. -/
abbrev vK (K : Nat) : Nat := B.val Ieee.double K
theorem vK_lt {K L : Nat} : vK K < vK L ↔ K < L := B.val_lt_iff Ieee.double
theorem vK_word (j F : Nat) (h : j = 0 ∨ 4503599627370496 ≤ F) (hF : F ≤ 9007199254740992) : vK (j * 4503599627370496 + F) = F * 2 ^ j := by
  have := B.val_at Ieee.double j F (by rw [B.dBin]; exact h) (by rw [B.dBin]; omega)
  rw [B.dBin] at this
  exact this

/-- Where a value lies: at a word, or between it and the next one; how it stands to their middle. V: the value, S: what the words' unit is. -/
structure Lies (K : Nat) (at' : Bool) (mid : Int) (V S : Nat) : Prop where
  fin : K < 9218868437227405312
  pos : 0 < S
  one : at' = true → V = vK K * S
  low : at' = false → vK K * S < V
  mids : at' = false → V < vK (K + 1) * S → (mid = -1 ∧ 2 * V < vK K * S + vK (K + 1) * S ∨ mid = 0 ∧ 2 * V = vK K * S + vK (K + 1) * S ∨ mid = 1 ∧ vK K * S + vK (K + 1) * S < 2 * V)
  high : at' = false → V < vK (K + 1) * S ∨ (K = 9218868437227405311 ∧ mid = 1)

theorem lies (X : Nat) (e : Int) (hX : X % 2 = 1) (he0 : -1048576 ≤ e) (he1 : e ≤ 1048576) (Bs : Int) (h1 : Bs ≤ e) (h2 : Bs ≤ -1074) :
    Lies (flK X e) (plc 53 (-1074) 1024 X e).2.2.1 (plc 53 (-1074) 1024 X e).2.2.2 (X * 2 ^ (e - Bs).toNat) (2 ^ (-1074 - Bs).toNat) := by
  have hX0 : X ≠ 0 := by omega
  obtain ⟨f1, f2, f3, f4⟩ := plc_facts X e hX0 he0 he1
  obtain ⟨j, hj⟩ : ∃ j : Nat, ((plc 53 (-1074) 1024 X e).2.1 + 1074).toNat = j := ⟨_, rfl⟩
  have hS : 0 < 2 ^ (-1074 - Bs).toNat := Nat.two_pow_pos _
  have hw : ∀ F, F ≤ 9007199254740992 → (j = 0 ∨ 4503599627370496 ≤ F) → vK (j * 4503599627370496 + F) * 2 ^ (-1074 - Bs).toNat = F * 2 ^ ((plc 53 (-1074) 1024 X e).2.1 - Bs).toNat := by
    intro F hF hn
    rw [vK_word j F hn hF, Nat.mul_assoc, ← Nat.pow_add]
    congr 2
    omega
  have hn1 : j = 0 ∨ 4503599627370496 ≤ (plc 53 (-1074) 1024 X e).1 := by
    rcases f4 with h | h
    · left; omega
    · exact .inr h
  have w1 := hw (plc 53 (-1074) 1024 X e).1 (by omega) hn1
  have w2 := hw ((plc 53 (-1074) 1024 X e).1 + 1) (by omega) (by rcases hn1 with h | h; exact .inl h; exact .inr (by omega))
  have hflK : flK X e = j * 4503599627370496 + (plc 53 (-1074) 1024 X e).1 := by unfold flK; rw [hj]
  have hflK1 : flK X e + 1 = j * 4503599627370496 + ((plc 53 (-1074) 1024 X e).1 + 1) := by rw [hflK]; omega
  have hfin : flK X e < 9218868437227405312 := by rw [hflK]; omega
  rw [← hflK] at w1
  rw [← hflK1] at w2
  by_cases hin : 1024 < e + (bl X : Int)
  · have hp : plc 53 (-1074) 1024 X e = ((2 ^ 53 - 1 : Nat), ((1024 : Int) - ((53 : Nat) : Int)), false, (1 : Int)) := by unfold plc; rw [if_pos hin]
    have hK : flK X e = 9218868437227405311 := by unfold flK; rw [hp]; rfl
    refine ⟨hfin, hS, fun h => (by rw [hp] at h; cases h), fun _ => ?_, fun _ hlt => ?_, fun _ => .inr ⟨hK, (by rw [hp])⟩⟩
    · rw [w1]
      have hlow : (2 ^ 53 - 1) * 2 ^ (971 - Bs).toNat < 2 ^ 53 * 2 ^ (971 - Bs).toNat := Nat.mul_lt_mul_of_pos_right (by decide) (Nat.two_pow_pos _)
      have hup : 2 ^ 53 * 2 ^ (971 - Bs).toNat ≤ X * 2 ^ (e - Bs).toNat := by
        have hb := bl_ge X hX0
        have hbp := bl_pos X hX0
        refine Nat.le_trans ?_ (Nat.mul_le_mul_right _ hb)
        rw [← Nat.pow_add, ← Nat.pow_add]
        exact Nat.pow_le_pow_right (by omega) (by omega)
      rw [hp]
      exact Nat.lt_of_lt_of_le hlow hup
    · exfalso
      rw [w2, hp] at hlt
      have hup : 2 ^ 53 * 2 ^ (971 - Bs).toNat ≤ X * 2 ^ (e - Bs).toNat := by
        have hb := bl_ge X hX0
        have hbp := bl_pos X hX0
        refine Nat.le_trans ?_ (Nat.mul_le_mul_right _ hb)
        rw [← Nat.pow_add, ← Nat.pow_add]
        exact Nat.pow_le_pow_right (by omega) (by omega)
      exact absurd hlt (Nat.not_lt.2 hup)
  · obtain ⟨_, hfl⟩ := plc_floor 53 (-1074) 1024 X e hX Bs h1 h2 hin
    have hmid : vK (flK X e) * 2 ^ (-1074 - Bs).toNat + vK (flK X e + 1) * 2 ^ (-1074 - Bs).toNat = (2 * (plc 53 (-1074) 1024 X e).1 + 1) * 2 ^ ((plc 53 (-1074) 1024 X e).2.1 - Bs).toNat := by
      rw [w1, w2, ← Nat.add_mul]; congr 1; omega
    rcases hfl with ⟨ht, hv⟩ | ⟨hf, hlo, hhi, hm⟩
    · exact ⟨hfin, hS, fun _ => (by rw [w1]; exact hv), fun h => (by rw [ht] at h; cases h), fun h => (by rw [ht] at h; cases h), fun h => (by rw [ht] at h; cases h)⟩
    · refine ⟨hfin, hS, fun h => (by rw [hf] at h; cases h), fun _ => (by rw [w1]; exact hlo), fun _ _ => (by rw [hmid]; exact hm), fun _ => .inl (by rw [w2]; exact hhi)⟩
end Go.Proofs.YteoednbmhiblfaaGreatDoor

/- Rounding: what is not greater is not rounded to what is greater; neighbours; the nearest. -/
namespace Go.Proofs.YteoednbmhiblfaaGreatDoor
open Go.RowKit
set_option linter.unusedVariables false
set_option maxRecDepth 20000

theorem vS_le {K L S : Nat} (h : K ≤ L) : vK K * S ≤ vK L * S := by
  rcases Nat.lt_or_ge K L with k | k
  · exact Nat.mul_le_mul_right _ (Nat.le_of_lt (vK_lt.2 k))
  · rw [show K = L by omega]; exact Nat.le_refl _
theorem vS_lt {K L S : Nat} (hS : 0 < S) (h : K < L) : vK K * S < vK L * S := Nat.mul_lt_mul_of_pos_right (vK_lt.2 h) hS
theorem Lies.ge {K : Nat} {t : Bool} {m : Int} {V S : Nat} (h : Lies K t m V S) : vK K * S ≤ V := by
  cases ht : t
  · exact Nat.le_of_lt (h.low ht)
  · rw [h.one ht]; exact Nat.le_refl _

/-- The word that is answered. -/
def rK (mode : Int) (n : Bool) (K : Nat) (t : Bool) (m : Int) : Nat := if t then K else if outS mode K m n then K + 1 else K
theorem outS_par (mode : Int) (j F : Nat) (m : Int) (n : Bool) : outS mode (j * 4503599627370496 + F) m n = outS mode F m n := by
  unfold outS
  rw [show (j * 4503599627370496 + F) % 2 = F % 2 by omega]
theorem rndK_eq (mode : Int) (n : Bool) (X : Nat) (e : Int) : rndK mode n X e = rK mode n (flK X e) (plc 53 (-1074) 1024 X e).2.2.1 (plc 53 (-1074) 1024 X e).2.2.2 := by
  unfold rndK rK flK
  simp only
  rw [outS_par]
  split
  · rfl
  · split <;> omega

/-- Floors rise with values. -/
theorem lies_mono {K1 K2 : Nat} {t1 t2 : Bool} {m1 m2 : Int} {V1 V2 S : Nat} (h1 : Lies K1 t1 m1 V1 S) (h2 : Lies K2 t2 m2 V2 S) (h : V1 ≤ V2) : K1 ≤ K2 := by
  rcases Nat.lt_or_ge K2 K1 with k | k
  · exfalso
    have a1 := h1.ge
    have a2 : vK (K2 + 1) * S ≤ vK K1 * S := vS_le (by omega)
    have a3 : V2 < vK (K2 + 1) * S := by
      cases ht : t2
      · rcases h2.high ht with q | q
        · exact q
        · have := h1.fin; omega
      · rw [h2.one ht]; exact vS_lt h2.pos (by omega)
    omega
  · exact k

theorem rK_mono (mode : Int) (n : Bool) {K1 K2 : Nat} {t1 t2 : Bool} {m1 m2 : Int} {V1 V2 S : Nat} (h1 : Lies K1 t1 m1 V1 S) (h2 : Lies K2 t2 m2 V2 S) (h : V1 ≤ V2) : rK mode n K1 t1 m1 ≤ rK mode n K2 t2 m2 := by
  have hK := lies_mono h1 h2 h
  have u1 : rK mode n K1 t1 m1 ≤ K1 + 1 := by unfold rK; split; omega; split <;> omega
  have l2 : K2 ≤ rK mode n K2 t2 m2 := by unfold rK; split; omega; split <;> omega
  rcases Nat.lt_or_ge K1 K2 with k | k
  · omega
  · have e : K1 = K2 := by omega
    subst e
    by_cases ht1 : t1 = true
    · unfold rK at *
      rw [if_pos ht1] at *
      exact l2
    · have ht1f : t1 = false := by simpa using ht1
      have ht2f : t2 = false := by
        cases ht2 : t2
        · rfl
        · exfalso
          have a1 := h1.low ht1f
          have a2 := h2.one ht2
          omega
      have hmm : m1 ≤ m2 := by
        rcases h2.high ht2f with q2 | ⟨q2, q2'⟩
        · have q1 : V1 < vK (K1 + 1) * S := by omega
          have r1 := h1.mids ht1f q1
          have r2 := h2.mids ht2f q2
          generalize vK K1 * S + vK (K1 + 1) * S = M at r1 r2
          omega
        · rw [q2']
          rcases h1.high ht1f with q1 | ⟨q1, q1'⟩
          · have r1 := h1.mids ht1f q1
            omega
          · omega
      unfold rK
      rw [ht1f, ht2f]
      simp only [Bool.false_eq_true, if_false]
      have key : outS mode K1 m1 n = true → outS mode K1 m2 n = true := by
        unfold outS
        split
        · intro hq
          simp only [Bool.or_eq_true, Bool.and_eq_true, decide_eq_true_eq] at hq ⊢
          omega
        · split
          · exact id
          · split
            · exact id
            · split
              · intro hq
                simp only [decide_eq_true_eq] at hq ⊢
                omega
              · exact id
      by_cases ho : outS mode K1 m1 n = true
      · rw [if_pos ho, if_pos (key ho)]; exact Nat.le_refl _
      · rw [if_neg ho]; split <;> omega

/-- Toward nought it is not above, away from it not below, where it is finite. -/
theorem rK_inner (mode : Int) (n : Bool) {K : Nat} {t : Bool} {m : Int} {V S : Nat} (h : Lies K t m V S) (ho : outS mode K m n = false) : vK (rK mode n K t m) * S ≤ V := by
  unfold rK
  split
  · exact h.ge
  · rw [if_neg (by rw [ho]; exact Bool.false_ne_true)]; exact h.ge
theorem rK_outer (mode : Int) (n : Bool) {K : Nat} {t : Bool} {m : Int} {V S : Nat} (h : Lies K t m V S) (ho : outS mode K m n = true) (hf : rK mode n K t m < 9218868437227405312) : V ≤ vK (rK mode n K t m) * S := by
  unfold rK at hf ⊢
  split
  · rename_i ht; rw [h.one ht]; exact Nat.le_refl _
  · rename_i ht
    have htf : t = false := by simpa using ht
    rw [if_neg ht, if_pos ho] at hf
    try rw [if_pos ho]
    rcases h.high htf with q | ⟨q, _⟩
    · omega
    · omega

/-- A word's own value is answered as that word. -/
theorem rK_own (mode : Int) (n : Bool) {K : Nat} {t : Bool} {m : Int} {V S : Nat} (h : Lies K t m V S) (L : Nat) (hL : L < 9218868437227405312) (hV : V = vK L * S) : rK mode n K t m = L := by
  have hKL : K ≤ L := by
    rcases Nat.lt_or_ge L K with k | k
    · exfalso
      have a1 := h.ge
      have a2 := vS_lt h.pos k
      omega
    · exact k
  by_cases ht : t = true
  · have : vK K = vK L := Nat.eq_of_mul_eq_mul_right h.pos (by rw [← hV, h.one ht])
    unfold rK
    rw [if_pos ht]
    exact B.val_inj Ieee.double this
  · exfalso
    have htf : t = false := by simpa using ht
    have a1 := h.low htf
    have hlt : K < L := by
      rcases Nat.lt_or_ge K L with k | k
      · exact k
      · have : K = L := by omega
        rw [this] at a1
        omega
    rcases h.high htf with q | ⟨q, _⟩
    · have a2 : vK (K + 1) * S ≤ vK L * S := vS_le (by omega)
      omega
    · omega
end Go.Proofs.YteoednbmhiblfaaGreatDoor

/- DyadNear: the plain mathematics of what it asks. -/
namespace Go.Proofs.YteoednbmhiblfaaGreatDoor
open Go.RowKit
set_option linter.unusedVariables false
set_option maxRecDepth 20000

/-- A word with its sign. -/
def wd64 (s : Bool) (K : Nat) : Nat := K + (if s then 9223372036854775808 else 0)
/-- A word's signed place. -/
def sK (s : Bool) (K : Nat) : Int := if s then -(K : Int) else K
theorem wd64_bw (s : Bool) (K : Nat) (h : K ≤ 9218868437227405312) : wd64 s K = B.bw s (K / 4503599627370496) (K % 4503599627370496) ∧ K / 4503599627370496 < 2048 ∧ K % 4503599627370496 < 4503599627370496 ∧ B.odd (K / 4503599627370496) (K % 4503599627370496) = false ∧ B.pl s (K / 4503599627370496) (K % 4503599627370496) = sK s K := by
  refine ⟨?_, by omega, by omega, ?_, ?_⟩
  · unfold wd64 B.bw
    cases s
    · simp; omega
    · simp; omega
  · unfold B.odd
    simp
    omega
  · unfold B.pl B.sg sK
    rw [show K / 4503599627370496 * 4503599627370496 + K % 4503599627370496 = K by omega]
theorem gt64 (s t : Bool) (K L : Nat) (hK : K ≤ 9218868437227405312) (hL : L ≤ 9218868437227405312) : (FloatKind.f64.format.order (wd64 s K) (wd64 t L) == some .gt) = decide (sK t L < sK s K) := by
  obtain ⟨a1, a2, a3, a4, a5⟩ := wd64_bw s K hK
  obtain ⟨b1, b2, b3, b4, b5⟩ := wd64_bw t L hL
  rw [a1, b1, B.gt_f64 s t _ _ _ _ a2 a3 b2 b3, a4, b4, a5, b5]
  simp
theorem lt64 (s t : Bool) (K L : Nat) (hK : K ≤ 9218868437227405312) (hL : L ≤ 9218868437227405312) : (FloatKind.f64.format.order (wd64 s K) (wd64 t L) == some .lt) = decide (sK s K < sK t L) := by
  obtain ⟨a1, a2, a3, a4, a5⟩ := wd64_bw s K hK
  obtain ⟨b1, b2, b3, b4, b5⟩ := wd64_bw t L hL
  rw [a1, b1, B.lt_f64 s t _ _ _ _ a2 a3 b2 b3, a4, b4, a5, b5]
  simp
theorem eq64 (s t : Bool) (K L : Nat) (hK : K ≤ 9218868437227405312) (hL : L ≤ 9218868437227405312) : (FloatKind.f64.format.order (wd64 s K) (wd64 t L) == some .eq) = decide (sK s K = sK t L) := by
  obtain ⟨a1, a2, a3, a4, a5⟩ := wd64_bw s K hK
  obtain ⟨b1, b2, b3, b4, b5⟩ := wd64_bw t L hL
  rw [a1, b1, B.eq_f64 s t _ _ _ _ a2 a3 b2 b3, a4, b4, a5, b5]
  simp

/-- What a form is rounded to: the sign, the word. -/
def rS (n : Bool) (X : Nat) : Bool := if X = 0 then false else n
def rW (mode : Int) (n : Bool) (X : Nat) (e : Int) : Nat := if X = 0 then 0 else rndK mode n X e
theorem rndS_form (mode : Int) (n : Bool) (X : Nat) (e : Int) (h0 : 0 ≤ mode) (h4 : mode ≤ 4) : rndS (some (n, X, e)) mode = (wd64 (rS n X) (rW mode n X e), 0) := by
  unfold rndS
  rw [if_neg (by omega)]
  simp only
  unfold rS rW wd64
  by_cases h : X = 0
  · rw [if_pos h, if_pos h, if_pos h]; rfl
  · rw [if_neg h, if_neg h, if_neg h]
theorem rW_le (mode : Int) (n : Bool) (X : Nat) (e : Int) (F : Frm n X e) : rW mode n X e ≤ 9218868437227405312 := by
  unfold rW
  split
  · omega
  · rename_i h
    have ho : X % 2 = 1 := by rcases F.odd with k | k; exact k; exact absurd k.1 h
    have L := lies X e ho F.down F.up (min e (-1074)) (by omega) (by omega)
    rw [rndK_eq]
    have := L.fin
    unfold rK
    split
    · omega
    · split <;> omega

theorem cmpZ_le {x y : Int} : cmpZ x y ≤ 0 ↔ x ≤ y := by
  unfold cmpZ
  by_cases h : x < y
  · rw [if_pos h]; omega
  · rw [if_neg h]
    by_cases h2 : y < x
    · rw [if_pos h2]; omega
    · rw [if_neg h2]; omega
theorem cmpZ_ge {x y : Int} : 0 ≤ cmpZ x y ↔ y ≤ x := by
  unfold cmpZ
  by_cases h : x < y
  · rw [if_pos h]; omega
  · rw [if_neg h]
    by_cases h2 : y < x
    · rw [if_pos h2]; omega
    · rw [if_neg h2]; omega

theorem frm_odd {n : Bool} {X : Nat} {e : Int} (F : Frm n X e) (h : X ≠ 0) : X % 2 = 1 := by rcases F.odd with k | k; exact k; exact absurd k.1 h

/-- What is not greater is not rounded to what is greater. -/
theorem near_mono (mode : Int) {n m : Bool} {X Y : Nat} {e f : Int} (FX : Frm n X e) (FY : Frm m Y f) (h : cmpV n X e m Y f ≤ 0) : sK (rS n X) (rW mode n X e) ≤ sK (rS m Y) (rW mode m Y f) := by
  obtain ⟨Bs, hB⟩ : ∃ B : Int, B ≤ -1074 ∧ B ≤ e ∧ B ≤ f := ⟨min (-1074) (min e f), by omega⟩
  obtain ⟨hB0, hBe, hBf⟩ := hB
  rw [cmpV_z n X e m Y f Bs hBe hBf, cmpZ_le] at h
  have pX : X ≠ 0 → 0 < X * 2 ^ (e - Bs).toNat := fun k => Nat.mul_pos (by omega) (Nat.two_pow_pos _)
  have pY : Y ≠ 0 → 0 < Y * 2 ^ (f - Bs).toNat := fun k => Nat.mul_pos (by omega) (Nat.two_pow_pos _)
  unfold rS rW sK
  by_cases hX : X = 0
  · rw [if_pos hX, if_pos hX]
    by_cases hY : Y = 0
    · rw [if_pos hY, if_pos hY]; simp
    · rw [if_neg hY, if_neg hY]
      have := pY hY
      rw [hX, Nat.zero_mul] at h
      generalize Y * 2 ^ (f - Bs).toNat = Q at h this
      cases m
      · simp
      · exfalso; simp [sg1] at h; omega
  · rw [if_neg hX, if_neg hX]
    have hp := pX hX
    by_cases hY : Y = 0
    · rw [if_pos hY, if_pos hY]
      rw [hY, Nat.zero_mul] at h
      generalize X * 2 ^ (e - Bs).toNat = P at h hp
      cases n
      · exfalso; simp [sg1] at h; omega
      · simp
    · rw [if_neg hY, if_neg hY]
      have hq := pY hY
      have L1 := lies X e (frm_odd FX hX) FX.down FX.up Bs hBe hB0
      have L2 := lies Y f (frm_odd FY hY) FY.down FY.up Bs hBf hB0
      rw [rndK_eq, rndK_eq]
      generalize X * 2 ^ (e - Bs).toNat = P at h hp L1
      generalize Y * 2 ^ (f - Bs).toNat = Q at h hq L2
      cases n <;> cases m
      · have := rK_mono mode false L1 L2 (by simp [sg1] at h; omega)
        simp; omega
      · exfalso; simp [sg1] at h; omega
      · first | (simp; done) | (simp; omega)
      · have := rK_mono mode true L2 L1 (by simp [sg1] at h; omega)
        simp; omega
end Go.Proofs.YteoednbmhiblfaaGreatDoor

/- The document's small functions on a number's bits. -/
namespace Go.Proofs.YteoednbmhiblfaaGreatDoor
open Go.RowKit
set_option linter.unusedVariables false
set_option maxRecDepth 20000
set_option linter.unusedSimpArgs false
attribute [local go_sem] B.f64bits B.f64frombits st_float
/-- A word without its sign; is there a sign; the sign turned. -/
def magW (x : Nat) : Nat := x % 9223372036854775808
def negW (x : Nat) : Bool := decide (9223372036854775808 ≤ x)
def turnW (x : Nat) : Nat := if 9223372036854775808 ≤ x then x - 9223372036854775808 else x + 9223372036854775808

theorem xor63 (r : Nat) (h : r < 9223372036854775808) : r ^^^ 9223372036854775808 = r + 9223372036854775808 := by
  have e : (9223372036854775808 : Nat) = 2 ^ 63 := rfl
  rw [e] at *
  apply Nat.eq_of_testBit_eq
  intro i
  rw [Nat.testBit_xor, Nat.testBit_two_pow, Nat.add_comm r]
  rcases Nat.lt_trichotomy i 63 with hi | hi | hi
  · rw [Nat.testBit_two_pow_add_gt hi, decide_eq_false (show ¬ 63 = i by omega), Bool.xor_false]
  · subst hi
    rw [Nat.testBit_two_pow_add_eq]
    simp
  · have h1 : r.testBit i = false := Nat.testBit_lt_two_pow (Nat.lt_of_lt_of_le h (Nat.pow_le_pow_right (n := 2) (by decide) (show 63 ≤ i by omega)))
    have h2 : (2 ^ 63 + r).testBit i = false := Nat.testBit_lt_two_pow (Nat.lt_of_lt_of_le (show 2 ^ 63 + r < 2 ^ 64 by omega) (Nat.pow_le_pow_right (n := 2) (by decide) (show 64 ≤ i by omega)))
    rw [h1, h2, decide_eq_false (show ¬ 63 = i by omega)]; rfl
theorem xor_turn (x : Nat) (h : x < 18446744073709551616) : x ^^^ 9223372036854775808 = turnW x := by
  unfold turnW
  split
  · rename_i hx
    obtain ⟨r, rfl⟩ : ∃ r, x = r + 9223372036854775808 := ⟨x - 9223372036854775808, by omega⟩
    rw [← xor63 r (by omega), Nat.xor_assoc, Nat.xor_self, Nat.xor_zero, xor63 r (by omega)]; omega
  · exact xor63 x (by omega)
theorem and63 (x : Nat) (h : x < 18446744073709551616) : x &&& 9223372036854775808 = if 9223372036854775808 ≤ x then 9223372036854775808 else 0 := by
  have e : (9223372036854775808 : Nat) = 2 ^ 63 := rfl
  have hb : x.testBit 63 = decide (9223372036854775808 ≤ x) := by
    by_cases hx : 9223372036854775808 ≤ x
    · have h1 : x / 2 ^ 63 = 1 := by omega
      rw [decide_eq_true hx, Nat.testBit_eq_decide_div_mod_eq, h1]; rfl
    · rw [decide_eq_false hx]; exact Nat.testBit_lt_two_pow (by omega)
  apply Nat.eq_of_testBit_eq
  intro i
  rw [Nat.testBit_and]
  by_cases hi : i = 63
  · subst hi
    rw [hb]
    by_cases hx : 9223372036854775808 ≤ x
    · rw [decide_eq_true hx, if_pos hx]; rfl
    · rw [decide_eq_false hx, if_neg hx]; simp
  · have h0 : Nat.testBit 9223372036854775808 i = false := by rw [e, Nat.testBit_two_pow, decide_eq_false (show ¬ 63 = i by omega)]
    rw [h0, Bool.and_false]
    split
    · exact h0.symm
    · simp
theorem andnot63 (x : Nat) (h : x < 18446744073709551616) : bits .andNot .u64 (x : Int) 9223372036854775808 = ((magW x : Nat) : Int) := by
  obtain ⟨s, e, f, he, hf, h1, _⟩ := bwz x h
  rw [h1, B.abs_bw s e f he hf]
  unfold B.bw magW
  cases s <;> simp <;> omega

theorem rOdd_any (w : World) : Calls Tryz.prog 75 #[] w fun r w' => r = .returned (.float .f64 oddW) ∧ w' = w := by
  go_enter Tryz.func75, Tryz.ntmps75
  go_wp2
  exact bodyPost_ret (v := .float .f64 oddW) (by simp [results, Tryz.results75, go_sem, oddW]) rfl ⟨rfl, rfl⟩
theorem rIsOdd_any (x : Nat) (hx : x < 18446744073709551616) (w : World) : Calls Tryz.prog 72 #[.float .f64 x] w fun r w' => r = .returned (.bool (nanW x)) ∧ w' = w := by
  have e := andnot63 x hx
  have e2 : decide ((9218868437227405312 : Int) < ((magW x : Nat) : Int)) = nanW x := by unfold nanW magW; rw [decide_eq_decide]; omega
  go_enter Tryz.func72, Tryz.ntmps72
  go_wp2
  exact bodyPost_ret (v := .bool (nanW x)) (by simp only [e, e2]; simp [results, Tryz.results72, go_sem, e2]) rfl ⟨rfl, rfl⟩
theorem rIsEndless_any (x : Nat) (hx : x < 18446744073709551616) (w : World) : Calls Tryz.prog 73 #[.float .f64 x] w fun r w' => r = .returned (.bool (magW x == 9218868437227405312)) ∧ w' = w := by
  have e := andnot63 x hx
  have e2 : (((magW x : Nat) : Int) == 9218868437227405312) = (magW x == 9218868437227405312) := by rw [Bool.eq_iff_iff, beq_iff_eq, beq_iff_eq]; omega
  go_enter Tryz.func73, Tryz.ntmps73
  go_wp2
  exact bodyPost_ret (v := .bool (magW x == 9218868437227405312)) (by simp only [e, e2]; simp only [results, Tryz.results73]; simp [go_sem, e2]) rfl ⟨rfl, rfl⟩
theorem rNegW_any (x : Nat) (hx : x < 18446744073709551616) (w : World) : Calls Tryz.prog 74 #[.float .f64 x] w fun r w' => r = .returned (.bool (negW x)) ∧ w' = w := by
  have e0 : bits .and .u64 (x : Int) 9223372036854775808 = (((x &&& 9223372036854775808 : Nat)) : Int) := bits_and_u64_nat x 9223372036854775808 hx (by decide)
  rw [and63 x hx] at e0
  obtain ⟨z, hz⟩ : ∃ z, bits .and .u64 (x : Int) 9223372036854775808 = z := ⟨_, rfl⟩
  have e2 : (z != 0) = negW x := by
    rw [← hz, e0]
    unfold negW
    by_cases h : 9223372036854775808 ≤ x
    · rw [if_pos h, decide_eq_true h]; rfl
    · rw [if_neg h, decide_eq_false h]; rfl
  clear e0
  go_enter Tryz.func74, Tryz.ntmps74
  go_wp2
  exact bodyPost_ret (v := .bool (negW x)) (by simp only [hz, e2]; simp [results, Tryz.results74, go_sem]) rfl ⟨rfl, rfl⟩
theorem rTurned_any (x : Nat) (hx : x < 18446744073709551616) (w : World) : Calls Tryz.prog 80 #[.float .f64 x] w fun r w' => r = .returned (.float .f64 (turnW x)) ∧ w' = w := by
  have e : bits .xor .u64 (x : Int) 9223372036854775808 = (((x ^^^ 9223372036854775808 : Nat)) : Int) := bits_xor_u64_nat x 9223372036854775808 hx (by decide)
  rw [xor_turn x hx] at e
  go_enter Tryz.func80, Tryz.ntmps80
  go_wp2
  exact bodyPost_ret (v := .float .f64 (turnW x)) (by simp only [e]; simp [results, Tryz.results80, go_sem]) rfl ⟨rfl, rfl⟩
theorem rsigned_any (x : Nat) (hx : x < 9223372036854775808) (n : Bool) (w : World) : Calls Tryz.prog 78 #[.int .u64 x, .bool n] w fun r w' => r = .returned (.float .f64 (wd64 n x)) ∧ w' = w := by
  have e := B.or_sign (x : Int) (by omega) (by omega)
  have e2 : ((x : Int) + 9223372036854775808).toNat = x + 9223372036854775808 := by omega
  go_enter Tryz.func78, Tryz.ntmps78
  cases n
  · go_wp2
    exact bodyPost_ret (v := .float .f64 (wd64 false x)) (by simp [results, Tryz.results78, go_sem, wd64]) rfl ⟨rfl, rfl⟩
  · go_wp2
    exact bodyPost_ret (v := .float .f64 (wd64 true x)) (by simp only [e, e2]; simp [results, Tryz.results78, go_sem, wd64]) rfl ⟨rfl, rfl⟩
end Go.Proofs.YteoednbmhiblfaaGreatDoor

/- DyadNear: numbers' own values, how far apart. -/
namespace Go.Proofs.YteoednbmhiblfaaGreatDoor
open Go.RowKit
set_option linter.unusedVariables false
set_option maxRecDepth 20000

/-- What Of answers of a word. -/
def ofK (s : Bool) (K : Nat) : Option (Bool × Nat × Int) := ofR s (K / 4503599627370496) (K % 4503599627370496)
theorem ofK_val (s : Bool) (K : Nat) (hK : K < 9218868437227405312) : ∃ n X e, ofK s K = some (n, X, e) ∧ Frm n X e ∧ (X ≠ 0 → n = s) ∧ (X = 0 ↔ K = 0) ∧ ∀ Bs : Int, Bs ≤ -1074 → zv Bs (n, X, e) = sg1 s * ((vK K * 2 ^ (-1074 - Bs).toNat : Nat) : Int) := by
  obtain ⟨x, hx⟩ : ∃ x, K / 4503599627370496 = x := ⟨_, rfl⟩
  obtain ⟨f, hf⟩ : ∃ f, K % 4503599627370496 = f := ⟨_, rfl⟩
  have hxl : x < 2047 := by omega
  have hfl : f < 4503599627370496 := by omega
  obtain ⟨M, hM⟩ : ∃ M, (if x = 0 then f else f + 4503599627370496) = M := ⟨_, rfl⟩
  obtain ⟨E, hE⟩ : ∃ E : Int, (if x = 0 then (-1074 : Int) else (x : Int) - 1075) = E := ⟨_, rfl⟩
  have hME : (x = 0 ∧ M = f ∧ E = -1074) ∨ (x ≠ 0 ∧ M = f + 4503599627370496 ∧ E = (x : Int) - 1075) := by
    by_cases h : x = 0
    · rw [if_pos h] at hM hE; exact .inl ⟨h, hM.symm, hE.symm⟩
    · rw [if_neg h] at hM hE; exact .inr ⟨h, hM.symm, hE.symm⟩
  have hMl : M < 9007199254740992 := by omega
  have hO : ofK s K = mkS s M E := by unfold ofK ofR; rw [hx, hf, if_neg (by omega), hM, hE]
  have hsome : (mkS s M E).isSome = true := by
    unfold mkS
    split
    · rfl
    · rename_i h0
      have hb := bl_le53 M hMl
      obtain ⟨_, _, _, hbb⟩ := odd_part M h0
      rw [if_neg (by omega)]
      rfl
  obtain ⟨⟨n, X, e⟩, hz⟩ := Option.isSome_iff_exists.1 hsome
  have hKw : K = (E + 1074).toNat * 4503599627370496 + M := by rcases hME with h | h <;> omega
  have hv : vK K = M * 2 ^ (E + 1074).toNat := by
    rw [hKw]; exact vK_word _ _ (by rcases hME with h | h; left; omega; right; omega) (by omega)
  have hM0 : M = 0 ↔ K = 0 := by rcases hME with h | h <;> omega
  refine ⟨n, X, e, by rw [hO, hz], mkS_frm hz, ?_, ?_, ?_⟩
  · intro hX
    unfold mkS at hz
    split at hz
    · cases hz; exact absurd rfl hX
    · split at hz
      · cases hz
      · cases hz; rfl
  · rw [← hM0]
    constructor
    · intro hX
      unfold mkS at hz
      split at hz
      · assumption
      · rename_i h0
        split at hz
        · cases hz
        · obtain ⟨m, _, hd, _⟩ := odd_part M h0
          cases hz
          omega
    · intro h0
      unfold mkS at hz
      rw [if_pos h0] at hz
      cases hz; rfl
  · intro Bs hBs
    rw [zv_mkS hz Bs (.inr (by omega)), hv, Nat.mul_assoc, ← Nat.pow_add, show (E + 1074).toNat + (-1074 - Bs).toNat = (E - Bs).toNat by omega]

/-- The word's value against a form. -/
theorem cmp_word (s : Bool) (K : Nat) (hK : K < 9218868437227405312) {n : Bool} {X : Nat} {e : Int} (F : Frm n X e) (Bs : Int) (hB : Bs ≤ -1048576) :
    cmpV (dN (ofK s K)) (dX (ofK s K)) (dE (ofK s K)) n X e = cmpZ (sg1 s * ((vK K * 2 ^ (-1074 - Bs).toNat : Nat) : Int)) (sg1 n * ((X * 2 ^ (e - Bs).toNat : Nat) : Int)) := by
  obtain ⟨n', X', e', ho, F', _, _, hv⟩ := ofK_val s K hK
  rw [ho]
  show cmpV n' X' e' n X e = _
  have hd := F.down
  have hd' := F'.down
  rw [cmpV_z n' X' e' n X e Bs (by omega) (by omega), ← hv Bs (by omega)]
  rfl

theorem near_down {n : Bool} {X : Nat} {e : Int} (F : Frm n X e) (hK : rW 3 n X e < 9218868437227405312) : cmpV (dN (ofK (rS n X) (rW 3 n X e))) (dX (ofK (rS n X) (rW 3 n X e))) (dE (ofK (rS n X) (rW 3 n X e))) n X e ≤ 0 := by
  rw [cmp_word _ _ hK F (-1048576) (by omega), cmpZ_le]
  by_cases hX : X = 0
  · unfold rS rW
    rw [if_pos hX, if_pos hX, hX]
    rw [show vK 0 = 0 from B.val_zero _, Nat.zero_mul, Nat.zero_mul, Int.natCast_zero, Int.mul_zero, Int.mul_zero]
    exact Int.le_refl _
  · have L := lies X e (frm_odd F hX) F.down F.up (-1048576) F.down (by omega)
    unfold rS
    unfold rW at hK ⊢
    rw [if_neg hX] at hK ⊢
    rw [if_neg hX]
    rw [rndK_eq] at hK ⊢
    cases n
    · have := rK_inner 3 false L (by simp [outS])
      simp only [sg1, Bool.false_eq_true, if_false, Int.one_mul]
      exact Int.ofNat_le.2 this
    · have := rK_outer 3 true L (by simp [outS]) hK
      simp only [sg1, if_true]
      have := Int.ofNat_le.2 this
      omega
theorem near_up {n : Bool} {X : Nat} {e : Int} (F : Frm n X e) (hK : rW 2 n X e < 9218868437227405312) : 0 ≤ cmpV (dN (ofK (rS n X) (rW 2 n X e))) (dX (ofK (rS n X) (rW 2 n X e))) (dE (ofK (rS n X) (rW 2 n X e))) n X e := by
  rw [cmp_word _ _ hK F (-1048576) (by omega), cmpZ_ge]
  by_cases hX : X = 0
  · unfold rS rW
    rw [if_pos hX, if_pos hX, hX]
    rw [show vK 0 = 0 from B.val_zero _, Nat.zero_mul, Nat.zero_mul, Int.natCast_zero, Int.mul_zero, Int.mul_zero]
    exact Int.le_refl _
  · have L := lies X e (frm_odd F hX) F.down F.up (-1048576) F.down (by omega)
    unfold rS
    unfold rW at hK ⊢
    rw [if_neg hX] at hK ⊢
    rw [if_neg hX]
    rw [rndK_eq] at hK ⊢
    cases n
    · have := rK_outer 2 false L (by simp [outS]) hK
      simp only [sg1, Bool.false_eq_true, if_false, Int.one_mul]
      exact Int.ofNat_le.2 this
    · have := rK_inner 2 true L (by simp [outS])
      simp only [sg1, if_true]
      have := Int.ofNat_le.2 this
      omega

theorem near_own (mode : Int) (s : Bool) (L : Nat) (hL : L < 9218868437227405312) {n : Bool} {X : Nat} {e : Int} (ho : ofK s L = some (n, X, e)) : sK (rS n X) (rW mode n X e) = sK s L := by
  obtain ⟨n', X', e', ho', F, hn, h0, hv⟩ := ofK_val s L hL
  rw [ho] at ho'
  cases ho'
  unfold rS rW
  by_cases hX : X = 0
  · rw [if_pos hX, if_pos hX, h0.1 hX]
    unfold sK
    cases s <;> simp
  · rw [if_neg hX, if_neg hX, hn hX]
    have Ls := lies X e (frm_odd F hX) F.down F.up (-1048576) F.down (by omega)
    have hz := hv (-1048576) (by omega)
    unfold zv at hz
    simp only at hz
    rw [hn hX] at hz
    have hV : X * 2 ^ (e - -1048576).toNat = vK L * 2 ^ (-1074 - -1048576 : Int).toNat := by
      generalize X * 2 ^ (e - -1048576).toNat = P at hz ⊢
      generalize vK L * 2 ^ (-1074 - -1048576 : Int).toNat = Q at hz ⊢
      cases s <;> (simp only [sg1, Bool.false_eq_true, if_true, if_false] at hz; omega)
    rw [rndK_eq, rK_own mode s Ls L hL hV]
end Go.Proofs.YteoednbmhiblfaaGreatDoor

/- What the model's sums and products are, by words; what the document's forms are rounded to: the same word. -/
namespace Go.Proofs.YteoednbmhiblfaaGreatDoor
open Go.RowKit J
set_option linter.unusedVariables false
set_option maxRecDepth 20000

theorem wd_word (s : Bool) (K : Nat) : wd64 s K = Ieee.double.word s K := by
  unfold wd64
  have e : Ieee.double.word s K = (if s then 9223372036854775808 + K else K) := rfl
  rw [e]
  cases s <;> simp; omega
theorem hInf : Ieee.double.infRung < Ieee.double.signWeight := by rw [B.dInf, B.dSign]; omega
theorem hBin : Ieee.double.binade ≤ Ieee.double.infRung := by rw [B.dInf, B.dBin]; omega
theorem wd_of (x : Nat) (h : x < 18446744073709551616) : x = wd64 (negW x) (magW x) := by
  unfold wd64 negW magW
  by_cases hx : 9223372036854775808 ≤ x
  · rw [decide_eq_true hx, if_pos rfl]; omega
  · rw [decide_eq_false hx, if_neg (by simp)]; omega
theorem magW_wd (s : Bool) (K : Nat) (h : K < 9223372036854775808) : magW (wd64 s K) = K ∧ negW (wd64 s K) = s ∧ wd64 s K < 18446744073709551616 := by
  unfold magW negW wd64
  cases s <;> simp <;> omega

/-- The model's sum of two finite numbers. -/
theorem add_wd (s t : Bool) (K L : Nat) (hK : K < 9218868437227405312) (hL : L < 9218868437227405312) :
    ∃ R, NE R (B.sg s (vK K) + B.sg t (vK L)).natAbs 1 ∧ Ieee.double.add (wd64 s K) (wd64 t L) = some (wd64 (if B.sg s (vK K) + B.sg t (vK L) = 0 then s && t else decide (B.sg s (vK K) + B.sg t (vK L) < 0)) (min R 9218868437227405312)) := by
  obtain ⟨m, j, e1, v1⟩ := B.read_word Ieee.double s K (by rw [B.dInf]; exact hK) hInf
  obtain ⟨n, k, e2, v2⟩ := B.read_word Ieee.double t L (by rw [B.dInf]; exact hL) hInf
  obtain ⟨mag, c, es, ev⟩ := B.sum_num s t m n j k Ieee.double.leastPlace
  rw [v1, v2] at es ev
  rw [wd_word, wd_word]
  unfold Ieee.Format.add
  rw [e1, e2, es]
  show ∃ R, NE R (B.sg s (vK K) + B.sg t (vK L)).natAbs 1 ∧ some (Ieee.double.nearest _ mag _) = _
  generalize hT : B.sg s (vK K) + B.sg t (vK L) = T at *
  by_cases hm : mag = 0
  · subst hm
    have hT0 : T = 0 := by rw [Nat.zero_mul] at ev; omega
    refine ⟨0, NEf.own (by decide) (by rw [hT0, B.val_zero]; rfl), ?_⟩
    unfold Ieee.Format.nearest
    rw [if_pos rfl, if_pos hT0, wd_word, Nat.zero_min]
  · obtain ⟨R, h1, h2⟩ := nearest_ne (if T = 0 then s && t else decide (T < 0)) mag c 0 hm
    refine ⟨R, by rw [ev, Nat.pow_zero] at h2; exact h2, ?_⟩
    rw [show Ieee.double.leastPlace + (c : Int) - ((0 : Nat) : Int) = Ieee.double.leastPlace + (c : Int) by omega] at h1
    rw [h1, wd_word, B.dInf]

/-- What the document's search finds is the nearest, between two the even one. -/
theorem rK_ne {K R : Nat} {t n : Bool} {m : Int} {V S : Nat} (h : Lies K t m V S) (hR : NE R V S) : rK 0 n K t m = min R 9218868437227405312 := by
  have hf := h.fin
  have hS := h.pos
  cases t with
  | true =>
    have : NE K V S := NEf.own hS (h.one rfl)
    rw [hR.one this hS]
    unfold rK
    rw [if_pos rfl, Nat.min_eq_left (by omega)]
  | false =>
    have hlow : B.val Ieee.double K * S < V := h.low rfl
    have hmids : V < B.val Ieee.double (K + 1) * S → (m = -1 ∧ 2 * V < B.val Ieee.double K * S + B.val Ieee.double (K + 1) * S ∨ m = 0 ∧ 2 * V = B.val Ieee.double K * S + B.val Ieee.double (K + 1) * S ∨ m = 1 ∧ B.val Ieee.double K * S + B.val Ieee.double (K + 1) * S < 2 * V) := h.mids rfl
    have hhigh : V < B.val Ieee.double (K + 1) * S ∨ (K = 9218868437227405311 ∧ m = 1) := h.high rfl
    unfold rK
    rw [if_neg (by simp)]
    by_cases hh : V < B.val Ieee.double (K + 1) * S
    · have e : (B.val Ieee.double K + B.val Ieee.double (K + 1)) * S = B.val Ieee.double K * S + B.val Ieee.double (K + 1) * S := Nat.add_mul _ _ _
      have s2 : B.val Ieee.double (K + 1) * S < B.val Ieee.double (K + 2) * S := Nat.mul_lt_mul_of_pos_right (B.val_lt_succ Ieee.double (K + 1)) hS
      have eU : (B.val Ieee.double (K + 1) + B.val Ieee.double (K + 2)) * S = B.val Ieee.double (K + 1) * S + B.val Ieee.double (K + 2) * S := Nat.add_mul _ _ _
      have stay : (2 * V < B.val Ieee.double K * S + B.val Ieee.double (K + 1) * S ∨ 2 * V = B.val Ieee.double K * S + B.val Ieee.double (K + 1) * S ∧ K % 2 = 0) → NE K V S := by
        intro hc
        refine ⟨by rw [e]; omega, fun h1 => by rw [e] at h1; omega, fun h0 => ?_, fun h0 h1 => ?_⟩
        · have := Nat.mul_lt_mul_of_pos_right (B.val_lt Ieee.double (show K - 1 < K by omega)) hS
          rw [Nat.add_mul]; omega
        · have := Nat.mul_lt_mul_of_pos_right (B.val_lt Ieee.double (show K - 1 < K by omega)) hS
          rw [Nat.add_mul] at h1; omega
      have go : (B.val Ieee.double K * S + B.val Ieee.double (K + 1) * S < 2 * V ∨ 2 * V = B.val Ieee.double K * S + B.val Ieee.double (K + 1) * S ∧ K % 2 = 1) → NE (K + 1) V S := by
        intro hc
        refine ⟨by rw [eU]; omega, fun h1 => by rw [eU] at h1; omega, fun h0 => ?_, fun h0 h1 => ?_⟩
        · rw [show K + 1 - 1 = K from rfl, e]; omega
        · rw [show K + 1 - 1 = K from rfl, e] at h1; omega
      rcases hmids hh with ⟨h1, h2⟩ | ⟨h1, h2⟩ | ⟨h1, h2⟩
      · have ho : outS 0 K m n = false := by unfold outS; subst h1; simp
        rw [ho, if_neg (by simp), hR.one (stay (.inl h2)) hS, Nat.min_eq_left (by omega)]
      · by_cases hp : K % 2 = 1
        · have ho : outS 0 K m n = true := by unfold outS; subst h1; simp [hp]
          rw [ho, if_pos rfl, hR.one (go (.inr ⟨h2, hp⟩)) hS, Nat.min_eq_left (by omega)]
        · have ho : outS 0 K m n = false := by unfold outS; subst h1; simp [hp]
          rw [ho, if_neg (by simp), hR.one (stay (.inr ⟨h2, by omega⟩)) hS, Nat.min_eq_left (by omega)]
      · have ho : outS 0 K m n = true := by unfold outS; subst h1; simp
        rw [ho, if_pos rfl, hR.one (go (.inl h2)) hS, Nat.min_eq_left (by omega)]
    · obtain ⟨h1, h2⟩ : K = 9218868437227405311 ∧ m = 1 := by
        rcases hhigh with q | q
        · exact absurd q hh
        · exact q
      have ho : outS 0 K m n = true := by unfold outS; subst h2; simp
      rw [ho, if_pos rfl]
      have hRi : 9218868437227405312 ≤ R := by
        apply Nat.le_of_not_lt; intro hlt
        have u := hR.up
        have m1 : B.val Ieee.double R * S < B.val Ieee.double (R + 1) * S := Nat.mul_lt_mul_of_pos_right (B.val_lt_succ Ieee.double R) hS
        have m2 : B.val Ieee.double (R + 1) * S ≤ B.val Ieee.double (K + 1) * S := Nat.mul_le_mul_right S (vmono (by omega))
        rw [Nat.add_mul] at u
        omega
      rw [Nat.min_eq_right hRi]; omega

/-- A form's rounding, by its value. -/
theorem rW_ne {n : Bool} {X : Nat} {e : Int} (F : Frm n X e) (hX : X ≠ 0) (Bs : Int) (hB : Bs ≤ -1048576) {V U S R : Nat} (h1 : X * 2 ^ (e - Bs).toNat = V * S) (h2 : 2 ^ (-1074 - Bs).toNat = U * S) (hR : NE R V U) : rW 0 n X e = min R 9218868437227405312 := by
  have ho := frm_odd F hX
  have L := lies X e ho F.down F.up Bs (by have := F.down; omega) (by omega)
  have hS : 0 < S := by
    rcases Nat.eq_zero_or_pos S with h | h
    · rw [h, Nat.mul_zero] at h2; have := Nat.two_pow_pos (-1074 - Bs).toNat; omega
    · exact h
  unfold rW
  rw [if_neg hX, rndK_eq]
  rw [h1, h2] at L
  exact rK_ne L (hR.scale S hS)
end Go.Proofs.YteoednbmhiblfaaGreatDoor

/- Forms by their values in units of 2^-2148; sums, products, roundings of forms of numbers. -/
namespace Go.Proofs.YteoednbmhiblfaaGreatDoor
open Go.RowKit J
set_option linter.unusedVariables false
set_option maxRecDepth 20000

theorem exU (a : Nat) : ∃ u : Nat, u = 2 ^ a := ⟨_, rfl⟩
def EU : Nat := 1074
def ES : Nat := 2095004
def EH : Nat := 1047502
/-- 2^1074, 2^2095004: never reckoned. -/
noncomputable def UU : Nat := Classical.choose (exU EU)
noncomputable def SS : Nat := Classical.choose (exU ES)
theorem U_eq : UU = 2 ^ EU := Classical.choose_spec (exU EU)
theorem S_eq : SS = 2 ^ ES := Classical.choose_spec (exU ES)
theorem U_pos : 0 < UU := by rw [U_eq]; exact Nat.two_pow_pos _
theorem S_pos : 0 < SS := by rw [S_eq]; exact Nat.two_pow_pos _
theorem EUS : EU + ES = 2096078 := by unfold EU ES; rfl
theorem EHH : EH + EH = ES := by unfold EH ES; rfl
theorem US (a : Nat) (h : a = 2096078) : 2 ^ a = UU * SS := by
  rw [U_eq, S_eq, ← Nat.pow_add, EUS, h]
theorem mkSz (n : Bool) (e : Int) : mkS n 0 e = some (false, 0, 0) := by unfold mkS; rw [if_pos rfl]

/-- A form, what it stands for (in units of 2^-2148), where its bits lie. -/
structure Fo (o : Option (Bool × Nat × Int)) (z : Int) (L H : Int) : Prop where
  ex : ∃ n X e, o = some (n, X, e) ∧ Frm n X e ∧ zv (-2097152) (n, X, e) = z * (SS : Int) ∧ (X = 0 ∨ L ≤ e ∧ e + (bl X : Int) ≤ H)

theorem Fo.frm {n : Bool} {X : Nat} {e z L H : Int} (h : Fo (some (n, X, e)) z L H) : Frm n X e ∧ zv (-2097152) (n, X, e) = z * (SS : Int) ∧ (X = 0 ∨ L ≤ e ∧ e + (bl X : Int) ≤ H) := by
  obtain ⟨n', X', e', h1, h2, h3, h4⟩ := h.ex
  cases h1
  exact ⟨h2, h3, h4⟩
theorem mkS_sz (n : Bool) (Z : Nat) (f L H : Int) (hZ : Z ≠ 0) (h1 : L ≤ f) (h2 : f + (bl Z : Int) ≤ H) (hL : -1000000 ≤ L) (hH : H ≤ 1000000) (hd : H - L ≤ 262144) :
    ∃ X e, mkS n Z f = some (n, X, e) ∧ X ≠ 0 ∧ L ≤ e ∧ e + (bl X : Int) ≤ H := by
  obtain ⟨m, e0, e1, e2⟩ := odd_part Z hZ
  unfold mkS
  rw [if_neg hZ, if_neg (by omega)]
  exact ⟨_, _, rfl, by omega, by omega, by omega⟩

theorem blLe {X m : Nat} (h : X < 2 ^ m) : bl X ≤ m := by
  apply Nat.le_of_not_lt; intro hh
  have := (bl_gt X m).1 hh
  omega
theorem lt_bl (X : Nat) : X < 2 ^ bl X := bl_lt X

theorem addUp_sz (n : Bool) (X : Nat) (e : Int) (m : Bool) (Y : Nat) (f L H : Int) (hX : X ≠ 0) (hY : Y ≠ 0) (hfe : f ≤ e) (h1 : L ≤ f) (h2 : e + (bl X : Int) ≤ H) (h3 : f + (bl Y : Int) ≤ H) (hL : -1000000 ≤ L) (hH : H ≤ 999999) (hd : H - L ≤ 262143) :
    ∃ n' Z g, addUp n X e m Y f = some (n', Z, g) ∧ (Z = 0 ∨ L ≤ g ∧ g + (bl Z : Int) ≤ H + 1) := by
  obtain ⟨d, hdd⟩ : ∃ d : Nat, (e - f).toNat = d := ⟨_, rfl⟩
  have hb : X * 2 ^ d < 2 ^ (bl X + d) := by rw [Nat.pow_add]; exact Nat.mul_lt_mul_of_pos_right (lt_bl X) (Nat.two_pow_pos _)
  obtain ⟨q, hq⟩ : ∃ q : Nat, max (bl X + d) (bl Y) = q := ⟨_, rfl⟩
  have q1 : X * 2 ^ d < 2 ^ q := Nat.lt_of_lt_of_le hb (Nat.pow_le_pow_right (by decide) (by omega))
  have q2 : Y < 2 ^ q := Nat.lt_of_lt_of_le (lt_bl Y) (Nat.pow_le_pow_right (by decide) (by omega))
  have q3 : 2 ^ (q + 1) = 2 ^ q + 2 ^ q := by rw [Nat.pow_succ]; omega
  have hq4 : f + (q : Int) ≤ H := by omega
  have out : ∀ (n'' : Bool) (Z : Nat), Z < 2 ^ (q + 1) → ∃ n' Z' g, mkS n'' Z f = some (n', Z', g) ∧ (Z' = 0 ∨ L ≤ g ∧ g + (bl Z' : Int) ≤ H + 1) := by
    intro n'' Z hZ
    by_cases h0 : Z = 0
    · subst h0; rw [mkSz]; exact ⟨_, _, _, rfl, .inl rfl⟩
    · have := blLe hZ
      obtain ⟨X', e', k1, k2, k3, k4⟩ := mkS_sz n'' Z f L (H + 1) h0 h1 (by omega) hL (by omega) (by omega)
      exact ⟨_, _, _, k1, .inr ⟨k3, k4⟩⟩
  unfold addUp
  rw [hdd, if_neg (by omega)]
  split
  · exact out _ _ (by omega)
  · split
    · exact out _ _ (by omega)
    · exact out _ _ (by omega)
theorem addD_sz {o p : Option (Bool × Nat × Int)} {x y L H : Int} (h1 : Fo o x L H) (h2 : Fo p y L H) (hL : -1000000 ≤ L) (hH : H ≤ 999999) (hd : H - L ≤ 262143) : ∃ n Z g, addD o p = some (n, Z, g) ∧ (Z = 0 ∨ L ≤ g ∧ g + (bl Z : Int) ≤ H + 1) := by
  obtain ⟨n, X, e, rfl, F, _, b1⟩ := h1.ex
  obtain ⟨m, Y, f, rfl, G, _, b2⟩ := h2.ex
  unfold addD addF
  simp only
  by_cases hX : X = 0
  · rw [if_pos hX]; exact ⟨_, _, _, rfl, by omega⟩
  · rw [if_neg hX]
    by_cases hY : Y = 0
    · rw [if_pos hY]; exact ⟨_, _, _, rfl, by omega⟩
    · rw [if_neg hY]
      by_cases hlt : e < f
      · rw [if_pos hlt]; exact addUp_sz m Y f n X e L H hY hX (by omega) (by omega) (by omega) (by omega) hL hH hd
      · rw [if_neg hlt]; exact addUp_sz n X e m Y f L H hX hY (by omega) (by omega) (by omega) (by omega) hL hH hd
/-- Sums. -/
theorem Fo.add {o p : Option (Bool × Nat × Int)} {x y L H : Int} (h1 : Fo o x L H) (h2 : Fo p y L H) (hL : -1000000 ≤ L) (hH : H ≤ 999999) (hd : H - L ≤ 262143) : Fo (addD o p) (x + y) L (H + 1) := by
  obtain ⟨n, Z, g, hz, hb⟩ := addD_sz h1 h2 hL hH hd
  obtain ⟨n1, X1, e1, r1, F1, v1, _⟩ := h1.ex
  obtain ⟨n2, X2, e2, r2, F2, v2, _⟩ := h2.ex
  have V := Fv.add (B := -2097152) (by omega) ⟨n1, X1, e1, r1, F1, v1⟩ ⟨n2, X2, e2, r2, F2, v2⟩ (by rw [hz]; rfl)
  obtain ⟨n', Z', g', r, F, v⟩ := V.ex
  rw [hz] at r
  cases r
  exact ⟨n, Z, g, hz, F, by rw [v, Int.add_mul], hb⟩

theorem zvUp {x : Bool × Nat × Int} (B C : Int) (hB : x.2.1 = 0 ∨ B ≤ x.2.2) (hC : C ≤ B) : zv C x = zv B x * ((2 ^ (B - C).toNat : Nat) : Int) := by
  unfold zv
  rcases hB with h | h
  · rw [h]; simp
  · rw [show (x.2.2 - C).toNat = (x.2.2 - B).toNat + (B - C).toNat by omega, Nat.pow_add, ← Nat.mul_assoc, Int.natCast_mul, Int.mul_assoc]

theorem wide1 (a : Nat) (h : a = 1048576) : ∀ x : Int, x * (UU : Int) * (SS : Int) = x * ((2 ^ EH : Nat) : Int) * ((2 ^ a : Nat) : Int) := by
  intro x
  have e : EU + ES = EH + a := by rw [h]; unfold EU ES EH; rfl
  have e2 : UU * SS = 2 ^ EH * 2 ^ a := by rw [U_eq, S_eq, ← Nat.pow_add, ← Nat.pow_add, e]
  rw [Int.mul_assoc, Int.mul_assoc, ← Int.natCast_mul, ← Int.natCast_mul, e2]
/-- Products of what is whole in units of 2^-1074. -/
theorem Fo.mul {o p : Option (Bool × Nat × Int)} {x y L H : Int} (h1 : Fo o (x * (UU : Int)) L H) (h2 : Fo p (y * (UU : Int)) L H) (hL : -500000 ≤ L) (hH : H ≤ 500000) (hd : H - L ≤ 131072) : Fo (mulD o p) (x * y) (2 * L) (2 * H) := by
  obtain ⟨n1, X1, e1, r1, F1, v1, b1⟩ := h1.ex
  obtain ⟨n2, X2, e2, r2, F2, v2, b2⟩ := h2.ex
  have sz : ∃ n Z g, mulD o p = some (n, Z, g) ∧ (Z = 0 ∨ 2 * L ≤ g ∧ g + (bl Z : Int) ≤ 2 * H) := by
    rw [r1, r2]
    unfold mulD mulF
    simp only
    by_cases hZ : X1 * X2 = 0
    · rw [hZ, mkSz]; exact ⟨_, _, _, rfl, .inl rfl⟩
    · have hX : X1 ≠ 0 := fun h => hZ (by rw [h, Nat.zero_mul])
      have hY : X2 ≠ 0 := fun h => hZ (by rw [h, Nat.mul_zero])
      have hb : bl (X1 * X2) ≤ bl X1 + bl X2 := blLe (by rw [Nat.pow_add]; exact Nat.mul_lt_mul'' (lt_bl X1) (lt_bl X2))
      obtain ⟨X', e', k1, k2, k3, k4⟩ := mkS_sz (n1 != n2) (X1 * X2) (e1 + e2) (2 * L) (2 * H) hZ (by omega) (by omega) (by omega) (by omega) (by omega)
      exact ⟨_, _, _, k1, .inr ⟨k3, k4⟩⟩
  obtain ⟨n, Z, g, hz, hb⟩ := sz
  have half : ∀ (n : Bool) (X : Nat) (e x : Int), Frm n X e → zv (-2097152) (n, X, e) = x * (UU : Int) * (SS : Int) → zv (-1048576) (n, X, e) = x * ((2 ^ EH : Nat) : Int) := by
    intro n X e x F hv
    have up := zvUp (x := (n, X, e)) (-1048576) (-2097152) (.inr F.down) (by omega)
    rw [hv] at up
    obtain ⟨a, ha⟩ : ∃ a : Nat, (-1048576 - -2097152 : Int).toNat = a := ⟨_, rfl⟩
    rw [ha, wide1 a (by omega)] at up
    exact (Int.eq_of_mul_eq_mul_right (by have := Nat.two_pow_pos a; omega) up).symm
  have V := Fv.mul (B := -1048576) (C := -1048576) (by omega) (by omega) ⟨n1, X1, e1, r1, F1, half _ _ _ _ F1 v1⟩ ⟨n2, X2, e2, r2, F2, half _ _ _ _ F2 v2⟩ (by rw [hz]; rfl)
  obtain ⟨n', Z', g', r, F, v⟩ := V.ex
  rw [hz] at r
  cases r
  refine ⟨n, Z, g, hz, F, ?_, hb⟩
  rw [show (-2097152 : Int) = -1048576 + -1048576 by omega, v, S_eq, ← EHH, Nat.pow_add, Int.natCast_mul]
  simp only [Int.mul_assoc, Int.mul_left_comm, Int.mul_comm]
end Go.Proofs.YteoednbmhiblfaaGreatDoor

/- The document's Plus at NaN and infinities. -/
namespace Go.Proofs.YteoednbmhiblfaaGreatDoor
open Go.RowKit
set_option linter.unusedVariables false
set_option maxRecDepth 20000
set_option linter.unusedSimpArgs false
attribute [local go_sem] st_float
set_option maxHeartbeats 2000000 in
theorem rPlus_ttff (x y : Nat) (w : World)
    (H1 : Hid (∀ u, Calls Tryz.prog 72 #[.float .f64 x] u fun r w' => r = .returned (.bool true) ∧ w' = u))
    (H2 : Hid (∀ u, Calls Tryz.prog 72 #[.float .f64 y] u fun r w' => r = .returned (.bool true) ∧ w' = u))
    (H3 : Hid (∀ u, Calls Tryz.prog 73 #[.float .f64 x] u fun r w' => r = .returned (.bool false) ∧ w' = u))
    (H4 : Hid (∀ u, Calls Tryz.prog 73 #[.float .f64 y] u fun r w' => r = .returned (.bool false) ∧ w' = u)) :
    Calls Tryz.prog 42 #[.float .f64 x, .float .f64 y] w fun r w' => r = .returned (.float .f64 oddW) ∧ Below w.heap.size w w' := by
  have HO := hid fun u => rOdd_any u
  go_enter Tryz.func42, Tryz.ntmps42
  go_wp2_with fail
  refine (Calls.mono (H1.out _)) ?_
  rintro r wx ⟨rfl, hw⟩
  rw [hw]
  clear hw wx H1
  go_wp2_with fail
  refine (Calls.mono (H2.out _)) ?_
  rintro r wx ⟨rfl, hw⟩
  rw [hw]
  clear hw wx H2
  go_wp2_with fail
  refine (Calls.mono (H3.out _)) ?_
  rintro r wx ⟨rfl, hw⟩
  rw [hw]
  clear hw wx H3
  go_wp2_with fail
  refine (Calls.mono (H4.out _)) ?_
  rintro r wx ⟨rfl, hw⟩
  rw [hw]
  clear hw wx H4
  go_wp2_with fail
  refine (Calls.mono (HO.out _)) ?_
  rintro r wx ⟨rfl, hw⟩
  rw [hw]
  clear hw wx HO
  go_wp2
  exact bodyPost_ret (v := .float .f64 oddW) (by simp [results, Tryz.results42, go_sem]) rfl ⟨rfl, (by repeat (first | exact Below.refl _ _ | refine Below.drew ?_))⟩
set_option maxHeartbeats 2000000 in
theorem rPlus_tfff (x y : Nat) (w : World)
    (H1 : Hid (∀ u, Calls Tryz.prog 72 #[.float .f64 x] u fun r w' => r = .returned (.bool true) ∧ w' = u))
    (H2 : Hid (∀ u, Calls Tryz.prog 72 #[.float .f64 y] u fun r w' => r = .returned (.bool false) ∧ w' = u))
    (H3 : Hid (∀ u, Calls Tryz.prog 73 #[.float .f64 x] u fun r w' => r = .returned (.bool false) ∧ w' = u))
    (H4 : Hid (∀ u, Calls Tryz.prog 73 #[.float .f64 y] u fun r w' => r = .returned (.bool false) ∧ w' = u)) :
    Calls Tryz.prog 42 #[.float .f64 x, .float .f64 y] w fun r w' => r = .returned (.float .f64 oddW) ∧ Below w.heap.size w w' := by
  have HO := hid fun u => rOdd_any u
  go_enter Tryz.func42, Tryz.ntmps42
  go_wp2_with fail
  refine (Calls.mono (H1.out _)) ?_
  rintro r wx ⟨rfl, hw⟩
  rw [hw]
  clear hw wx H1
  go_wp2_with fail
  refine (Calls.mono (H2.out _)) ?_
  rintro r wx ⟨rfl, hw⟩
  rw [hw]
  clear hw wx H2
  go_wp2_with fail
  refine (Calls.mono (H3.out _)) ?_
  rintro r wx ⟨rfl, hw⟩
  rw [hw]
  clear hw wx H3
  go_wp2_with fail
  refine (Calls.mono (H4.out _)) ?_
  rintro r wx ⟨rfl, hw⟩
  rw [hw]
  clear hw wx H4
  go_wp2_with fail
  refine (Calls.mono (HO.out _)) ?_
  rintro r wx ⟨rfl, hw⟩
  rw [hw]
  clear hw wx HO
  go_wp2
  exact bodyPost_ret (v := .float .f64 oddW) (by simp [results, Tryz.results42, go_sem]) rfl ⟨rfl, (by repeat (first | exact Below.refl _ _ | refine Below.drew ?_))⟩
set_option maxHeartbeats 2000000 in
theorem rPlus_tfft (x y : Nat) (w : World)
    (H1 : Hid (∀ u, Calls Tryz.prog 72 #[.float .f64 x] u fun r w' => r = .returned (.bool true) ∧ w' = u))
    (H2 : Hid (∀ u, Calls Tryz.prog 72 #[.float .f64 y] u fun r w' => r = .returned (.bool false) ∧ w' = u))
    (H3 : Hid (∀ u, Calls Tryz.prog 73 #[.float .f64 x] u fun r w' => r = .returned (.bool false) ∧ w' = u))
    (H4 : Hid (∀ u, Calls Tryz.prog 73 #[.float .f64 y] u fun r w' => r = .returned (.bool true) ∧ w' = u)) :
    Calls Tryz.prog 42 #[.float .f64 x, .float .f64 y] w fun r w' => r = .returned (.float .f64 oddW) ∧ Below w.heap.size w w' := by
  have HO := hid fun u => rOdd_any u
  go_enter Tryz.func42, Tryz.ntmps42
  go_wp2_with fail
  refine (Calls.mono (H1.out _)) ?_
  rintro r wx ⟨rfl, hw⟩
  rw [hw]
  clear hw wx H1
  go_wp2_with fail
  refine (Calls.mono (H2.out _)) ?_
  rintro r wx ⟨rfl, hw⟩
  rw [hw]
  clear hw wx H2
  go_wp2_with fail
  refine (Calls.mono (H3.out _)) ?_
  rintro r wx ⟨rfl, hw⟩
  rw [hw]
  clear hw wx H3
  go_wp2_with fail
  refine (Calls.mono (H4.out _)) ?_
  rintro r wx ⟨rfl, hw⟩
  rw [hw]
  clear hw wx H4
  go_wp2_with fail
  refine (Calls.mono (HO.out _)) ?_
  rintro r wx ⟨rfl, hw⟩
  rw [hw]
  clear hw wx HO
  go_wp2
  exact bodyPost_ret (v := .float .f64 oddW) (by simp [results, Tryz.results42, go_sem]) rfl ⟨rfl, (by repeat (first | exact Below.refl _ _ | refine Below.drew ?_))⟩
set_option maxHeartbeats 2000000 in
theorem rPlus_ftff (x y : Nat) (w : World)
    (H1 : Hid (∀ u, Calls Tryz.prog 72 #[.float .f64 x] u fun r w' => r = .returned (.bool false) ∧ w' = u))
    (H2 : Hid (∀ u, Calls Tryz.prog 72 #[.float .f64 y] u fun r w' => r = .returned (.bool true) ∧ w' = u))
    (H3 : Hid (∀ u, Calls Tryz.prog 73 #[.float .f64 x] u fun r w' => r = .returned (.bool false) ∧ w' = u))
    (H4 : Hid (∀ u, Calls Tryz.prog 73 #[.float .f64 y] u fun r w' => r = .returned (.bool false) ∧ w' = u)) :
    Calls Tryz.prog 42 #[.float .f64 x, .float .f64 y] w fun r w' => r = .returned (.float .f64 oddW) ∧ Below w.heap.size w w' := by
  have HO := hid fun u => rOdd_any u
  go_enter Tryz.func42, Tryz.ntmps42
  go_wp2_with fail
  refine (Calls.mono (H1.out _)) ?_
  rintro r wx ⟨rfl, hw⟩
  rw [hw]
  clear hw wx H1
  go_wp2_with fail
  refine (Calls.mono (H2.out _)) ?_
  rintro r wx ⟨rfl, hw⟩
  rw [hw]
  clear hw wx H2
  go_wp2_with fail
  refine (Calls.mono (H3.out _)) ?_
  rintro r wx ⟨rfl, hw⟩
  rw [hw]
  clear hw wx H3
  go_wp2_with fail
  refine (Calls.mono (H4.out _)) ?_
  rintro r wx ⟨rfl, hw⟩
  rw [hw]
  clear hw wx H4
  go_wp2_with fail
  refine (Calls.mono (HO.out _)) ?_
  rintro r wx ⟨rfl, hw⟩
  rw [hw]
  clear hw wx HO
  go_wp2
  exact bodyPost_ret (v := .float .f64 oddW) (by simp [results, Tryz.results42, go_sem]) rfl ⟨rfl, (by repeat (first | exact Below.refl _ _ | refine Below.drew ?_))⟩
set_option maxHeartbeats 2000000 in
theorem rPlus_fttf (x y : Nat) (w : World)
    (H1 : Hid (∀ u, Calls Tryz.prog 72 #[.float .f64 x] u fun r w' => r = .returned (.bool false) ∧ w' = u))
    (H2 : Hid (∀ u, Calls Tryz.prog 72 #[.float .f64 y] u fun r w' => r = .returned (.bool true) ∧ w' = u))
    (H3 : Hid (∀ u, Calls Tryz.prog 73 #[.float .f64 x] u fun r w' => r = .returned (.bool true) ∧ w' = u))
    (H4 : Hid (∀ u, Calls Tryz.prog 73 #[.float .f64 y] u fun r w' => r = .returned (.bool false) ∧ w' = u)) :
    Calls Tryz.prog 42 #[.float .f64 x, .float .f64 y] w fun r w' => r = .returned (.float .f64 oddW) ∧ Below w.heap.size w w' := by
  have HO := hid fun u => rOdd_any u
  go_enter Tryz.func42, Tryz.ntmps42
  go_wp2_with fail
  refine (Calls.mono (H1.out _)) ?_
  rintro r wx ⟨rfl, hw⟩
  rw [hw]
  clear hw wx H1
  go_wp2_with fail
  refine (Calls.mono (H2.out _)) ?_
  rintro r wx ⟨rfl, hw⟩
  rw [hw]
  clear hw wx H2
  go_wp2_with fail
  refine (Calls.mono (H3.out _)) ?_
  rintro r wx ⟨rfl, hw⟩
  rw [hw]
  clear hw wx H3
  go_wp2_with fail
  refine (Calls.mono (H4.out _)) ?_
  rintro r wx ⟨rfl, hw⟩
  rw [hw]
  clear hw wx H4
  go_wp2_with fail
  refine (Calls.mono (HO.out _)) ?_
  rintro r wx ⟨rfl, hw⟩
  rw [hw]
  clear hw wx HO
  go_wp2
  exact bodyPost_ret (v := .float .f64 oddW) (by simp [results, Tryz.results42, go_sem]) rfl ⟨rfl, (by repeat (first | exact Below.refl _ _ | refine Below.drew ?_))⟩
set_option maxHeartbeats 2000000 in
theorem rPlus_fftf (x y : Nat) (w : World)
    (H1 : Hid (∀ u, Calls Tryz.prog 72 #[.float .f64 x] u fun r w' => r = .returned (.bool false) ∧ w' = u))
    (H2 : Hid (∀ u, Calls Tryz.prog 72 #[.float .f64 y] u fun r w' => r = .returned (.bool false) ∧ w' = u))
    (H3 : Hid (∀ u, Calls Tryz.prog 73 #[.float .f64 x] u fun r w' => r = .returned (.bool true) ∧ w' = u))
    (H4 : Hid (∀ u, Calls Tryz.prog 73 #[.float .f64 y] u fun r w' => r = .returned (.bool false) ∧ w' = u)) :
    Calls Tryz.prog 42 #[.float .f64 x, .float .f64 y] w fun r w' => r = .returned (.float .f64 x) ∧ Below w.heap.size w w' := by
  go_enter Tryz.func42, Tryz.ntmps42
  go_wp2_with fail
  refine (Calls.mono (H1.out _)) ?_
  rintro r wx ⟨rfl, hw⟩
  rw [hw]
  clear hw wx H1
  go_wp2_with fail
  refine (Calls.mono (H2.out _)) ?_
  rintro r wx ⟨rfl, hw⟩
  rw [hw]
  clear hw wx H2
  go_wp2_with fail
  refine (Calls.mono (H3.out _)) ?_
  rintro r wx ⟨rfl, hw⟩
  rw [hw]
  clear hw wx H3
  go_wp2_with fail
  refine (Calls.mono (H4.out _)) ?_
  rintro r wx ⟨rfl, hw⟩
  rw [hw]
  clear hw wx H4
  go_wp2
  exact bodyPost_ret (v := .float .f64 x) (by simp [results, Tryz.results42, go_sem]) rfl ⟨rfl, (by repeat (first | exact Below.refl _ _ | refine Below.drew ?_))⟩
set_option maxHeartbeats 2000000 in
theorem rPlus_ffft (x y : Nat) (w : World)
    (H1 : Hid (∀ u, Calls Tryz.prog 72 #[.float .f64 x] u fun r w' => r = .returned (.bool false) ∧ w' = u))
    (H2 : Hid (∀ u, Calls Tryz.prog 72 #[.float .f64 y] u fun r w' => r = .returned (.bool false) ∧ w' = u))
    (H3 : Hid (∀ u, Calls Tryz.prog 73 #[.float .f64 x] u fun r w' => r = .returned (.bool false) ∧ w' = u))
    (H4 : Hid (∀ u, Calls Tryz.prog 73 #[.float .f64 y] u fun r w' => r = .returned (.bool true) ∧ w' = u)) :
    Calls Tryz.prog 42 #[.float .f64 x, .float .f64 y] w fun r w' => r = .returned (.float .f64 y) ∧ Below w.heap.size w w' := by
  go_enter Tryz.func42, Tryz.ntmps42
  go_wp2_with fail
  refine (Calls.mono (H1.out _)) ?_
  rintro r wx ⟨rfl, hw⟩
  rw [hw]
  clear hw wx H1
  go_wp2_with fail
  refine (Calls.mono (H2.out _)) ?_
  rintro r wx ⟨rfl, hw⟩
  rw [hw]
  clear hw wx H2
  go_wp2_with fail
  refine (Calls.mono (H3.out _)) ?_
  rintro r wx ⟨rfl, hw⟩
  rw [hw]
  clear hw wx H3
  go_wp2_with fail
  refine (Calls.mono (H4.out _)) ?_
  rintro r wx ⟨rfl, hw⟩
  rw [hw]
  clear hw wx H4
  go_wp2
  exact bodyPost_ret (v := .float .f64 y) (by simp [results, Tryz.results42, go_sem]) rfl ⟨rfl, (by repeat (first | exact Below.refl _ _ | refine Below.drew ?_))⟩
set_option maxHeartbeats 2000000 in
theorem rPlus_fftt_ff (x y : Nat) (w : World)
    (H1 : Hid (∀ u, Calls Tryz.prog 72 #[.float .f64 x] u fun r w' => r = .returned (.bool false) ∧ w' = u))
    (H2 : Hid (∀ u, Calls Tryz.prog 72 #[.float .f64 y] u fun r w' => r = .returned (.bool false) ∧ w' = u))
    (H3 : Hid (∀ u, Calls Tryz.prog 73 #[.float .f64 x] u fun r w' => r = .returned (.bool true) ∧ w' = u))
    (H4 : Hid (∀ u, Calls Tryz.prog 73 #[.float .f64 y] u fun r w' => r = .returned (.bool true) ∧ w' = u))
    (H5 : Hid (∀ u, Calls Tryz.prog 74 #[.float .f64 x] u fun r w' => r = .returned (.bool false) ∧ w' = u))
    (H6 : Hid (∀ u, Calls Tryz.prog 74 #[.float .f64 y] u fun r w' => r = .returned (.bool false) ∧ w' = u)) :
    Calls Tryz.prog 42 #[.float .f64 x, .float .f64 y] w fun r w' => r = .returned (.float .f64 x) ∧ Below w.heap.size w w' := by
  go_enter Tryz.func42, Tryz.ntmps42
  go_wp2_with fail
  refine (Calls.mono (H1.out _)) ?_
  rintro r wx ⟨rfl, hw⟩
  rw [hw]
  clear hw wx H1
  go_wp2_with fail
  refine (Calls.mono (H2.out _)) ?_
  rintro r wx ⟨rfl, hw⟩
  rw [hw]
  clear hw wx H2
  go_wp2_with fail
  refine (Calls.mono (H3.out _)) ?_
  rintro r wx ⟨rfl, hw⟩
  rw [hw]
  clear hw wx H3
  go_wp2_with fail
  refine (Calls.mono (H4.out _)) ?_
  rintro r wx ⟨rfl, hw⟩
  rw [hw]
  clear hw wx H4
  go_wp2_with fail
  refine (Calls.mono (H5.out _)) ?_
  rintro r wx ⟨rfl, hw⟩
  rw [hw]
  clear hw wx H5
  go_wp2_with fail
  refine (Calls.mono (H6.out _)) ?_
  rintro r wx ⟨rfl, hw⟩
  rw [hw]
  clear hw wx H6
  go_wp2
  exact bodyPost_ret (v := .float .f64 x) (by simp [results, Tryz.results42, go_sem]) rfl ⟨rfl, (by repeat (first | exact Below.refl _ _ | refine Below.drew ?_))⟩
set_option maxHeartbeats 2000000 in
theorem rPlus_fftt_ft (x y : Nat) (w : World)
    (H1 : Hid (∀ u, Calls Tryz.prog 72 #[.float .f64 x] u fun r w' => r = .returned (.bool false) ∧ w' = u))
    (H2 : Hid (∀ u, Calls Tryz.prog 72 #[.float .f64 y] u fun r w' => r = .returned (.bool false) ∧ w' = u))
    (H3 : Hid (∀ u, Calls Tryz.prog 73 #[.float .f64 x] u fun r w' => r = .returned (.bool true) ∧ w' = u))
    (H4 : Hid (∀ u, Calls Tryz.prog 73 #[.float .f64 y] u fun r w' => r = .returned (.bool true) ∧ w' = u))
    (H5 : Hid (∀ u, Calls Tryz.prog 74 #[.float .f64 x] u fun r w' => r = .returned (.bool false) ∧ w' = u))
    (H6 : Hid (∀ u, Calls Tryz.prog 74 #[.float .f64 y] u fun r w' => r = .returned (.bool true) ∧ w' = u)) :
    Calls Tryz.prog 42 #[.float .f64 x, .float .f64 y] w fun r w' => r = .returned (.float .f64 oddW) ∧ Below w.heap.size w w' := by
  have HO := hid fun u => rOdd_any u
  go_enter Tryz.func42, Tryz.ntmps42
  go_wp2_with fail
  refine (Calls.mono (H1.out _)) ?_
  rintro r wx ⟨rfl, hw⟩
  rw [hw]
  clear hw wx H1
  go_wp2_with fail
  refine (Calls.mono (H2.out _)) ?_
  rintro r wx ⟨rfl, hw⟩
  rw [hw]
  clear hw wx H2
  go_wp2_with fail
  refine (Calls.mono (H3.out _)) ?_
  rintro r wx ⟨rfl, hw⟩
  rw [hw]
  clear hw wx H3
  go_wp2_with fail
  refine (Calls.mono (H4.out _)) ?_
  rintro r wx ⟨rfl, hw⟩
  rw [hw]
  clear hw wx H4
  go_wp2_with fail
  refine (Calls.mono (H5.out _)) ?_
  rintro r wx ⟨rfl, hw⟩
  rw [hw]
  clear hw wx H5
  go_wp2_with fail
  refine (Calls.mono (H6.out _)) ?_
  rintro r wx ⟨rfl, hw⟩
  rw [hw]
  clear hw wx H6
  go_wp2_with fail
  refine (Calls.mono (HO.out _)) ?_
  rintro r wx ⟨rfl, hw⟩
  rw [hw]
  clear hw wx HO
  go_wp2
  exact bodyPost_ret (v := .float .f64 oddW) (by simp [results, Tryz.results42, go_sem]) rfl ⟨rfl, (by repeat (first | exact Below.refl _ _ | refine Below.drew ?_))⟩
set_option maxHeartbeats 2000000 in
theorem rPlus_fftt_tf (x y : Nat) (w : World)
    (H1 : Hid (∀ u, Calls Tryz.prog 72 #[.float .f64 x] u fun r w' => r = .returned (.bool false) ∧ w' = u))
    (H2 : Hid (∀ u, Calls Tryz.prog 72 #[.float .f64 y] u fun r w' => r = .returned (.bool false) ∧ w' = u))
    (H3 : Hid (∀ u, Calls Tryz.prog 73 #[.float .f64 x] u fun r w' => r = .returned (.bool true) ∧ w' = u))
    (H4 : Hid (∀ u, Calls Tryz.prog 73 #[.float .f64 y] u fun r w' => r = .returned (.bool true) ∧ w' = u))
    (H5 : Hid (∀ u, Calls Tryz.prog 74 #[.float .f64 x] u fun r w' => r = .returned (.bool true) ∧ w' = u))
    (H6 : Hid (∀ u, Calls Tryz.prog 74 #[.float .f64 y] u fun r w' => r = .returned (.bool false) ∧ w' = u)) :
    Calls Tryz.prog 42 #[.float .f64 x, .float .f64 y] w fun r w' => r = .returned (.float .f64 oddW) ∧ Below w.heap.size w w' := by
  have HO := hid fun u => rOdd_any u
  go_enter Tryz.func42, Tryz.ntmps42
  go_wp2_with fail
  refine (Calls.mono (H1.out _)) ?_
  rintro r wx ⟨rfl, hw⟩
  rw [hw]
  clear hw wx H1
  go_wp2_with fail
  refine (Calls.mono (H2.out _)) ?_
  rintro r wx ⟨rfl, hw⟩
  rw [hw]
  clear hw wx H2
  go_wp2_with fail
  refine (Calls.mono (H3.out _)) ?_
  rintro r wx ⟨rfl, hw⟩
  rw [hw]
  clear hw wx H3
  go_wp2_with fail
  refine (Calls.mono (H4.out _)) ?_
  rintro r wx ⟨rfl, hw⟩
  rw [hw]
  clear hw wx H4
  go_wp2_with fail
  refine (Calls.mono (H5.out _)) ?_
  rintro r wx ⟨rfl, hw⟩
  rw [hw]
  clear hw wx H5
  go_wp2_with fail
  refine (Calls.mono (H6.out _)) ?_
  rintro r wx ⟨rfl, hw⟩
  rw [hw]
  clear hw wx H6
  go_wp2_with fail
  refine (Calls.mono (HO.out _)) ?_
  rintro r wx ⟨rfl, hw⟩
  rw [hw]
  clear hw wx HO
  go_wp2
  exact bodyPost_ret (v := .float .f64 oddW) (by simp [results, Tryz.results42, go_sem]) rfl ⟨rfl, (by repeat (first | exact Below.refl _ _ | refine Below.drew ?_))⟩
set_option maxHeartbeats 2000000 in
theorem rPlus_fftt_tt (x y : Nat) (w : World)
    (H1 : Hid (∀ u, Calls Tryz.prog 72 #[.float .f64 x] u fun r w' => r = .returned (.bool false) ∧ w' = u))
    (H2 : Hid (∀ u, Calls Tryz.prog 72 #[.float .f64 y] u fun r w' => r = .returned (.bool false) ∧ w' = u))
    (H3 : Hid (∀ u, Calls Tryz.prog 73 #[.float .f64 x] u fun r w' => r = .returned (.bool true) ∧ w' = u))
    (H4 : Hid (∀ u, Calls Tryz.prog 73 #[.float .f64 y] u fun r w' => r = .returned (.bool true) ∧ w' = u))
    (H5 : Hid (∀ u, Calls Tryz.prog 74 #[.float .f64 x] u fun r w' => r = .returned (.bool true) ∧ w' = u))
    (H6 : Hid (∀ u, Calls Tryz.prog 74 #[.float .f64 y] u fun r w' => r = .returned (.bool true) ∧ w' = u)) :
    Calls Tryz.prog 42 #[.float .f64 x, .float .f64 y] w fun r w' => r = .returned (.float .f64 x) ∧ Below w.heap.size w w' := by
  go_enter Tryz.func42, Tryz.ntmps42
  go_wp2_with fail
  refine (Calls.mono (H1.out _)) ?_
  rintro r wx ⟨rfl, hw⟩
  rw [hw]
  clear hw wx H1
  go_wp2_with fail
  refine (Calls.mono (H2.out _)) ?_
  rintro r wx ⟨rfl, hw⟩
  rw [hw]
  clear hw wx H2
  go_wp2_with fail
  refine (Calls.mono (H3.out _)) ?_
  rintro r wx ⟨rfl, hw⟩
  rw [hw]
  clear hw wx H3
  go_wp2_with fail
  refine (Calls.mono (H4.out _)) ?_
  rintro r wx ⟨rfl, hw⟩
  rw [hw]
  clear hw wx H4
  go_wp2_with fail
  refine (Calls.mono (H5.out _)) ?_
  rintro r wx ⟨rfl, hw⟩
  rw [hw]
  clear hw wx H5
  go_wp2_with fail
  refine (Calls.mono (H6.out _)) ?_
  rintro r wx ⟨rfl, hw⟩
  rw [hw]
  clear hw wx H6
  go_wp2
  exact bodyPost_ret (v := .float .f64 x) (by simp [results, Tryz.results42, go_sem]) rfl ⟨rfl, (by repeat (first | exact Below.refl _ _ | refine Below.drew ?_))⟩
end Go.Proofs.YteoednbmhiblfaaGreatDoor

/- The document's Plus, Times at finite numbers. -/
namespace Go.Proofs.YteoednbmhiblfaaGreatDoor
open Go.RowKit
set_option linter.unusedVariables false
set_option maxRecDepth 20000
set_option linter.unusedSimpArgs false
attribute [local go_sem] st_float
set_option maxHeartbeats 4000000 in
theorem rPlus_num (x y z : Nat) (nx ny nX nY nS : Bool) (X Y S : Nat) (eX eY eS : Int) (w : World) (lX : (ws X).length ≤ 8192) (lY : (ws Y).length ≤ 8192) (lS : (ws S).length ≤ 8192) (hS : ((((ws S).length : Nat) : Int) == 0) = false) 
    (H1 : Hid (∀ u, Calls Tryz.prog 72 #[.float .f64 x] u fun r w' => r = .returned (.bool false) ∧ w' = u))
    (H2 : Hid (∀ u, Calls Tryz.prog 72 #[.float .f64 y] u fun r w' => r = .returned (.bool false) ∧ w' = u))
    (H3 : Hid (∀ u, Calls Tryz.prog 73 #[.float .f64 x] u fun r w' => r = .returned (.bool false) ∧ w' = u))
    (H4 : Hid (∀ u, Calls Tryz.prog 73 #[.float .f64 y] u fun r w' => r = .returned (.bool false) ∧ w' = u))
    (HX : Hid (∀ u, Calls Tryz.prog 76 #[.float .f64 x] u fun r w' => (∃ v, r = .returned (.tuple #[.agg #[.bool nX, v, .int .i64 eX], .int .i64 0]) ∧ Nt u.heap.size w' v X) ∧ Below u.heap.size u w'))
    (HY : Hid (∀ u, Calls Tryz.prog 76 #[.float .f64 y] u fun r w' => (∃ v, r = .returned (.tuple #[.agg #[.bool nY, v, .int .i64 eY], .int .i64 0]) ∧ Nt u.heap.size w' v Y) ∧ Below u.heap.size u w'))
    (HA : Hid (∀ u a b c d, Arg u a (ws X).length c (ws X) → Arg u b (ws Y).length d (ws Y) → Calls Tryz.prog 77 #[.agg #[.bool nX, .slice a (ws X).length c, .int .i64 eX], .agg #[.bool nY, .slice b (ws Y).length d, .int .i64 eY]] u fun r w' => (∃ v, r = .returned (.tuple #[.agg #[.bool nS, v, .int .i64 eS], .int .i64 0]) ∧ Nt u.heap.size w' v S) ∧ Below u.heap.size u w'))
    (HR : Hid (∀ u a c, Arg u a (ws S).length c (ws S) → Calls Tryz.prog 79 #[.agg #[.bool nS, .slice a (ws S).length c, .int .i64 eS], .int .i64 0] u fun r w' => r = .returned (.tuple #[.float .f64 z, .int .i64 0]) ∧ Below u.heap.size u w')) :
    Calls Tryz.prog 42 #[.float .f64 x, .float .f64 y] w fun r w' => r = .returned (.float .f64 z) ∧ Below w.heap.size w w' := by
  go_enter Tryz.func42, Tryz.ntmps42
  go_wp2_with fail
  refine (Calls.mono (H1.out _)) ?_
  rintro r wx ⟨rfl, hw⟩
  rw [hw]
  clear hw wx H1
  go_wp2_with fail
  refine (Calls.mono (H2.out _)) ?_
  rintro r wx ⟨rfl, hw⟩
  rw [hw]
  clear hw wx H2
  go_wp2_with fail
  refine (Calls.mono (H3.out _)) ?_
  rintro r wx ⟨rfl, hw⟩
  rw [hw]
  clear hw wx H3
  go_wp2_with fail
  refine (Calls.mono (H4.out _)) ?_
  rintro r wx ⟨rfl, hw⟩
  rw [hw]
  clear hw wx H4
  go_wp2_with fail
  refine (Calls.mono (HX.out _)) ?_
  rintro r w1 ⟨⟨v1, rfl, N1⟩, hb1⟩
  clear HX
  obtain ⟨a1, c1, rfl, A1⟩ := N1.arg (by omega)
  clear N1
  have hz1 : w.heap.size ≤ w1.heap.size := hb1.size
  have S1 := Aside.intro hb1
  clear hb1
  go_wp2_with fail
  refine (Calls.mono (HY.out _)) ?_
  rintro r w2 ⟨⟨v2, rfl, N2⟩, hb2⟩
  clear HY
  obtain ⟨a2, c2, rfl, A2⟩ := N2.arg (by omega)
  clear N2
  have hz2 : w1.heap.size < w2.heap.size := by
    have := hb2.size
    simp only [World.size_alloc, World.size_setCell] at this
    omega
  have B12 := Aside.intro (Below.trans (B := w1.heap.size) (a := w1) (by repeat (first | exact Below.refl _ _ | assumption | exact Nat.le_refl _ | (simp only [World.size_alloc, World.size_setCell]; omega) | omega | refine Below.alloc ?_ ?_ _ | refine Below.setCell ?_ ?_ _ | refine Below.drew ?_)) (hb2.mono (by simp only [World.size_alloc, World.size_setCell]; omega)))
  have A1' := A1.below B12.out
  clear A1
  obtain ⟨hc2, hf2⟩ := bcell hb2
  clear hb2
  have c2_0 : w2.cell? ⟨w1.heap.size, 0, none⟩ = some (.bool nX) := by
    rw [hc2 _ _ (by simp only [World.size_alloc, World.size_setCell]; omega)]
    simp [go_sem]
  have c2_1 : w2.cell? ⟨w1.heap.size, 1, none⟩ = some (.slice a1 (ws X).length c1) := by
    rw [hc2 _ _ (by simp only [World.size_alloc, World.size_setCell]; omega)]
    simp [go_sem]
  have c2_2 : w2.cell? ⟨w1.heap.size, 2, none⟩ = some (.int .i64 eX) := by
    rw [hc2 _ _ (by simp only [World.size_alloc, World.size_setCell]; omega)]
    simp [go_sem]
  clear hc2 hf2
  have n12 : w1.heap.size ≠ w2.heap.size := by omega
  go_wp2_with fail
  refine (Calls.mono (HA.out _ a1 a2 c1 c2 (A1'.below (by repeat (first | exact Below.refl _ _ | assumption | exact Nat.le_refl _ | (simp only [World.size_alloc, World.size_setCell]; omega) | omega | refine Below.alloc ?_ ?_ _ | refine Below.setCell ?_ ?_ _ | refine Below.drew ?_))) (A2.below (by repeat (first | exact Below.refl _ _ | assumption | exact Nat.le_refl _ | (simp only [World.size_alloc, World.size_setCell]; omega) | omega | refine Below.alloc ?_ ?_ _ | refine Below.setCell ?_ ?_ _ | refine Below.drew ?_))))) ?_
  rintro r w3 ⟨⟨v3, rfl, N3⟩, hb3⟩
  clear HA A1' A2
  obtain ⟨a3, c3, rfl, A3⟩ := N3.arg (by omega)
  clear N3
  have hz3 : w2.heap.size < w3.heap.size := by
    have := hb3.size
    simp only [World.size_alloc, World.size_setCell] at this
    omega
  have B23 := Aside.intro (Below.trans (B := w2.heap.size) (a := w2) (by repeat (first | exact Below.refl _ _ | assumption | exact Nat.le_refl _ | (simp only [World.size_alloc, World.size_setCell]; omega) | omega | refine Below.alloc ?_ ?_ _ | refine Below.setCell ?_ ?_ _ | refine Below.drew ?_)) (hb3.mono (by simp only [World.size_alloc, World.size_setCell]; omega)))
  clear hb3
  clear c2_0 c2_1 c2_2
  go_wp2_with fail
  refine (Calls.mono (HR.out _ a3 c3 (A3.below (by repeat (first | exact Below.refl _ _ | assumption | exact Nat.le_refl _ | (simp only [World.size_alloc, World.size_setCell]; omega) | omega | refine Below.alloc ?_ ?_ _ | refine Below.setCell ?_ ?_ _ | refine Below.drew ?_))))) ?_
  rintro r w4 ⟨rfl, hb4⟩
  clear HR
  have B34 := Aside.intro (Below.trans (B := w3.heap.size) (a := w3) (by repeat (first | exact Below.refl _ _ | assumption | exact Nat.le_refl _ | (simp only [World.size_alloc, World.size_setCell]; omega) | omega | refine Below.alloc ?_ ?_ _ | refine Below.setCell ?_ ?_ _ | refine Below.drew ?_)) (hb4.mono (by simp only [World.size_alloc, World.size_setCell]; omega)))
  clear hb4
  have F := Aside.intro (S1.out.trans ((B12.out.mono hz1).trans ((B23.out.mono (by omega)).trans (B34.out.mono (by omega)))))
  go_wp2
  exact bodyPost_ret (v := .float .f64 z) (by simp [results, Tryz.results42, go_sem]) rfl ⟨rfl, (by have := F.out; clear S1 B12 B23 B34 F; repeat (first | exact Below.refl _ _ | assumption | exact Nat.le_refl _ | (simp only [World.size_alloc, World.size_setCell]; omega) | omega | refine Below.alloc ?_ ?_ _ | refine Below.setCell ?_ ?_ _ | refine Below.drew ?_))⟩
end Go.Proofs.YteoednbmhiblfaaGreatDoor

