/- Dyads are a ring; Cmp is the Sign of Sub. -/
import Derived.Test.YtfaaidnhmddibaaDoorD40
namespace Go.Proofs.YtfaaidnhmddibaaDoor
open Go.RowKit
set_option linter.unusedVariables false
set_option maxRecDepth 20000

/-- What an answer is when it is handed in again. -/
def rf (o : Option (Bool × Nat × Int)) : Option (Bool × Nat × Int) := mkS (dN o) (dX o) (dE o)
theorem mkS_idem {n : Bool} {X : Nat} {e : Int} (F : Frm n X e) : mkS n X e = some (n, X, e) := by
  unfold mkS
  rcases F.odd with h | ⟨rfl, rfl, rfl⟩
  · have h1 := F.size; have h2 := F.up; have h3 := F.down
    rw [if_neg (by omega), lo_odd1 h, if_neg (by omega), Nat.pow_zero, Nat.div_one]
    simp
  · rw [if_pos rfl]
theorem rf_some {o : Option (Bool × Nat × Int)} {n : Bool} {X : Nat} {e : Int} (h : o = some (n, X, e)) (F : Frm n X e) : rf o = some (n, X, e) := by
  subst h; exact mkS_idem F
theorem addUp_frm {n m : Bool} {X Y : Nat} {e f : Int} {n' : Bool} {Z : Nat} {g : Int} (h : addUp n X e m Y f = some (n', Z, g)) : Frm n' Z g := by
  unfold addUp at h
  split at h
  · cases h
  · split at h
    · exact mkS_frm h
    · split at h
      · exact mkS_frm h
      · exact mkS_frm h
theorem addF_frm {n m : Bool} {X Y : Nat} {e f : Int} (FX : Frm n X e) (FY : Frm m Y f) {n' : Bool} {Z : Nat} {g : Int} (h : addF (n, X, e) (m, Y, f) = some (n', Z, g)) : Frm n' Z g := by
  unfold addF at h
  simp only at h
  split at h
  · cases h; exact FY
  · split at h
    · cases h; exact FX
    · split at h
      · exact addUp_frm h
      · exact addUp_frm h
theorem addD_some {o p : Option (Bool × Nat × Int)} (h : (addD o p).isSome = true) : ∃ x y z, o = some x ∧ p = some y ∧ addF x y = some z ∧ addD o p = some z := by
  cases o with
  | none => cases h
  | some x =>
    cases p with
    | none => cases h
    | some y =>
      obtain ⟨z, hz⟩ := Option.isSome_iff_exists.1 h
      exact ⟨x, y, z, rfl, rfl, hz, hz⟩
theorem mulD_some {o p : Option (Bool × Nat × Int)} (h : (mulD o p).isSome = true) : ∃ x y z, o = some x ∧ p = some y ∧ mulF x y = some z ∧ mulD o p = some z := by
  cases o with
  | none => cases h
  | some x =>
    cases p with
    | none => cases h
    | some y =>
      obtain ⟨z, hz⟩ := Option.isSome_iff_exists.1 h
      exact ⟨x, y, z, rfl, rfl, hz, hz⟩

/-- A form whose value is known. -/
structure Fv (B : Int) (o : Option (Bool × Nat × Int)) (z : Int) : Prop where
  ex : ∃ n X e, o = some (n, X, e) ∧ Frm n X e ∧ zv B (n, X, e) = z
theorem Frm.base {n : Bool} {X : Nat} {e : Int} (F : Frm n X e) {B : Int} (hB : B ≤ -1048576) : X = 0 ∨ B ≤ e := .inr (by have := F.down; omega)
theorem Fv.rf {B : Int} {o : Option (Bool × Nat × Int)} {z : Int} (h : Fv B o z) : Fv B (rf o) z := by
  obtain ⟨n, X, e, rfl, F, hz⟩ := h.ex
  exact ⟨n, X, e, mkS_idem F, F, hz⟩
theorem Fv.add {B : Int} (hB : B ≤ -1048576) {o p : Option (Bool × Nat × Int)} {x y : Int} (h1 : Fv B o x) (h2 : Fv B p y) (h : (addD o p).isSome = true) : Fv B (addD o p) (x + y) := by
  obtain ⟨n, X, e, rfl, F, rfl⟩ := h1.ex
  obtain ⟨m, Y, f, rfl, G, rfl⟩ := h2.ex
  obtain ⟨_, _, z, e1, e2, hz, hd⟩ := addD_some h
  cases e1; cases e2
  obtain ⟨n', Z, g⟩ := z
  exact ⟨n', Z, g, hd, addF_frm F G hz, zv_addF hz B (F.base hB) (G.base hB)⟩
theorem Fv.mul {B C : Int} (hB : B ≤ -1048576) (hC : C ≤ -1048576) {o p : Option (Bool × Nat × Int)} {x y : Int} (h1 : Fv B o x) (h2 : Fv C p y) (h : (mulD o p).isSome = true) : Fv (B + C) (mulD o p) (x * y) := by
  obtain ⟨n, X, e, rfl, F, rfl⟩ := h1.ex
  obtain ⟨m, Y, f, rfl, G, rfl⟩ := h2.ex
  obtain ⟨_, _, z, e1, e2, hz, hd⟩ := mulD_some h
  cases e1; cases e2
  obtain ⟨n', Z, g⟩ := z
  exact ⟨n', Z, g, hd, mkS_frm hz, zv_mulF hz B C (F.base hB) (G.base hC)⟩
theorem Fv.same {B : Int} (hB : B ≤ -1048576) {o p : Option (Bool × Nat × Int)} {x y : Int} (h1 : Fv B o x) (h2 : Fv B p y) (h : x = y) : dN o = dN p ∧ dX o = dX p ∧ dE o = dE p := by
  obtain ⟨n, X, e, rfl, F, rfl⟩ := h1.ex
  obtain ⟨m, Y, f, rfl, G, rfl⟩ := h2.ex
  exact zv_inj F G B hB h
theorem Fv.raw {n : Bool} {X : Nat} {e B : Int} (hB : B ≤ e) (h : (mkS n X e).isSome = true) : Fv B (mkS n X e) (sg1 n * ((X * 2 ^ (e - B).toNat : Nat) : Int)) := by
  obtain ⟨⟨n', Y, f⟩, hz⟩ := Option.isSome_iff_exists.1 h
  exact ⟨n', Y, f, hz, mkS_frm hz, zv_mkS hz B (.inr hB)⟩
theorem Fv.neg {n : Bool} {X : Nat} {e B : Int} (hB : B ≤ e) (h : (mkS n X e).isSome = true) : Fv B (mkS (!n) X e) (-(sg1 n * ((X * 2 ^ (e - B).toNat : Nat) : Int))) := by
  have h2 : (mkS (!n) X e).isSome = true := by
    unfold mkS at h ⊢
    split
    · rfl
    · rename_i h0
      rw [if_neg h0] at h
      split
      · rename_i h1; rw [if_pos h1] at h; cases h
      · rfl
  have := Fv.raw hB h2
  rw [sg1_not, Int.neg_mul] at this
  exact this

/-- All of them. -/
theorem ring_eq (nA : Bool) (XA : Nat) (eA : Int) (nB : Bool) (XB : Nat) (eB : Int) (nC : Bool) (XC : Nat) (eC : Int)
    (h1 : (addD (mkS nA XA eA) (mkS nB XB eB)).isSome = true) (h2 : (addD (mkS nB XB eB) (mkS nC XC eC)).isSome = true)
    (h3 : (addD (rf (addD (mkS nA XA eA) (mkS nB XB eB))) (mkS nC XC eC)).isSome = true) (h4 : (addD (mkS nA XA eA) (rf (addD (mkS nB XB eB) (mkS nC XC eC)))).isSome = true)
    (h5 : (mulD (mkS nA XA eA) (mkS nB XB eB)).isSome = true) (h6 : (mulD (rf (mulD (mkS nA XA eA) (mkS nB XB eB))) (mkS nC XC eC)).isSome = true)
    (h7 : (mulD (mkS nB XB eB) (mkS nC XC eC)).isSome = true) (h8 : (mulD (mkS nA XA eA) (rf (mulD (mkS nB XB eB) (mkS nC XC eC)))).isSome = true)
    (h9 : (mulD (mkS nA XA eA) (rf (addD (mkS nB XB eB) (mkS nC XC eC)))).isSome = true)
    (h11 : (mulD (mkS nA XA eA) (mkS nC XC eC)).isSome = true) (h12 : (addD (rf (mulD (mkS nA XA eA) (mkS nB XB eB))) (rf (mulD (mkS nA XA eA) (mkS nC XC eC)))).isSome = true)
    (h13 : (addD (rf (addD (mkS nA XA eA) (mkS nB XB eB))) (rf (mkS (!nB) XB eB))).isSome = true) :
    (dN (addD (rf (addD (mkS nA XA eA) (mkS nB XB eB))) (mkS nC XC eC)) = dN (addD (mkS nA XA eA) (rf (addD (mkS nB XB eB) (mkS nC XC eC)))) ∧ dX (addD (rf (addD (mkS nA XA eA) (mkS nB XB eB))) (mkS nC XC eC)) = dX (addD (mkS nA XA eA) (rf (addD (mkS nB XB eB) (mkS nC XC eC)))) ∧ dE (addD (rf (addD (mkS nA XA eA) (mkS nB XB eB))) (mkS nC XC eC)) = dE (addD (mkS nA XA eA) (rf (addD (mkS nB XB eB) (mkS nC XC eC))))) ∧
    (dN (mulD (rf (mulD (mkS nA XA eA) (mkS nB XB eB))) (mkS nC XC eC)) = dN (mulD (mkS nA XA eA) (rf (mulD (mkS nB XB eB) (mkS nC XC eC)))) ∧ dX (mulD (rf (mulD (mkS nA XA eA) (mkS nB XB eB))) (mkS nC XC eC)) = dX (mulD (mkS nA XA eA) (rf (mulD (mkS nB XB eB) (mkS nC XC eC)))) ∧ dE (mulD (rf (mulD (mkS nA XA eA) (mkS nB XB eB))) (mkS nC XC eC)) = dE (mulD (mkS nA XA eA) (rf (mulD (mkS nB XB eB) (mkS nC XC eC))))) ∧
    (dN (mulD (mkS nA XA eA) (rf (addD (mkS nB XB eB) (mkS nC XC eC)))) = dN (addD (rf (mulD (mkS nA XA eA) (mkS nB XB eB))) (rf (mulD (mkS nA XA eA) (mkS nC XC eC)))) ∧ dX (mulD (mkS nA XA eA) (rf (addD (mkS nB XB eB) (mkS nC XC eC)))) = dX (addD (rf (mulD (mkS nA XA eA) (mkS nB XB eB))) (rf (mulD (mkS nA XA eA) (mkS nC XC eC)))) ∧ dE (mulD (mkS nA XA eA) (rf (addD (mkS nB XB eB) (mkS nC XC eC)))) = dE (addD (rf (mulD (mkS nA XA eA) (mkS nB XB eB))) (rf (mulD (mkS nA XA eA) (mkS nC XC eC))))) ∧
    (dN (addD (rf (addD (mkS nA XA eA) (mkS nB XB eB))) (rf (mkS (!nB) XB eB))) = dN (mkS nA XA eA) ∧ dX (addD (rf (addD (mkS nA XA eA) (mkS nB XB eB))) (rf (mkS (!nB) XB eB))) = dX (mkS nA XA eA) ∧ dE (addD (rf (addD (mkS nA XA eA) (mkS nB XB eB))) (rf (mkS (!nB) XB eB))) = dE (mkS nA XA eA)) := by
  obtain ⟨B, hB⟩ : ∃ B : Int, B ≤ -1048576 ∧ B ≤ eA ∧ B ≤ eB ∧ B ≤ eC := ⟨min (-1048576) (min eA (min eB eC)), by omega⟩
  obtain ⟨hB0, hBA, hBB, hBC⟩ := hB
  have sA : (mkS nA XA eA).isSome = true := by obtain ⟨x, y, z, e1, e2, _⟩ := addD_some h1; rw [e1]; rfl
  have sB : (mkS nB XB eB).isSome = true := by obtain ⟨x, y, z, e1, e2, _⟩ := addD_some h1; rw [e2]; rfl
  have sC : (mkS nC XC eC).isSome = true := by obtain ⟨x, y, z, e1, e2, _⟩ := addD_some h2; rw [e2]; rfl
  have FA := Fv.raw hBA sA
  have FB := Fv.raw hBB sB
  have FC := Fv.raw hBC sC
  have FN := Fv.neg hBB sB
  generalize sg1 nA * ((XA * 2 ^ (eA - B).toNat : Nat) : Int) = a at FA
  generalize sg1 nB * ((XB * 2 ^ (eB - B).toNat : Nat) : Int) = b at FB FN
  generalize sg1 nC * ((XC * 2 ^ (eC - B).toNat : Nat) : Int) = c at FC
  have F1 := FA.add hB0 FB h1
  have F2 := FB.add hB0 FC h2
  have F3 := F1.rf.add hB0 FC h3
  have F4 := FA.add hB0 F2.rf h4
  have F5 := FA.mul hB0 hB0 FB h5
  have F6 := F5.rf.mul (by omega) hB0 FC h6
  have F7 := FB.mul hB0 hB0 FC h7
  have F8 := FA.mul hB0 (by omega) F7.rf h8
  have F9 := FA.mul hB0 hB0 F2.rf h9
  have F11 := FA.mul hB0 hB0 FC h11
  have F12 := F5.rf.add (by omega) F11.rf h12
  have F13 := F1.rf.add hB0 FN.rf h13
  refine ⟨F3.same hB0 F4 (by omega), ?_, F9.same (by omega) F12 (by rw [Int.mul_add]), F13.same hB0 FA (by omega)⟩
  rw [Int.add_assoc] at F6
  exact F6.same (by omega) F8 (by rw [Int.mul_assoc])

theorem cmpI_scale (x y k : Nat) (hk : 0 < k) : cmpI (x * k) (y * k) = cmpI x y := by
  unfold cmpI
  simp only [Nat.mul_lt_mul_right hk]
theorem cmpP_base (X : Nat) (e : Int) (Y : Nat) (f B : Int) (h1 : B ≤ e) (h2 : B ≤ f) : cmpP X e Y f = cmpI (X * 2 ^ (e - B).toNat) (Y * 2 ^ (f - B).toNat) := by
  unfold cmpP
  by_cases h : e < f
  · rw [if_pos h, ← cmpI_scale _ _ (2 ^ (e - B).toNat) (Nat.two_pow_pos _), Nat.mul_assoc, ← Nat.pow_add, show (f - e).toNat + (e - B).toNat = (f - B).toNat by omega]
  · rw [if_neg h, ← cmpI_scale _ _ (2 ^ (f - B).toNat) (Nat.two_pow_pos _), Nat.mul_assoc, ← Nat.pow_add, show (e - f).toNat + (f - B).toNat = (e - B).toNat by omega]
theorem pos_iff (X k : Nat) : X * 2 ^ k = 0 ↔ X = 0 := by
  constructor
  · intro h
    rcases Nat.mul_eq_zero.1 h with h | h
    · exact h
    · have := Nat.two_pow_pos k; omega
  · rintro rfl; exact Nat.zero_mul _
theorem cmpV_z (n : Bool) (X : Nat) (e : Int) (m : Bool) (Y : Nat) (f B : Int) (h1 : B ≤ e) (h2 : B ≤ f) : cmpV n X e m Y f = cmpZ (sg1 n * ((X * 2 ^ (e - B).toNat : Nat) : Int)) (sg1 m * ((Y * 2 ^ (f - B).toNat : Nat) : Int)) := by
  unfold cmpV
  rw [cmpP_base X e Y f B h1 h2, cmpP_base Y f X e B h2 h1]
  have p1 := pos_iff X (e - B).toNat
  have p2 := pos_iff Y (f - B).toNat
  generalize X * 2 ^ (e - B).toNat = P at p1
  generalize Y * 2 ^ (f - B).toNat = Q at p2
  unfold sgn cmpZ cmpI sg1
  have q1 : X = 0 ∧ P = 0 ∨ X ≠ 0 ∧ 0 < P := by
    by_cases h : X = 0
    · exact .inl ⟨h, p1.2 h⟩
    · exact .inr ⟨h, Nat.pos_of_ne_zero fun k => h (p1.1 k)⟩
  have q2 : Y = 0 ∧ Q = 0 ∨ Y ≠ 0 ∧ 0 < Q := by
    by_cases h : Y = 0
    · exact .inl ⟨h, p2.2 h⟩
    · exact .inr ⟨h, Nat.pos_of_ne_zero fun k => h (p2.1 k)⟩
  clear p1 p2
  rcases q1 with ⟨hX, hP⟩ | ⟨hX, hP⟩ <;> rcases q2 with ⟨hY, hQ⟩ | ⟨hY, hQ⟩ <;> cases n <;> cases m <;> simp only [hX, hY, if_true, if_false, Bool.false_eq_true] <;> (repeat' split) <;> omega
theorem sgn_z (n : Bool) (X : Nat) (e B : Int) : sgn n X = cmpZ (zv B (n, X, e)) 0 := by
  unfold zv
  simp only
  have p1 := pos_iff X (e - B).toNat
  generalize X * 2 ^ (e - B).toNat = P at p1
  unfold sgn cmpZ sg1
  have q1 : X = 0 ∧ P = 0 ∨ X ≠ 0 ∧ 0 < P := by
    by_cases h : X = 0
    · exact .inl ⟨h, p1.2 h⟩
    · exact .inr ⟨h, Nat.pos_of_ne_zero fun k => h (p1.1 k)⟩
  clear p1
  rcases q1 with ⟨hX, hP⟩ | ⟨hX, hP⟩ <;> cases n <;> simp only [hX, if_true, if_false, Bool.false_eq_true] <;> (repeat' split) <;> omega
theorem cmpZ_sub (x y : Int) : cmpZ (x + -y) 0 = cmpZ x y := by
  unfold cmpZ
  (repeat' split) <;> omega
theorem sub_sign (nA : Bool) (XA : Nat) (eA : Int) (nB : Bool) (XB : Nat) (eB : Int) (sB : (mkS nB XB eB).isSome = true) (h : (addD (mkS nA XA eA) (mkS (!nB) XB eB)).isSome = true) :
    sgn (dN (addD (mkS nA XA eA) (mkS (!nB) XB eB))) (dX (addD (mkS nA XA eA) (mkS (!nB) XB eB))) = cmpV nA XA eA nB XB eB := by
  obtain ⟨B, hB⟩ : ∃ B : Int, B ≤ -1048576 ∧ B ≤ eA ∧ B ≤ eB := ⟨min (-1048576) (min eA eB), by omega⟩
  obtain ⟨hB0, hBA, hBB⟩ := hB
  have sA : (mkS nA XA eA).isSome = true := by obtain ⟨x, y, z, e1, e2, _⟩ := addD_some h; rw [e1]; rfl
  have FA := Fv.raw hBA sA
  have FN := Fv.neg hBB sB
  have F := FA.add hB0 FN h
  obtain ⟨n, X, e, ho, _, hz⟩ := F.ex
  rw [ho]
  show sgn n X = _
  rw [sgn_z n X e B, hz, cmpZ_sub, ← cmpV_z nA XA eA nB XB eB B hBA hBB]
end Go.Proofs.YtfaaidnhmddibaaDoor
