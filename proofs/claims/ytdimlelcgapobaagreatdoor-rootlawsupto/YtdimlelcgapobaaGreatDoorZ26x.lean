/- Ratios by value: sizes that nothing refuses, sums and products, what Cmp tells: plain mathematics. -/
import Derived.Test.YtdimlelcgapobaaGreatDoorZ20x
import Derived.Test.YtdimlelcgapobaaGreatDoorZ23x
import Derived.Test.YtdimlelcgapobaaGreatDoorZ10x
import Derived.Test.YtdimlelcgapobaaGreatDoorW33x
import Derived.ProofKit
import Derived.OpenShut
import Derived.ChangeOld
import Derived.ChangeArms
namespace Go.Proofs.YtdimlelcgapobaaGreatDoor
open Go.RowKit
set_option linter.unusedVariables false
set_option maxRecDepth 20000
set_option linter.unusedSimpArgs false

def Iv (o : Option (Bool × Nat × Int)) (lo hi : Int) : Prop := ∃ n X e, o = some (n, X, e) ∧ Frm n X e ∧ (X = 0 ∨ (lo ≤ e ∧ e + (bl X : Int) ≤ hi))
theorem Iv.some {o : Option (Bool × Nat × Int)} {a b : Int} (h : Iv o a b) : o.isSome = true := by obtain ⟨n, X, e, rfl, _⟩ := h; rfl
theorem Iv.mono {o : Option (Bool × Nat × Int)} {a b c d : Int} (h : Iv o a b) (h1 : c ≤ a) (h2 : b ≤ d) : Iv o c d := by
  obtain ⟨n, X, e, h, F, hb⟩ := h
  exact ⟨n, X, e, h, F, by omega⟩
theorem mkS_iv (n : Bool) (X : Nat) (e a b : Int) (h : X = 0 ∨ (a ≤ e ∧ e + (bl X : Int) ≤ b)) (hw : b - a ≤ 262144) (ha : -1048576 ≤ a) (hb : b ≤ 1048576) : Iv (mkS n X e) a b := by
  by_cases h0 : X = 0
  · subst h0
    rw [mkS_zero]
    exact ⟨false, 0, 0, rfl, ⟨.inr ⟨rfl, rfl, rfl⟩, by rw [bl_zero]; omega, by omega, by omega⟩, .inl rfl⟩
  · obtain ⟨h1, h2⟩ := h.resolve_left h0
    obtain ⟨k, o1, o2, o3⟩ := odd_part X h0
    have hp := bl_pos (X / 2 ^ lo X) (by omega)
    have e1 : mkS n X e = some (n, X / 2 ^ lo X, e + lo X) := by
      unfold mkS
      rw [if_neg h0, if_neg (by omega)]
    exact ⟨n, _, _, e1, mkS_frm e1, .inr (by omega)⟩
theorem bl_mul_le (X Y : Nat) : bl (X * Y) ≤ bl X + bl Y := bl_lt_pow (by rw [Nat.pow_add]; exact Nat.mul_lt_mul'' (bl_lt X) (bl_lt Y))
theorem Iv.mul {o p : Option (Bool × Nat × Int)} {a b c d : Int} (h1 : Iv o a b) (h2 : Iv p c d) (hw : (b + d) - (a + c) ≤ 262144) (hl : -1048576 ≤ a + c) (hh : b + d ≤ 1048576) : Iv (mulD o p) (a + c) (b + d) := by
  obtain ⟨n, X, e, rfl, F, hx⟩ := h1
  obtain ⟨m, Y, f, rfl, G, hy⟩ := h2
  show Iv (mkS (n != m) (X * Y) (e + f)) _ _
  refine mkS_iv _ _ _ _ _ ?_ hw hl hh
  rcases hx with rfl | hx
  · left; rw [Nat.zero_mul]
  · rcases hy with rfl | hy
    · left; rw [Nat.mul_zero]
    · right
      have := bl_mul_le X Y
      omega
theorem pow_bound {X k : Nat} {j : Nat} (h : bl X + k ≤ j) : X * 2 ^ k < 2 ^ j := by
  have h1 := bl_lt X
  have h2 : X * 2 ^ k < 2 ^ bl X * 2 ^ k := Nat.mul_lt_mul_of_pos_right h1 (Nat.two_pow_pos k)
  rw [← Nat.pow_add] at h2
  exact Nat.lt_of_lt_of_le h2 (Nat.pow_le_pow_right (by decide) h)
theorem addUp_iv (n m : Bool) (X Y : Nat) (e f a b : Int) (hfe : f ≤ e) (ha : a ≤ f) (h1 : e + (bl X : Int) ≤ b) (h2 : f + (bl Y : Int) ≤ b) (hw : b + 1 - a ≤ 262144) (hl : -1048576 ≤ a) (hh : b + 1 ≤ 1048576) (hX : X ≠ 0) : Iv (addUp n X e m Y f) a (b + 1) := by
  have hp := bl_pos X hX
  unfold addUp
  rw [if_neg (by omega)]
  obtain ⟨j, hj⟩ : ∃ j : Nat, (j : Int) = b - f := ⟨(b - f).toNat, by omega⟩
  have b1 : X * 2 ^ (e - f).toNat < 2 ^ j := pow_bound (by omega)
  have b2 : Y < 2 ^ j := Nat.lt_of_lt_of_le (bl_lt Y) (Nat.pow_le_pow_right (by decide) (by omega))
  have fin : ∀ (s : Bool) (Z : Nat), Z < 2 ^ (j + 1) → Iv (mkS s Z f) a (b + 1) := by
    intro s Z hZ
    refine mkS_iv s Z f a (b + 1) ?_ hw hl hh
    by_cases h0 : Z = 0
    · exact .inl h0
    · right
      have := bl_lt_pow hZ
      omega
  have b3 : (2 : Nat) ^ (j + 1) = 2 * 2 ^ j := by rw [Nat.pow_succ, Nat.mul_comm]
  split
  · exact fin _ _ (by omega)
  · split
    · exact fin _ _ (by omega)
    · exact fin _ _ (by omega)
theorem Iv.add {o p : Option (Bool × Nat × Int)} {a b : Int} (h1 : Iv o a b) (h2 : Iv p a b) (hw : b + 1 - a ≤ 262144) (hl : -1048576 ≤ a) (hh : b + 1 ≤ 1048576) : Iv (addD o p) a (b + 1) := by
  have h1' := h1
  have h2' := h2
  obtain ⟨n, X, e, rfl, F, hx⟩ := h1
  obtain ⟨m, Y, f, rfl, G, hy⟩ := h2
  show Iv (addF (n, X, e) (m, Y, f)) a (b + 1)
  unfold addF
  simp only
  by_cases hX : X = 0
  · rw [if_pos hX]; exact h2'.mono (by omega) (by omega)
  · rw [if_neg hX]
    by_cases hY : Y = 0
    · rw [if_pos hY]; exact h1'.mono (by omega) (by omega)
    · rw [if_neg hY]
      have ex := hx.resolve_left hX
      have ey := hy.resolve_left hY
      split
      · exact addUp_iv m n Y X f e a b (by omega) ex.1 ey.2 ex.2 hw hl hh hY
      · exact addUp_iv n m X Y e f a b (by omega) ey.1 ex.2 ey.2 hw hl hh hX
theorem negO_frm {n : Bool} {X : Nat} {e : Int} (F : Frm n X e) : negO (some (n, X, e)) = some (if X = 0 then false else !n, X, e) := by
  show mkS (!n) X e = _
  rcases F.odd with h | ⟨rfl, rfl, rfl⟩
  · have hX : X ≠ 0 := by omega
    rw [if_neg hX]
    exact Frm.self ⟨.inl h, F.size, F.up, F.down⟩
  · rw [mkS_zero]; rfl
theorem Iv.neg {o : Option (Bool × Nat × Int)} {a b : Int} (h : Iv o a b) : Iv (negO o) a b := by
  obtain ⟨n, X, e, rfl, F, hx⟩ := h
  have h1 := negO_frm F
  have h2 : Frm (if X = 0 then false else !n) X e := by
    refine ⟨?_, F.size, F.up, F.down⟩
    rcases F.odd with h | ⟨rfl, rfl, rfl⟩
    · exact .inl h
    · exact .inr ⟨rfl, rfl, rfl⟩
  exact ⟨_, X, e, h1, h2, hx⟩
theorem Fv.negO {o : Option (Bool × Nat × Int)} {B z : Int} (h : Fv B o z) : Fv B (negO o) (-z) := by
  obtain ⟨n, X, e, rfl, F, rfl⟩ := h.ex
  have h1 := negO_frm F
  have h2 : Frm (if X = 0 then false else !n) X e := by
    refine ⟨?_, F.size, F.up, F.down⟩
    rcases F.odd with h | ⟨rfl, rfl, rfl⟩
    · exact .inl h
    · exact .inr ⟨rfl, rfl, rfl⟩
  refine ⟨_, X, e, h1, h2, ?_⟩
  by_cases hX : X = 0
  · rw [zv_zero B hX, zv_zero B hX]; rfl
  · rw [if_neg hX]
    unfold zv
    simp only
    rw [sg1_not, Int.neg_mul]
def valO (o : Option (Bool × Nat × Int)) : Int := zv (-1048576) (dN o, dX o, dE o)
theorem fvO {o : Option (Bool × Nat × Int)} {n : Bool} {X : Nat} {e : Int} (h : mkS n X e = o) (hs : o.isSome = true) : Fv (-1048576) o (valO o) := by
  cases o with
  | none => cases hs
  | some d => obtain ⟨n1, X1, e1⟩ := d; exact ⟨n1, X1, e1, rfl, mkS_frm h, rfl⟩
theorem Fv.pos {o : Option (Bool × Nat × Int)} {B z : Int} (h : Fv B o z) (hz : 0 < z) : dN o = false ∧ dX o ≠ 0 := by
  obtain ⟨n, X, e, rfl, F, rfl⟩ := h.ex
  have hX : X ≠ 0 := fun h0 => by rw [zv_zero B h0] at hz; omega
  refine ⟨?_, hX⟩
  show n = false
  cases n with
  | false => rfl
  | true =>
    unfold zv sg1 at hz
    simp only [if_true] at hz
    omega
theorem Fv.of_pos {o : Option (Bool × Nat × Int)} {B z : Int} (h : Fv B o z) (h1 : dN o = false) (h2 : dX o ≠ 0) : 0 < z := by
  obtain ⟨n, X, e, rfl, F, rfl⟩ := h.ex
  have hn : n = false := h1
  have hX : X ≠ 0 := h2
  subst hn
  have := Nat.mul_pos (Nat.pos_of_ne_zero hX) (Nat.two_pow_pos (e - B).toNat)
  unfold zv sg1
  simp only [Bool.false_eq_true, if_false]
  omega
theorem Fv.zero_iff {o : Option (Bool × Nat × Int)} {B z : Int} (h : Fv B o z) : dX o = 0 ↔ z = 0 := by
  obtain ⟨n, X, e, rfl, F, rfl⟩ := h.ex
  constructor
  · intro h0; exact zv_zero B h0
  · intro h0
    show X = 0
    rcases Nat.eq_zero_or_pos X with q | q
    · exact q
    · exfalso
      have := Nat.mul_pos q (Nat.two_pow_pos (e - B).toNat)
      unfold zv sg1 at h0
      cases n <;> simp only [Bool.false_eq_true, if_false, if_true] at h0 <;> omega
theorem Fv.neg_iff {o : Option (Bool × Nat × Int)} {B z : Int} (h : Fv B o z) : dN o = true ↔ z < 0 := by
  obtain ⟨n, X, e, rfl, F, rfl⟩ := h.ex
  show n = true ↔ _
  rcases F.odd with q | ⟨rfl, rfl, rfl⟩
  · have := Nat.mul_pos (show 0 < X by omega) (Nat.two_pow_pos (e - B).toNat)
    unfold zv sg1
    cases n <;> simp only [Bool.false_eq_true, if_false, if_true, false_iff, true_iff] <;> omega
  · simp [zv]
theorem Fv.reform {o : Option (Bool × Nat × Int)} {B z : Int} (h : Fv B o z) : mkS (dN o) (dX o) (dE o) = o := by
  obtain ⟨n, X, e, rfl, F, rfl⟩ := h.ex
  exact F.self
theorem cmpA_val {o1 o2 o3 o4 : Option (Bool × Nat × Int)} {B1 B2 B3 B4 a1 a2 a3 a4 : Int} (h1 : Fv B1 o1 a1) (h2 : Fv B2 o2 a2) (h3 : Fv B3 o3 a3) (h4 : Fv B4 o4 a4) (b1 : B1 ≤ -1048576) (b2 : B2 ≤ -1048576) (b3 : B3 ≤ -1048576) (b4 : B4 ≤ -1048576) (hB : B1 + B4 = B3 + B2) :
    cmpA o1 o2 o3 o4 = cmpZ (a1 * a4) (a3 * a2) := by
  obtain ⟨n1, X1, e1, rfl, F1, rfl⟩ := h1.ex
  obtain ⟨n2, X2, e2, rfl, F2, rfl⟩ := h2.ex
  obtain ⟨n3, X3, e3, rfl, F3, rfl⟩ := h3.ex
  obtain ⟨n4, X4, e4, rfl, F4, rfl⟩ := h4.ex
  have d1 := F1.down
  have d2 := F2.down
  have d3 := F3.down
  have d4 := F4.down
  show cmpV (n1 != n4) (X1 * X4) (e1 + e4) (n3 != n2) (X3 * X2) (e3 + e2) = _
  rw [cmpV_z _ _ _ _ _ _ (B1 + B4) (by omega) (by omega)]
  have key : ∀ (n m : Bool) (X Y : Nat) (e f B C D : Int), B ≤ e → C ≤ f → B + C = D → sg1 (n != m) * ((X * Y * 2 ^ (e + f - D).toNat : Nat) : Int) = zv B (n, X, e) * zv C (m, Y, f) := by
    intro n m X Y e f B C D hB hC hD
    unfold zv
    simp only
    rw [sg1_bne, show (e + f - D).toNat = (e - B).toNat + (f - C).toNat by omega, Nat.pow_add]
    have : X * Y * (2 ^ (e - B).toNat * 2 ^ (f - C).toNat) = X * 2 ^ (e - B).toNat * (Y * 2 ^ (f - C).toNat) := by
      rw [Nat.mul_assoc, Nat.mul_assoc, Nat.mul_left_comm Y]
    rw [this, Int.natCast_mul]
    generalize ((X * 2 ^ (e - B).toNat : Nat) : Int) = P
    generalize ((Y * 2 ^ (f - C).toNat : Nat) : Int) = Q
    rw [Int.mul_assoc, Int.mul_assoc, Int.mul_left_comm P]
  rw [key n1 n4 X1 X4 e1 e4 B1 B4 _ (by omega) (by omega) rfl, key n3 n2 X3 X2 e3 e2 B3 B2 _ (by omega) (by omega) hB.symm]
theorem cmpZ_neg (x y : Int) : cmpZ x y = -cmpZ y x := by unfold cmpZ; split <;> split <;> omega
theorem cmpZ_self' {x y : Int} (h : x = y) : cmpZ x y = 0 := by subst h; unfold cmpZ; split <;> omega

structure UsR (o p : Option (Bool × Nat × Int)) : Prop where
  io : Iv o (-9000) 10400
  ip : Iv p (-20000) 26400
  fo : Fv (-1048576) o (valO o)
  fp : Fv (-1048576) p (valO p)
  pos : 0 < valO p
theorem MayR.us' {n m : Bool} {X Y : Nat} {e f : Int} (h : MayR (mkS n X e) (mkS m Y f)) : UsR (mkS n X e) (mkS m Y f) := by
  have F1 := frm_of h.so
  have F2 := frm_of h.sp
  have g1 := fvO (o := mkS n X e) rfl h.so
  have g2 := fvO (o := mkS m Y f) rfl h.sp
  have l1 := h.lo
  have l2 := h.lp
  have u := h.us
  have pu := h.pu
  have pd := h.pd
  refine ⟨?_, ?_, g1, g2, g2.of_pos h.neg h.no⟩
  · cases ho : mkS n X e with
    | none => have := h.so; rw [ho] at this; cases this
    | some d =>
      obtain ⟨n1, X1, e1⟩ := d
      rw [ho] at F1 u l1
      refine ⟨n1, X1, e1, rfl, F1, ?_⟩
      rcases u with q | ⟨q1, q2, q3, q4⟩
      · exact .inl q
      · right
        change bl X1 ≤ 6400 at l1
        change e1 < 4000 at q3
        change -9000 < e1 at q4
        omega
  · cases hp : mkS m Y f with
    | none => have := h.sp; rw [hp] at this; cases this
    | some d =>
      obtain ⟨n1, X1, e1⟩ := d
      rw [hp] at F2 l2 pu pd
      refine ⟨n1, X1, e1, rfl, F2, .inr ?_⟩
      change bl X1 ≤ 6400 at l2
      change e1 ≤ 20000 at pu
      change -20000 ≤ e1 at pd
      omega
theorem mkS_sign {m : Bool} {Y : Nat} {f : Int} {n1 : Bool} {Y1 : Nat} {f1 : Int} (h : mkS m Y f = some (n1, Y1, f1)) (h0 : Y1 ≠ 0) : n1 = m := by
  unfold mkS at h
  split at h
  · cases h; exact absurd rfl h0
  · split at h
    · cases h
    · cases h; rfl
theorem MayR.err {n m : Bool} {X Y : Nat} {e f : Int} (h : MayR (mkS n X e) (mkS m Y f)) : errN X n e Y m f = 0 := by
  cases h1 : mkS n X e with
  | none => have := h.so; rw [h1] at this; cases this
  | some d1 =>
    cases h2 : mkS m Y f with
    | none => have := h.sp; rw [h2] at this; cases this
    | some d2 =>
      obtain ⟨n1, X1, e1⟩ := d1
      obtain ⟨m1, Y1, f1⟩ := d2
      have hn := h.neg
      have h0 := h.no
      rw [h2] at hn h0
      change m1 = false at hn
      change Y1 ≠ 0 at h0
      have hm := mkS_sign h2 h0
      unfold errN
      rw [h1, h2, ← hm, hn]
      have : ¬ sgn false Y < 0 := by unfold sgn; split <;> simp
      rw [if_neg this]
      simp [dX, h0]
theorem err_forms {o p : Option (Bool × Nat × Int)} {B C x y : Int} (h1 : Fv B o x) (h2 : Fv C p y) (hy : 0 < y) : errN (dX o) (dN o) (dE o) (dX p) (dN p) (dE p) = 0 := by
  obtain ⟨k1, k2⟩ := h2.pos hy
  have r1 := h1.reform
  have r2 := h2.reform
  unfold errN
  rw [r1, r2]
  have s1 : o.isSome = true := by obtain ⟨n, X, e, rfl, _⟩ := h1.ex; rfl
  have s2 : p.isSome = true := by obtain ⟨n, X, e, rfl, _⟩ := h2.ex; rfl
  rw [k1]
  have : ¬ sgn false (dX p) < 0 := by unfold sgn; split <;> simp
  rw [if_neg this, s1, s2]
  simp [k2]
end Go.Proofs.YtdimlelcgapobaaGreatDoor

/- RootLaws: its walk. -/
namespace Go.Proofs.YtdimlelcgapobaaGreatDoor
open Go.RowKit
set_option linter.unusedVariables false
set_option maxRecDepth 20000
set_option linter.unusedSimpArgs false

theorem rvO {w : World} {o p : Option (Bool × Nat × Int)} {B C x y : Int} {v u : Value} {l1 l2 : Nat} (h1 : Fv B o x) (h2 : Fv C p y) (N1 : Nt l1 w v (dX o)) (N2 : Nt l2 w u (dX p)) : Rv w ⟨dN o, v, dX o, dE o, dN p, u, dX p, dE p⟩ := by
  obtain ⟨n, X, e, rfl, F, _⟩ := h1.ex
  obtain ⟨m, Y, f, rfl, G, _⟩ := h2.ex
  have a1 := frm_len F
  have a2 := frm_len G
  have a3 := F.up
  have a4 := F.down
  have a5 := G.up
  have a6 := G.down
  exact ⟨N1.av (by show (ws X).length ≤ _; omega), N2.av (by show (ws Y).length ≤ _; omega), by show -9223372036854775808 ≤ e ∧ e ≤ 9223372036854775807; omega, by show -9223372036854775808 ≤ f ∧ f ≤ 9223372036854775807; omega⟩
theorem Fv.len {o : Option (Bool × Nat × Int)} {B z : Int} (h : Fv B o z) : (ws (dX o)).length ≤ 8192 := by
  obtain ⟨n, X, e, rfl, F, _⟩ := h.ex
  exact frm_len F
theorem Fv.some {o : Option (Bool × Nat × Int)} {B z : Int} (h : Fv B o z) : o.isSome = true := by obtain ⟨n, X, e, rfl, _⟩ := h.ex; rfl
theorem AddV {w : World} {n m n' m' : Bool} {X Y X' Y' : Nat} {e f e' f' : Int} {v u v' u' : Value} (hr : Rv w ⟨n, v, X, e, m, u, Y, f⟩) (hs : Rv w ⟨n', v', X', e', m', u', Y', f'⟩) (hT : Tab w) (h1 : errN X n e Y m f = 0) (h2 : errN X' n' e' Y' m' f' = 0) (er : Int) (zo po : Option (Bool × Nat × Int)) (hA : bothR (addD (mulD (mkS n X e) (mkS m' Y' f')) (mulD (mkS n' X' e') (mkS m Y f))) (mulD (mkS m Y f) (mkS m' Y' f')) = (er, zo, po)) :
    Calls Tryz.prog 24 #[.agg #[.bool n, v, .int .i64 e, .bool m, u, .int .i64 f], .agg #[.bool n', v', .int .i64 e', .bool m', u', .int .i64 f']] w fun r w' => (∃ v u, r = .returned (.tuple #[.agg #[.bool (dN zo), v, .int .i64 (dE zo), .bool (dN po), u, .int .i64 (dE po)], .int .i64 er]) ∧ Nt w.heap.size w' v (dX zo) ∧ Nt w.heap.size w' u (dX po)) ∧ Below w.heap.size w w' := by
  have hr0 := hr
  have hs0 := hs
  obtain ⟨a1, l1, c1, x1, rfl, -, -⟩ := hr.num
  obtain ⟨a2, l2, c2, x2, rfl, -, -⟩ := hr.den
  obtain ⟨a3, l3, c3, x3, rfl, -, -⟩ := hs.num
  obtain ⟨a4, l4, c4, x4, rfl, -, -⟩ := hs.den
  have h0 := errL_two0 _ _ (show errN (Ri.X ⟨n, .slice a1 l1 c1, X, e, m, .slice a2 l2 c2, Y, f⟩) _ _ _ _ _ = 0 from h1) (show errN (Ri.X ⟨n', .slice a3 l3 c3, X', e', m', .slice a4 l4 c4, Y', f'⟩) _ _ _ _ _ = 0 from h2)
  have := Add11 hr0 hs0 hT _ rfl
  rw [h0, if_pos rfl, hA] at this
  refine this.mono ?_
  rintro r w' ⟨⟨v, u, rfl, hN, hM, _⟩, hb⟩
  exact ⟨⟨v, u, rfl, hN, hM⟩, hb⟩
theorem SubV {w : World} {n m n' m' : Bool} {X Y X' Y' : Nat} {e f e' f' : Int} {v u v' u' : Value} (hr : Rv w ⟨n, v, X, e, m, u, Y, f⟩) (hs : Rv w ⟨n', v', X', e', m', u', Y', f'⟩) (hT : Tab w) (h1 : errN X n e Y m f = 0) (h2 : errN X' n' e' Y' m' f' = 0) (er : Int) (zo po : Option (Bool × Nat × Int)) (hA : bothR (subD11 (mulD (mkS n X e) (mkS m' Y' f')) (mulD (mkS n' X' e') (mkS m Y f))) (mulD (mkS m Y f) (mkS m' Y' f')) = (er, zo, po)) :
    Calls Tryz.prog 25 #[.agg #[.bool n, v, .int .i64 e, .bool m, u, .int .i64 f], .agg #[.bool n', v', .int .i64 e', .bool m', u', .int .i64 f']] w fun r w' => (∃ v u, r = .returned (.tuple #[.agg #[.bool (dN zo), v, .int .i64 (dE zo), .bool (dN po), u, .int .i64 (dE po)], .int .i64 er]) ∧ Nt w.heap.size w' v (dX zo) ∧ Nt w.heap.size w' u (dX po)) ∧ Below w.heap.size w w' := by
  have hr0 := hr
  have hs0 := hs
  obtain ⟨a1, l1, c1, x1, rfl, -, -⟩ := hr.num
  obtain ⟨a2, l2, c2, x2, rfl, -, -⟩ := hr.den
  obtain ⟨a3, l3, c3, x3, rfl, -, -⟩ := hs.num
  obtain ⟨a4, l4, c4, x4, rfl, -, -⟩ := hs.den
  have h0 := errL_two0 _ _ (show errN (Ri.X ⟨n, .slice a1 l1 c1, X, e, m, .slice a2 l2 c2, Y, f⟩) _ _ _ _ _ = 0 from h1) (show errN (Ri.X ⟨n', .slice a3 l3 c3, X', e', m', .slice a4 l4 c4, Y', f'⟩) _ _ _ _ _ = 0 from h2)
  have := Sub11 hr0 hs0 hT _ rfl
  rw [h0, if_pos rfl, hA] at this
  refine this.mono ?_
  rintro r w' ⟨⟨v, u, rfl, hN, hM, _⟩, hb⟩
  exact ⟨⟨v, u, rfl, hN, hM⟩, hb⟩
theorem MulV {w : World} {n m n' m' : Bool} {X Y X' Y' : Nat} {e f e' f' : Int} {v u v' u' : Value} (hr : Rv w ⟨n, v, X, e, m, u, Y, f⟩) (hs : Rv w ⟨n', v', X', e', m', u', Y', f'⟩) (hT : Tab w) (h1 : errN X n e Y m f = 0) (h2 : errN X' n' e' Y' m' f' = 0) (er : Int) (zo po : Option (Bool × Nat × Int)) (hA : bothR (mulD (mkS n X e) (mkS n' X' e')) (mulD (mkS m Y f) (mkS m' Y' f')) = (er, zo, po)) :
    Calls Tryz.prog 26 #[.agg #[.bool n, v, .int .i64 e, .bool m, u, .int .i64 f], .agg #[.bool n', v', .int .i64 e', .bool m', u', .int .i64 f']] w fun r w' => (∃ v u, r = .returned (.tuple #[.agg #[.bool (dN zo), v, .int .i64 (dE zo), .bool (dN po), u, .int .i64 (dE po)], .int .i64 er]) ∧ Nt w.heap.size w' v (dX zo) ∧ Nt w.heap.size w' u (dX po)) ∧ Below w.heap.size w w' := by
  have hr0 := hr
  have hs0 := hs
  obtain ⟨a1, l1, c1, x1, rfl, -, -⟩ := hr.num
  obtain ⟨a2, l2, c2, x2, rfl, -, -⟩ := hr.den
  obtain ⟨a3, l3, c3, x3, rfl, -, -⟩ := hs.num
  obtain ⟨a4, l4, c4, x4, rfl, -, -⟩ := hs.den
  have h0 := errL_two0 _ _ (show errN (Ri.X ⟨n, .slice a1 l1 c1, X, e, m, .slice a2 l2 c2, Y, f⟩) _ _ _ _ _ = 0 from h1) (show errN (Ri.X ⟨n', .slice a3 l3 c3, X', e', m', .slice a4 l4 c4, Y', f'⟩) _ _ _ _ _ = 0 from h2)
  have := Mul11 hr0 hs0 hT _ rfl
  rw [h0, if_pos rfl, hA] at this
  refine this.mono ?_
  rintro r w' ⟨⟨v, u, rfl, hN, hM, _⟩, hb⟩
  exact ⟨⟨v, u, rfl, hN, hM⟩, hb⟩
theorem DivV {w : World} {n m n' m' : Bool} {X Y X' Y' : Nat} {e f e' f' : Int} {v u v' u' : Value} (hr : Rv w ⟨n, v, X, e, m, u, Y, f⟩) (hs : Rv w ⟨n', v', X', e', m', u', Y', f'⟩) (hT : Tab w) (h1 : errN X n e Y m f = 0) (h2 : errN X' n' e' Y' m' f' = 0) (er : Int) (zo po : Option (Bool × Nat × Int)) (hA : divA (mkS n X e) (mkS m Y f) (mkS n' X' e') (mkS m' Y' f') = (er, zo, po)) :
    Calls Tryz.prog 27 #[.agg #[.bool n, v, .int .i64 e, .bool m, u, .int .i64 f], .agg #[.bool n', v', .int .i64 e', .bool m', u', .int .i64 f']] w fun r w' => (∃ v u, r = .returned (.tuple #[.agg #[.bool (dN zo), v, .int .i64 (dE zo), .bool (dN po), u, .int .i64 (dE po)], .int .i64 er]) ∧ Nt w.heap.size w' v (dX zo) ∧ Nt w.heap.size w' u (dX po)) ∧ Below w.heap.size w w' := by
  have hr0 := hr
  have hs0 := hs
  obtain ⟨a1, l1, c1, x1, rfl, -, -⟩ := hr.num
  obtain ⟨a2, l2, c2, x2, rfl, -, -⟩ := hr.den
  obtain ⟨a3, l3, c3, x3, rfl, -, -⟩ := hs.num
  obtain ⟨a4, l4, c4, x4, rfl, -, -⟩ := hs.den
  have h0 := errL_two0 _ _ (show errN (Ri.X ⟨n, .slice a1 l1 c1, X, e, m, .slice a2 l2 c2, Y, f⟩) _ _ _ _ _ = 0 from h1) (show errN (Ri.X ⟨n', .slice a3 l3 c3, X', e', m', .slice a4 l4 c4, Y', f'⟩) _ _ _ _ _ = 0 from h2)
  have := Div11 hr0 hs0 hT _ rfl
  rw [h0, if_pos rfl, hA] at this
  refine this.mono ?_
  rintro r w' ⟨⟨v, u, rfl, hN, hM, _⟩, hb⟩
  exact ⟨⟨v, u, rfl, hN, hM⟩, hb⟩
theorem CmpV {w : World} {n m n' m' : Bool} {X Y X' Y' : Nat} {e f e' f' : Int} {v u v' u' : Value} (hr : Rv w ⟨n, v, X, e, m, u, Y, f⟩) (hs : Rv w ⟨n', v', X', e', m', u', Y', f'⟩) (hT : Tab w) (h1 : errN X n e Y m f = 0) (h2 : errN X' n' e' Y' m' f' = 0) (z : Int) (hA : cmpA (mkS n X e) (mkS m Y f) (mkS n' X' e') (mkS m' Y' f') = z) :
    Calls Tryz.prog 28 #[.agg #[.bool n, v, .int .i64 e, .bool m, u, .int .i64 f], .agg #[.bool n', v', .int .i64 e', .bool m', u', .int .i64 f']] w fun r w' => r = .returned (.tuple #[.int .i64 z, .int .i64 0]) ∧ Below w.heap.size w w' := by
  have hr0 := hr
  have hs0 := hs
  obtain ⟨a1, l1, c1, x1, rfl, -, -⟩ := hr.num
  obtain ⟨a2, l2, c2, x2, rfl, -, -⟩ := hr.den
  obtain ⟨a3, l3, c3, x3, rfl, -, -⟩ := hs.num
  obtain ⟨a4, l4, c4, x4, rfl, -, -⟩ := hs.den
  have h0 := errL_two0 _ _ (show errN (Ri.X ⟨n, .slice a1 l1 c1, X, e, m, .slice a2 l2 c2, Y, f⟩) _ _ _ _ _ = 0 from h1) (show errN (Ri.X ⟨n', .slice a3 l3 c3, X', e', m', .slice a4 l4 c4, Y', f'⟩) _ _ _ _ _ = 0 from h2)
  have := Cmp11 hr0 hs0 hT _ rfl
  rw [h0, if_pos rfl, hA] at this
  exact this

structure LawV (o1 o2 o3 o4 su qt tu tq bk bd ps : Option (Bool × Nat × Int)) (c c' : Int) : Prop where
  e1 : bothR (addD (mulD o1 o4) (mulD o3 o2)) (mulD o2 o4) = (0, su, qt)
  e2 : bothR (addD (mulD o3 o2) (mulD o1 o4)) (mulD o4 o2) = (0, tu, tq)
  e3 : bothR (subD11 (mulD su o4) (mulD o3 qt)) (mulD qt o4) = (0, bk, bd)
  e4 : cmpA su qt tu tq = 0
  e5 : cmpA bk bd o1 o2 = 0
  e6 : bothR (mulD o1 o3) (mulD o2 o4) = (0, ps, qt)
  e7 : cmpA o1 o2 o3 o4 = c
  e8 : cmpA o3 o4 o1 o2 = c'
  e9 : -c' = c
  fsu : ∃ B x, Fv B su x
  fqt : ∃ B x, Fv B qt x ∧ 0 < x
  ftu : ∃ B x, Fv B tu x
  ftq : ∃ B x, Fv B tq x ∧ 0 < x
  fbk : ∃ B x, Fv B bk x
  fbd : ∃ B x, Fv B bd x ∧ 0 < x
  fps : ∃ B x, Fv B ps x
  dv0 : dX o3 = 0 → divA ps qt o3 o4 = (21, none, none)
  dv1 : dX o3 ≠ 0 → ∃ by1 by2, divA ps qt o3 o4 = (0, by1, by2) ∧ cmpA by1 by2 o1 o2 = 0 ∧ (∃ B x, Fv B by1 x) ∧ ∃ B x, Fv B by2 x ∧ 0 < x
theorem both_ok {o p : Option (Bool × Nat × Int)} (h1 : o.isSome = true) (h2 : p.isSome = true) : bothR o p = (0, o, p) := by unfold bothR; rw [h1, h2]; rfl
theorem law_values {o1 o2 o3 o4 : Option (Bool × Nat × Int)} (h : UsR o1 o2) (k : UsR o3 o4) : ∃ su qt tu tq bk bd ps c c', LawV o1 o2 o3 o4 su qt tu tq bk bd ps c c' := by
  obtain ⟨i1, i2, f1, f2, q2⟩ := h
  obtain ⟨i3, i4, f3, f4, q4⟩ := k
  generalize valO o1 = P at *
  generalize valO o2 = Q at *
  generalize valO o3 = R at *
  generalize valO o4 = T at *
  have hB : (-1048576 : Int) ≤ -1048576 := Int.le_refl _
  have ipt := i1.mul i4 (by omega) (by omega) (by omega)
  have isq := i3.mul i2 (by omega) (by omega) (by omega)
  have iqt := i2.mul i4 (by omega) (by omega) (by omega)
  have itq := i4.mul i2 (by omega) (by omega) (by omega)
  have isu := ipt.add (isq.mono (by omega) (by omega)) (by omega) (by omega) (by omega)
  have itu := isq.add (ipt.mono (by omega) (by omega)) (by omega) (by omega) (by omega)
  have fpt := f1.mul hB hB f4 ipt.some
  have fsq := f3.mul hB hB f2 isq.some
  have fqt := f2.mul hB hB f4 iqt.some
  have ftq := f4.mul hB hB f2 itq.some
  have fsu := fpt.add (by omega) fsq isu.some
  have ftu := fsq.add (by omega) fpt itu.some
  have iux := isu.mul i4 (by omega) (by omega) (by omega)
  have isx := i3.mul iqt (by omega) (by omega) (by omega)
  have fux := fsu.mul (by omega) hB f4 iux.some
  have fsx := f3.mul hB (by omega) fqt isx.some
  have ibk := (iux.mono (c := -49000) (d := 63201) (by omega) (by omega)).add (isx.neg.mono (c := -49000) (d := 63201) (by omega) (by omega)) (by omega) (by omega) (by omega)
  have fsx' : Fv (-1048576 + -1048576 + -1048576) (negO (mulD o3 (mulD o2 o4))) (-(R * (Q * T))) := by
    have := fsx.negO
    rw [show (-1048576 : Int) + (-1048576 + -1048576) = -1048576 + -1048576 + -1048576 by omega] at this
    exact this
  have fbk := fux.add (by omega) fsx' ibk.some
  have ibd := iqt.mul i4 (by omega) (by omega) (by omega)
  have fbd := fqt.mul (by omega) hB f4 ibd.some
  have ips := i1.mul i3 (by omega) (by omega) (by omega)
  have fps := f1.mul hB hB f3 ips.some
  have iy1 := ips.mul i4 (by omega) (by omega) (by omega)
  have fy1 := fps.mul (by omega) hB f4 iy1.some
  have iy2 := iqt.mul i3 (by omega) (by omega) (by omega)
  have fy2 := fqt.mul (by omega) hB f3 iy2.some
  have pqt : 0 < Q * T := Int.mul_pos q2 q4
  have ptq : 0 < T * Q := Int.mul_pos q4 q2
  have pbd : 0 < Q * T * T := Int.mul_pos pqt q4
  refine ⟨_, _, _, _, _, _, _, _, _, both_ok isu.some iqt.some, both_ok itu.some itq.some, both_ok ibk.some ibd.some, ?_, ?_, both_ok ips.some iqt.some, rfl, rfl, ?_, ⟨_, _, fsu⟩, ⟨_, _, fqt, pqt⟩, ⟨_, _, ftu⟩, ⟨_, _, ftq, ptq⟩, ⟨_, _, fbk⟩, ⟨_, _, fbd, pbd⟩, ⟨_, _, fps⟩, ?_, ?_⟩
  · rw [cmpA_val fsu fqt ftu ftq (by omega) (by omega) (by omega) (by omega) (by omega)]
    refine cmpZ_self' ?_
    rw [Int.mul_comm T Q, Int.add_comm]
  · unfold subD11
    rw [cmpA_val fbk fbd f1 f2 (by omega) (by omega) (by omega) (by omega) (by omega)]
    refine cmpZ_self' ?_
    have e1 : (P * T + R * Q) * T + -(R * (Q * T)) = P * (T * T) := by
      rw [Int.add_mul, Int.mul_assoc R Q T, Int.add_assoc, Int.add_right_neg, Int.add_zero, Int.mul_assoc]
    rw [e1, Int.mul_assoc P, Int.mul_comm (T * T) Q, Int.mul_assoc Q T T]
  · rw [cmpA_val f1 f2 f3 f4 hB hB hB hB (by omega), cmpA_val f3 f4 f1 f2 hB hB hB hB (by omega), cmpZ_neg (R * Q)]
    omega
  · intro h0
    unfold divA
    rw [if_pos h0]
  · intro h0
    have hr0 : R ≠ 0 := fun h => h0 (f3.zero_iff.2 h)
    by_cases hn : dN o3 = true
    · have hneg := f3.neg_iff.1 hn
      have py : 0 < -(Q * T * R) := by
        have := Int.mul_neg_of_pos_of_neg pqt hneg
        omega
      refine ⟨_, _, ?_, ?_, ⟨_, _, fy1.negO⟩, ⟨_, _, fy2.negO, py⟩⟩
      · unfold divA
        rw [if_neg h0, if_pos hn, both_ok iy1.some iy2.some, if_pos rfl]
      · rw [cmpA_val fy1.negO fy2.negO f1 f2 (by omega) (by omega) (by omega) (by omega) (by omega)]
        refine cmpZ_self' ?_
        rw [Int.neg_mul, Int.mul_neg]
        congr 1
        rw [Int.mul_assoc P R T, Int.mul_assoc P, Int.mul_comm (R * T) Q, Int.mul_comm R T, Int.mul_assoc Q T R]
    · have hn' : dN o3 = false := by simpa using hn
      have hpos : 0 < R := by
        have : ¬ R < 0 := fun h => hn (f3.neg_iff.2 h)
        omega
      refine ⟨_, _, ?_, ?_, ⟨_, _, fy1⟩, ⟨_, _, fy2, Int.mul_pos pqt hpos⟩⟩
      · unfold divA
        rw [if_neg h0, hn', if_neg Bool.false_ne_true, both_ok iy1.some iy2.some]
      · rw [cmpA_val fy1 fy2 f1 f2 (by omega) (by omega) (by omega) (by omega) (by omega)]
        refine cmpZ_self' ?_
        rw [Int.mul_assoc P R T, Int.mul_assoc P, Int.mul_comm (R * T) Q, Int.mul_comm R T, Int.mul_assoc Q T R]
end Go.Proofs.YtdimlelcgapobaaGreatDoor

/- Ratios that came in: what their reading tells. -/
namespace Go.Proofs.YtdimlelcgapobaaGreatDoor
open Go.ChangeShapes Go.WideShapes Go.ChangeAt Go.RowKit
set_option linter.unusedVariables false
set_option maxRecDepth 20000

theorem cameR_of {H : Type} {enc : TypeId × Value → H} {W : World} {a : Option Addr} {n c : Nat} {d : DataW H} {p : List MemPlace} (h : DataW.Trod enc Tryz.prog W 0 (fun _ => true) true 25 (.slice a n c) d p) :
    ∃ xs, Came W a n c xs ∧ ((d = .nil ∧ c = 0) ∨ ∃ elems spare : List (DataW H), d = .slice elems spare ∧ elems.length + spare.length = c ∧ (∀ e ∈ elems, ∃ l, e = .lit (.int .u32 l)) ∧ ∀ e ∈ spare, ∃ l, e = .lit (.int .u32 l)) := by
  obtain ⟨fuel, hf⟩ := h
  rcases open_ints Tryz.underlying25 Tryz.underlying23 (by kernel_rfl) hf with ⟨hcs, hx⟩ | ⟨x, l, cp, zs, hcs, hb, hl, hm, hz, hx, hcell, hwz⟩
  · simp [Value.cells] at hcs
    obtain ⟨rfl, rfl, rfl⟩ := hcs
    refine ⟨[], ⟨rfl, Nat.le_refl _, Wf.nil, Rd.nil _ _ _, fun _ => rfl⟩, .inl ⟨?_, rfl⟩⟩
    exact (Prod.mk.inj hx).1
  · simp [Value.cells] at hcs
    obtain ⟨rfl, rfl, rfl⟩ := hcs
    have hz' : zs.length = c := by simpa using hz
    have hwf : ∀ z ∈ zs, 0 ≤ z ∧ z < 4294967296 := by
      intro z hzz
      have := hwz z hzz
      simp [Lit.wf, IntKind.min, IntKind.max, IntKind.signed, IntKind.bits] at this
      omega
    refine ⟨(zs.take n).map Int.toNat, ⟨?_, hl, ?_, ?_, fun e => by cases e⟩, .inr ⟨_, _, (Prod.mk.inj hx).1, ?_, ?_, ?_⟩⟩
    · rw [List.length_map, List.length_take]; omega
    · intro y hy
      obtain ⟨z, hz1, rfl⟩ := List.mem_map.1 hy
      have := hwf z (List.mem_of_mem_take hz1)
      omega
    · intro hne
      obtain ⟨b, off, spot⟩ := x
      have hn0 : 0 < n := by
        rcases Nat.eq_zero_or_pos n with h0 | h0
        · subst h0; simp at hne
        · exact h0
      have hc0 := hcell 0 (by omega)
      have hspot : spot = none := by simpa [Addr.add] using World.cell?_spot hc0
      subst hspot
      refine ⟨b, off, World.block_lt_of_cell? W _ (by simpa [Addr.add] using hc0), rfl, fun i hi => ?_⟩
      rw [List.length_map, List.length_take] at hi
      have hadd : (⟨b, off, none⟩ : Addr).add i = ⟨b, off + i, none⟩ := by unfold Addr.add; split <;> simp_all
      have := hcell i (by omega)
      rw [hadd] at this
      rw [this]
      have hi2 : i < zs.length := by omega
      have hin : i < n := by omega
      have hv : 0 ≤ zs[i] := (hwf _ (List.getElem_mem hi2)).1
      simp [List.getD_eq_getElem?_getD, hi2, hin, Int.toNat_of_nonneg hv]
    · simp only [lits, List.length_map, List.length_take, List.length_drop]; omega
    · intro e he
      simp only [lits, List.mem_map] at he
      obtain ⟨z, _, rfl⟩ := he
      exact ⟨z, rfl⟩
    · intro e he
      simp only [lits, List.mem_map] at he
      obtain ⟨z, _, rfl⟩ := he
      exact ⟨z, rfl⟩

structure CameD (w : World) (a : Option Addr) (n c : Nat) (xs : List Nat) (e : Int) : Prop where
  came : Came w a n c xs
  lo : -9223372036854775808 ≤ e
  hi : e ≤ 9223372036854775807

def RoomD {H : Type} (c : Nat) (d1 : DataW H) : Prop := ((d1 = .nil ∧ c = 0) ∨ ∃ elems spare : List (DataW H), d1 = .slice elems spare ∧ elems.length + spare.length = c ∧ (∀ e ∈ elems, ∃ l, e = .lit (.int .u32 l)) ∧ ∀ e ∈ spare, ∃ l, e = .lit (.int .u32 l))
theorem dyad_cells {H : Type} {enc : TypeId × Value → H} {W : World} {c0 c1 c2 : Value} {d : DataW H} {p : List MemPlace} {fuel : Nat} (hf : DataW.trod enc Tryz.prog W 0 (fun _ => true) true fuel 27 [c0, c1, c2] = some (d, p)) :
    ∃ (ng : Bool) (a : Option Addr) (n c : Nat) (e : Int) (xs : List Nat) (d1 : DataW H), (c0 = .bool ng ∧ c1 = .slice a n c ∧ c2 = .int .i64 e) ∧ CameD W a n c xs e ∧ d = .agg [.lit (.bool ng), d1, .lit (.int .i64 e)] ∧ RoomD c d1 := by
  have hC : Tryz.prog.cellsOf 27 = 3 := by kernel_rfl
  have c4 : Tryz.prog.cellsOf 4 = 1 := by kernel_rfl
  have c3 : Tryz.prog.cellsOf 3 = 1 := by kernel_rfl
  have cN : Tryz.prog.cellsOf 25 = 1 := by kernel_rfl
  obtain ⟨xs, k, rfl, hx, hl, hxl, hfs⟩ := DataW.trod_struct Tryz.underlying27 hf
  have h0 : DataW.trod enc Tryz.prog W 0 (fun _ => true) true k 4 (List.take (Tryz.prog.cellsOf 4) (List.drop 0 [c0, c1, c2])) = xs[0]? := hfs 0 _ rfl
  have h1 : DataW.trod enc Tryz.prog W 0 (fun _ => true) true k 25 (List.take (Tryz.prog.cellsOf 25) (List.drop 1 [c0, c1, c2])) = xs[1]? := hfs 1 _ rfl
  have h2 : DataW.trod enc Tryz.prog W 0 (fun _ => true) true k 3 (List.take (Tryz.prog.cellsOf 3) (List.drop 2 [c0, c1, c2])) = xs[2]? := hfs 2 _ rfl
  rw [c4] at h0
  rw [cN] at h1
  rw [c3] at h2
  replace h0 : DataW.trod enc Tryz.prog W 0 (fun _ => true) true k 4 [c0] = xs[0]? := h0
  replace h1 : DataW.trod enc Tryz.prog W 0 (fun _ => true) true k 25 [c1] = xs[1]? := h1
  replace h2 : DataW.trod enc Tryz.prog W 0 (fun _ => true) true k 3 [c2] = xs[2]? := h2
  match xs, hxl with
  | [x0, x1, x2], _ =>
    obtain ⟨ng, e0, rfl⟩ := DataW.trod_bool Tryz.underlying4 h0
    obtain ⟨e, e2, rfl, hw⟩ := DataW.trod_int Tryz.underlying3 h2
    cases e0
    cases e2
    have hs : ∃ a n c, c1 = .slice a n c := by
      rcases DataW.trod_slice Tryz.underlying25 h1 with ⟨q, _⟩ | ⟨a, len, cap, _, _, _, _, q, _⟩
      · cases q; exact ⟨_, _, _, rfl⟩
      · cases q; exact ⟨_, _, _, rfl⟩
    obtain ⟨a, n, c, rfl⟩ := hs
    obtain ⟨ys, hy, hd⟩ := cameR_of (a := a) (n := n) (c := c) (d := x1.1) (p := x1.2) ⟨k, h1⟩
    have hw' : -9223372036854775808 ≤ e ∧ e ≤ 9223372036854775807 := by
      simp [Lit.wf, IntKind.min, IntKind.max, IntKind.signed, IntKind.bits] at hw
      omega
    refine ⟨ng, a, n, c, e, ys, x1.1, ⟨rfl, rfl, rfl⟩, ⟨hy, hw'.1, hw'.2⟩, ?_, hd⟩
    have := (Prod.mk.inj hx).1
    simpa using this

structure CameR (w : World) (a : Option Addr) (l c : Nat) (e : Int) (xs : List Nat) (b : Option Addr) (k d : Nat) (f : Int) (ys : List Nat) : Prop where
  num : CameD w a l c xs e
  den : CameD w b k d ys f
theorem CameR.rv {w : World} {n m : Bool} {a : Option Addr} {l c : Nat} {e : Int} {xs : List Nat} {b : Option Addr} {k d : Nat} {f : Int} {ys : List Nat} (h : CameR w a l c e xs b k d f ys) (h1 : l ≤ 35184372088832) (h2 : k ≤ 35184372088832) :
    Rv w ⟨n, .slice a l c, val xs, e, m, .slice b k d, val ys, f⟩ :=
  ⟨⟨a, l, c, xs, rfl, h.num.came.arg h1, rfl⟩, ⟨b, k, d, ys, rfl, h.den.came.arg h2, rfl⟩, ⟨h.num.lo, h.num.hi⟩, ⟨h.den.lo, h.den.hi⟩⟩
theorem ratio_of {H : Type} {enc : TypeId × Value → H} {W : World} {r : Reach} {b0 : Nat} {v : Value} {d : DataW H} {p : List MemPlace} (hv : Value.okWide Tryz.prog W r b0 30 v) (h : DataW.Trod enc Tryz.prog W 0 (fun _ => true) true 30 v d p) :
    ∃ (ng : Bool) (a : Option Addr) (n c : Nat) (e : Int) (xs : List Nat) (mg : Bool) (b : Option Addr) (k cb : Nat) (f : Int) (ys : List Nat) (d1 d2 : DataW H),
      v = .agg #[.bool ng, .slice a n c, .int .i64 e, .bool mg, .slice b k cb, .int .i64 f] ∧ CameR W a n c e xs b k cb f ys ∧
      d = .agg [.agg [.lit (.bool ng), d1, .lit (.int .i64 e)], .agg [.lit (.bool mg), d2, .lit (.int .i64 f)]] ∧ RoomD c d1 ∧ RoomD cb d2 := by
  obtain ⟨cs, rfl, hsz⟩ := okWide_struct Tryz.underlying30 hv
  obtain ⟨fuel, hf⟩ := h
  have hC : Tryz.prog.cellsOf 30 = 6 := by kernel_rfl
  have hD : Tryz.prog.cellsOf 27 = 3 := by kernel_rfl
  obtain ⟨xs, k, rfl, hx, hl, hxl, hfs⟩ := DataW.trod_struct Tryz.underlying30 hf
  rw [hC] at hsz
  obtain ⟨c0, c1, c2, c3, c4, c5, rfl⟩ : ∃ c0 c1 c2 c3 c4 c5, cs = #[c0, c1, c2, c3, c4, c5] := by
    obtain ⟨l⟩ := cs
    match l, hsz with
    | [a, b, c, d, e, f], _ => exact ⟨a, b, c, d, e, f, rfl⟩
  have h0 : DataW.trod enc Tryz.prog W 0 (fun _ => true) true k 27 (List.take (Tryz.prog.cellsOf 27) (List.drop 0 [c0, c1, c2, c3, c4, c5])) = xs[0]? := hfs 0 _ rfl
  have h1 : DataW.trod enc Tryz.prog W 0 (fun _ => true) true k 27 (List.take (Tryz.prog.cellsOf 27) (List.drop 3 [c0, c1, c2, c3, c4, c5])) = xs[1]? := hfs 1 _ rfl
  rw [hD] at h0 h1
  replace h0 : DataW.trod enc Tryz.prog W 0 (fun _ => true) true k 27 [c0, c1, c2] = xs[0]? := h0
  replace h1 : DataW.trod enc Tryz.prog W 0 (fun _ => true) true k 27 [c3, c4, c5] = xs[1]? := h1
  match xs, hxl with
  | [x0, x1], _ =>
    obtain ⟨ng, a, n, c, e, zs, d1, ⟨rfl, rfl, rfl⟩, w1, g1, r1⟩ := dyad_cells (d := x0.1) (p := x0.2) h0
    obtain ⟨mg, b, m, cb, f, ys, d2, ⟨rfl, rfl, rfl⟩, w2, g2, r2⟩ := dyad_cells (d := x1.1) (p := x1.2) h1
    refine ⟨ng, a, n, c, e, zs, mg, b, m, cb, f, ys, d1, d2, rfl, ⟨w1, w2⟩, ?_, r1, r2⟩
    have := (Prod.mk.inj hx).1
    rw [← g1, ← g2]
    simpa using this
end Go.Proofs.YtdimlelcgapobaaGreatDoor

/- RootLaws: its walk. -/
namespace Go.Proofs.YtdimlelcgapobaaGreatDoor
open Go.RowKit
set_option linter.unusedVariables false
set_option maxRecDepth 20000
set_option linter.unusedSimpArgs false

theorem cmpV_range (n : Bool) (X : Nat) (e : Int) (m : Bool) (Y : Nat) (f : Int) : -1 ≤ cmpV n X e m Y f ∧ cmpV n X e m Y f ≤ 1 := by
  have h1 : min e f ≤ e := Int.min_le_left _ _
  have h2 : min e f ≤ f := Int.min_le_right _ _
  rw [cmpV_z n X e m Y f (min e f) h1 h2]
  unfold cmpZ
  split
  · omega
  · split <;> omega
theorem cmpA_range (o1 o2 o3 o4 : Option (Bool × Nat × Int)) : -1 ≤ cmpA o1 o2 o3 o4 ∧ cmpA o1 o2 o3 o4 ≤ 1 := cmpV_range _ _ _ _ _ _
theorem fx_su1 {o1 o2 o3 o4 su qt tu tq bk bd ps : Option (Bool × Nat × Int)} {c c1 : Int} (h : LawV o1 o2 o3 o4 su qt tu tq bk bd ps c c1) : ∃ B x, Fv B su x := h.fsu
theorem fx_su2 {o1 o2 o3 o4 su qt tu tq bk bd ps : Option (Bool × Nat × Int)} {c c1 : Int} (h : LawV o1 o2 o3 o4 su qt tu tq bk bd ps c c1) : ∃ B x, Fv B qt x := by obtain ⟨B, x, h, _⟩ := h.fqt; exact ⟨B, x, h⟩
theorem re_su1 {o1 o2 o3 o4 su qt tu tq bk bd ps : Option (Bool × Nat × Int)} {c c1 : Int} (h : LawV o1 o2 o3 o4 su qt tu tq bk bd ps c c1) : mkS (dN su) (dX su) (dE su) = su := by obtain ⟨B, x, h⟩ := h.fsu; exact h.reform
theorem re_su2 {o1 o2 o3 o4 su qt tu tq bk bd ps : Option (Bool × Nat × Int)} {c c1 : Int} (h : LawV o1 o2 o3 o4 su qt tu tq bk bd ps c c1) : mkS (dN qt) (dX qt) (dE qt) = qt := by obtain ⟨B, x, h, _⟩ := h.fqt; exact h.reform
theorem er_su {o1 o2 o3 o4 su qt tu tq bk bd ps : Option (Bool × Nat × Int)} {c c1 : Int} (h : LawV o1 o2 o3 o4 su qt tu tq bk bd ps c c1) : errN (dX su) (dN su) (dE su) (dX qt) (dN qt) (dE qt) = 0 := by
  obtain ⟨B, x, h1⟩ := h.fsu
  obtain ⟨C, y, h2, hy⟩ := h.fqt
  exact err_forms h1 h2 hy
theorem fx_tu1 {o1 o2 o3 o4 su qt tu tq bk bd ps : Option (Bool × Nat × Int)} {c c1 : Int} (h : LawV o1 o2 o3 o4 su qt tu tq bk bd ps c c1) : ∃ B x, Fv B tu x := h.ftu
theorem fx_tu2 {o1 o2 o3 o4 su qt tu tq bk bd ps : Option (Bool × Nat × Int)} {c c1 : Int} (h : LawV o1 o2 o3 o4 su qt tu tq bk bd ps c c1) : ∃ B x, Fv B tq x := by obtain ⟨B, x, h, _⟩ := h.ftq; exact ⟨B, x, h⟩
theorem re_tu1 {o1 o2 o3 o4 su qt tu tq bk bd ps : Option (Bool × Nat × Int)} {c c1 : Int} (h : LawV o1 o2 o3 o4 su qt tu tq bk bd ps c c1) : mkS (dN tu) (dX tu) (dE tu) = tu := by obtain ⟨B, x, h⟩ := h.ftu; exact h.reform
theorem re_tu2 {o1 o2 o3 o4 su qt tu tq bk bd ps : Option (Bool × Nat × Int)} {c c1 : Int} (h : LawV o1 o2 o3 o4 su qt tu tq bk bd ps c c1) : mkS (dN tq) (dX tq) (dE tq) = tq := by obtain ⟨B, x, h, _⟩ := h.ftq; exact h.reform
theorem er_tu {o1 o2 o3 o4 su qt tu tq bk bd ps : Option (Bool × Nat × Int)} {c c1 : Int} (h : LawV o1 o2 o3 o4 su qt tu tq bk bd ps c c1) : errN (dX tu) (dN tu) (dE tu) (dX tq) (dN tq) (dE tq) = 0 := by
  obtain ⟨B, x, h1⟩ := h.ftu
  obtain ⟨C, y, h2, hy⟩ := h.ftq
  exact err_forms h1 h2 hy
theorem fx_bk1 {o1 o2 o3 o4 su qt tu tq bk bd ps : Option (Bool × Nat × Int)} {c c1 : Int} (h : LawV o1 o2 o3 o4 su qt tu tq bk bd ps c c1) : ∃ B x, Fv B bk x := h.fbk
theorem fx_bk2 {o1 o2 o3 o4 su qt tu tq bk bd ps : Option (Bool × Nat × Int)} {c c1 : Int} (h : LawV o1 o2 o3 o4 su qt tu tq bk bd ps c c1) : ∃ B x, Fv B bd x := by obtain ⟨B, x, h, _⟩ := h.fbd; exact ⟨B, x, h⟩
theorem re_bk1 {o1 o2 o3 o4 su qt tu tq bk bd ps : Option (Bool × Nat × Int)} {c c1 : Int} (h : LawV o1 o2 o3 o4 su qt tu tq bk bd ps c c1) : mkS (dN bk) (dX bk) (dE bk) = bk := by obtain ⟨B, x, h⟩ := h.fbk; exact h.reform
theorem re_bk2 {o1 o2 o3 o4 su qt tu tq bk bd ps : Option (Bool × Nat × Int)} {c c1 : Int} (h : LawV o1 o2 o3 o4 su qt tu tq bk bd ps c c1) : mkS (dN bd) (dX bd) (dE bd) = bd := by obtain ⟨B, x, h, _⟩ := h.fbd; exact h.reform
theorem er_bk {o1 o2 o3 o4 su qt tu tq bk bd ps : Option (Bool × Nat × Int)} {c c1 : Int} (h : LawV o1 o2 o3 o4 su qt tu tq bk bd ps c c1) : errN (dX bk) (dN bk) (dE bk) (dX bd) (dN bd) (dE bd) = 0 := by
  obtain ⟨B, x, h1⟩ := h.fbk
  obtain ⟨C, y, h2, hy⟩ := h.fbd
  exact err_forms h1 h2 hy
theorem fx_ps1 {o1 o2 o3 o4 su qt tu tq bk bd ps : Option (Bool × Nat × Int)} {c c1 : Int} (h : LawV o1 o2 o3 o4 su qt tu tq bk bd ps c c1) : ∃ B x, Fv B ps x := h.fps
theorem fx_ps2 {o1 o2 o3 o4 su qt tu tq bk bd ps : Option (Bool × Nat × Int)} {c c1 : Int} (h : LawV o1 o2 o3 o4 su qt tu tq bk bd ps c c1) : ∃ B x, Fv B qt x := by obtain ⟨B, x, h, _⟩ := h.fqt; exact ⟨B, x, h⟩
theorem re_ps1 {o1 o2 o3 o4 su qt tu tq bk bd ps : Option (Bool × Nat × Int)} {c c1 : Int} (h : LawV o1 o2 o3 o4 su qt tu tq bk bd ps c c1) : mkS (dN ps) (dX ps) (dE ps) = ps := by obtain ⟨B, x, h⟩ := h.fps; exact h.reform
theorem re_ps2 {o1 o2 o3 o4 su qt tu tq bk bd ps : Option (Bool × Nat × Int)} {c c1 : Int} (h : LawV o1 o2 o3 o4 su qt tu tq bk bd ps c c1) : mkS (dN qt) (dX qt) (dE qt) = qt := by obtain ⟨B, x, h, _⟩ := h.fqt; exact h.reform
theorem er_ps {o1 o2 o3 o4 su qt tu tq bk bd ps : Option (Bool × Nat × Int)} {c c1 : Int} (h : LawV o1 o2 o3 o4 su qt tu tq bk bd ps c c1) : errN (dX ps) (dN ps) (dE ps) (dX qt) (dN qt) (dE qt) = 0 := by
  obtain ⟨B, x, h1⟩ := h.fps
  obtain ⟨C, y, h2, hy⟩ := h.fqt
  exact err_forms h1 h2 hy
theorem dX_zero {n : Bool} {X : Nat} {e : Int} (h : (mkS n X e).isSome = true) : dX (mkS n X e) = 0 ↔ X = 0 := by
  constructor
  · intro h0
    rcases Nat.eq_zero_or_pos X with q | q
    · exact q
    · exfalso
      have hX : X ≠ 0 := by omega
      cases ho : mkS n X e with
      | none => rw [ho] at h; cases h
      | some d =>
        unfold mkS at ho
        rw [if_neg hX] at ho
        split at ho
        · cases ho
        · cases ho
          obtain ⟨k, h1, h2, h3⟩ := odd_part X hX
          rename_i hc
          have : dX (mkS n X e) = X / 2 ^ lo X := by unfold mkS; rw [if_neg hX, if_neg hc]; rfl
          omega
  · intro h0; subst h0; rw [mkS_zero]; rfl

set_option maxHeartbeats 16000000 in
set_option maxRecDepth 100000 in
theorem laws_core {w : World} {n m n' m' : Bool} {a b a' b' : Option Addr} {la ca lb cb la' ca' lb' cb' : Nat} {X Y X' Y' : Nat} {e f e' f' : Int}
    (hr : Rv w ⟨n, .slice a la ca, X, e, m, .slice b lb cb, Y, f⟩) (hs : Rv w ⟨n', .slice a' la' ca', X', e', m', .slice b' lb' cb', Y', f'⟩) (hT : Tab w) (z1 : la ≤ 2000000) (z2 : lb ≤ 2000000) (z3 : la' ≤ 2000000) (z4 : lb' ≤ 2000000) :
    Calls Tryz.prog 7 #[.agg #[.bool n, .slice a la ca, .int .i64 e, .bool m, .slice b lb cb, .int .i64 f], .agg #[.bool n', .slice a' la' ca', .int .i64 e', .bool m', .slice b' lb' cb', .int .i64 f']] w fun r w' => r = .returned (.bool true) ∧ Below w.heap.size w w' := by
  obtain ⟨W1, hW1⟩ : ∃ W, W = (w.alloc (.cells #[.bool n, .slice a la ca, .int .i64 e, .bool m, .slice b lb cb, .int .i64 f] 30)).alloc (.cells #[.bool n', .slice a' la' ca', .int .i64 e', .bool m', .slice b' lb' cb', .int .i64 f'] 30) := ⟨_, rfl⟩
  obtain ⟨hB, hz1, QA, QB⟩ := cmp_begin11 w ⟨n, .slice a la ca, X, e, m, .slice b lb cb, Y, f⟩ ⟨n', .slice a' la' ca', X', e', m', .slice b' lb' cb', Y', f'⟩ W1 hW1
  simp only at QA QB
  have HT := Aside.intro hT
  have BD := (Aside.intro (And.intro z1 (And.intro z2 (And.intro z3 (And.intro z4 (And.intro hr.be (And.intro hr.bf (And.intro hs.be hs.bf))))))))
  clear hT z1 z2 z3 z4
  have hbel := hB
  have S0 := (Aside.intro (And.intro hbel (And.intro QA (And.intro QB (And.intro (hr.below hB) (hs.below hB))))))
  clear hbel
  clear hB QA QB hr hs hz1
  go_enter Tryz.func7, Tryz.ntmps7
  obtain ⟨bel, QA, QB, RA, RB⟩ := S0.out
  have HC := hid (awake11 W1 (HT.out.belows bel))
  clear bel QA QB RA RB
  go_upto_region 1 with fail
  rw [← hW1]
  clear hW1
  go_wp2_with fail
  refine (Calls.mono HC.out) ?_
  rintro r u1 ⟨rfl, hb⟩
  clear HC
  obtain ⟨bel, QA, QB, RA, RB⟩ := S0.out
  have hbn := bel.trans (hb.mono bel.size)
  have S1 := Aside.intro (And.intro hbn (And.intro (QA.below hb) (And.intro (QB.below hb) (And.intro (RA.below hb) (RB.below hb)))))
  clear bel QA QB RA RB
  clear hb hbn S0
  obtain ⟨x0, x1, x2, x3, x4, x5⟩ := (show Rq u1 w.heap.size n (.slice a la ca) e m (.slice b lb cb) f from by obtain ⟨bel, QA, QB, RA, RB⟩ := S1.out; exact QA).facts
  obtain ⟨bel, QA, QB, RA, RB⟩ := S1.out
  have HC := hid (may_any (n := n) (m := m) (e := e) (f := f) RA.num RA.den (fun _ _ _ h => by cases h; exact BD.out.1) (fun _ _ _ h => by cases h; exact BD.out.2.1) BD.out.2.2.2.2.1 BD.out.2.2.2.2.2.1)
  clear bel QA QB RA RB
  go_wp2_with fail
  clear x0 x1 x2 x3 x4 x5
  refine (Calls.mono HC.out) ?_
  rintro r u2 ⟨h1, hb⟩
  clear HC
  obtain ⟨bel, QA, QB, RA, RB⟩ := S1.out
  have hbn := bel.trans (hb.mono bel.size)
  have S2 := Aside.intro (And.intro hbn (And.intro (QA.below hb) (And.intro (QB.below hb) (And.intro (RA.below hb) (RB.below hb)))))
  clear bel QA QB RA RB
  clear hb hbn S1
  have HM1 := h1
  clear h1
  rcases HM1 with rfl | ⟨rfl, M1⟩
  · obtain ⟨y0, y1, y2, y3, y4, y5⟩ := (show Rq u2 (w.heap.size + 1) n' (.slice a' la' ca') e' m' (.slice b' lb' cb') f' from by obtain ⟨bel, QA, QB, RA, RB⟩ := S2.out; exact QB).facts
    obtain ⟨bel, QA, QB, RA, RB⟩ := S2.out
    have HC := hid (may_any (n := n') (m := m') (e := e') (f := f') RB.num RB.den (fun _ _ _ h => by cases h; exact BD.out.2.2.1) (fun _ _ _ h => by cases h; exact BD.out.2.2.2.1) BD.out.2.2.2.2.2.2.1 BD.out.2.2.2.2.2.2.2)
    clear bel QA QB RA RB
    go_wp2_with fail
    clear y0 y1 y2 y3 y4 y5
    refine (Calls.mono HC.out) ?_
    rintro r u3 ⟨h1, hb⟩
    clear HC
    obtain ⟨bel, QA, QB, RA, RB⟩ := S2.out
    have hbn := bel.trans (hb.mono bel.size)
    have S3 := Aside.intro (And.intro hbn (And.intro (QA.below hb) (And.intro (QB.below hb) (And.intro (RA.below hb) (RB.below hb)))))
    clear bel QA QB RA RB
    clear hb hbn S2
    have HM2 := h1
    clear h1
    have S9 := Aside.intro S3.out.1
    rcases HM2 with rfl | ⟨rfl, M2⟩
    · clear S3 BD HT
      go_wp2
      go_ret
      exact ⟨rfl, S9.out⟩
    · clear S3 BD HT
      go_wp2
      go_ret
      exact ⟨rfl, S9.out⟩

  · obtain ⟨y0, y1, y2, y3, y4, y5⟩ := (show Rq u2 (w.heap.size + 1) n' (.slice a' la' ca') e' m' (.slice b' lb' cb') f' from by obtain ⟨bel, QA, QB, RA, RB⟩ := S2.out; exact QB).facts
    obtain ⟨bel, QA, QB, RA, RB⟩ := S2.out
    have HC := hid (may_any (n := n') (m := m') (e := e') (f := f') RB.num RB.den (fun _ _ _ h => by cases h; exact BD.out.2.2.1) (fun _ _ _ h => by cases h; exact BD.out.2.2.2.1) BD.out.2.2.2.2.2.2.1 BD.out.2.2.2.2.2.2.2)
    clear bel QA QB RA RB
    go_wp2_with fail
    clear y0 y1 y2 y3 y4 y5
    refine (Calls.mono HC.out) ?_
    rintro r u3 ⟨h1, hb⟩
    clear HC
    obtain ⟨bel, QA, QB, RA, RB⟩ := S2.out
    have hbn := bel.trans (hb.mono bel.size)
    have S3 := Aside.intro (And.intro hbn (And.intro (QA.below hb) (And.intro (QB.below hb) (And.intro (RA.below hb) (RB.below hb)))))
    clear bel QA QB RA RB
    clear hb hbn S2
    have HM2 := h1
    clear h1
    rcases HM2 with rfl | ⟨rfl, M2⟩
    · have S9 := Aside.intro S3.out.1
      clear S3 BD HT
      go_wp2
      go_ret
      exact ⟨rfl, S9.out⟩
    · have e1 := M1.err
      have e2 := M2.err
      have V1 := M1.us'
      have V2 := M2.us'
      obtain ⟨o1, ho1⟩ : ∃ o, mkS n X e = o := ⟨_, rfl⟩
      obtain ⟨o2, ho2⟩ : ∃ o, mkS m Y f = o := ⟨_, rfl⟩
      obtain ⟨o3, ho3⟩ : ∃ o, mkS n' X' e' = o := ⟨_, rfl⟩
      obtain ⟨o4, ho4⟩ : ∃ o, mkS m' Y' f' = o := ⟨_, rfl⟩
      rw [ho1, ho2] at V1
      rw [ho3, ho4] at V2
      obtain ⟨su, qt, tu, tq, bk, bd, ps, c, c1, LV⟩ := law_values V1 V2
      have hcn : IntKind.i64.wrap (-c1) = c := by
        have h9 := LV.e9
        have h10 := cmpA_range o3 o4 o1 o2
        rw [LV.e8] at h10
        rw [IntKind.wrap_i64]; omega
      have HX : Aside (dX o3 = 0 ↔ X' = 0) := by
        rw [← ho3]
        exact dX_zero M2.so
      have L := (Aside.intro (And.intro LV (And.intro e1 (And.intro e2 (And.intro ho1 (And.intro ho2 (And.intro ho3 ho4)))))))
      clear LV e1 e2 ho1 ho2 ho3 ho4 V1 V2 M1 M2
      obtain ⟨x0, x1, x2, x3, x4, x5⟩ := (show Rq u3 w.heap.size n (.slice a la ca) e m (.slice b lb cb) f from by obtain ⟨bel, QA, QB, RA, RB⟩ := S3.out; exact QA).facts
      obtain ⟨y0, y1, y2, y3, y4, y5⟩ := (show Rq u3 (w.heap.size + 1) n' (.slice a' la' ca') e' m' (.slice b' lb' cb') f' from by obtain ⟨bel, QA, QB, RA, RB⟩ := S3.out; exact QB).facts
      obtain ⟨bel, QA, QB, RA, RB⟩ := S3.out
      have HC := hid (AddV RA RB (HT.out.belows bel) L.out.2.1 L.out.2.2.1 0 su qt (by rw [L.out.2.2.2.1, L.out.2.2.2.2.1, L.out.2.2.2.2.2.1, L.out.2.2.2.2.2.2]; exact L.out.1.e1))
      clear bel QA QB RA RB
      go_wp2_with fail
      clear x0 x1 x2 x3 x4 x5 y0 y1 y2 y3 y4 y5
      refine (Calls.mono HC.out) ?_
      rintro r u4 ⟨⟨v, u, rfl, hN, hM⟩, hb⟩
      obtain ⟨psu, dsu, rfl, -⟩ := hN.shape
      obtain ⟨qsu, esu, rfl, -⟩ := hM.shape
      clear HC
      obtain ⟨bel, QA, QB, RA, RB⟩ := S3.out
      have hbn := bel.trans (hb.mono bel.size)
      have S4 := Aside.intro (And.intro hbn (And.intro (QA.below hb) (And.intro (QB.below hb) (And.intro (RA.below hb) (And.intro (RB.below hb) (rvO (fx_su1 L.out.1).choose_spec.choose_spec (fx_su2 L.out.1).choose_spec.choose_spec hN hM))))))
      clear bel QA QB RA RB
      clear hb hbn S3
      clear hN hM
      obtain ⟨A5, hU5⟩ : ∃ U, U = u4.alloc (.cells #[.bool (dN su), .slice psu (ws (dX su)).length dsu, .int .i64 (dE su), .bool (dN qt), .slice qsu (ws (dX qt)).length esu, .int .i64 (dE qt)] 30) := ⟨_, rfl⟩
      obtain ⟨bel, QA, QB, RA, RB, Rsu⟩ := S4.out
      have hbA : Below u4.heap.size u4 A5 := by rw [hU5]; exact below_alloc _ _
      have hbB := bel.trans (hbA.mono bel.size)
      have T5 := And.intro hbB (And.intro (QA.below hbA) (And.intro (QB.below hbA) (And.intro (RA.below hbA) (And.intro (RB.below hbA) (And.intro (Rsu.below hbA) (show Rq A5 u4.heap.size (dN su) (.slice psu (ws (dX su)).length dsu) (dE su) (dN qt) (.slice qsu (ws (dX qt)).length esu) (dE qt) by rw [hU5]; exact Rq.new _ _ _ _ _ _ _))))))
      have S5 := Aside.intro T5
      clear bel QA QB RA RB Rsu
      clear hbA hbB T5 S4
      obtain ⟨x0, x1, x2, x3, x4, x5⟩ := (show Rq A5 (w.heap.size + 1) n' (.slice a' la' ca') e' m' (.slice b' lb' cb') f' from by obtain ⟨bel, QA, QB, RA, RB, Rsu, Qsu⟩ := S5.out; exact QB).facts
      obtain ⟨y0, y1, y2, y3, y4, y5⟩ := (show Rq A5 w.heap.size n (.slice a la ca) e m (.slice b lb cb) f from by obtain ⟨bel, QA, QB, RA, RB, Rsu, Qsu⟩ := S5.out; exact QA).facts
      obtain ⟨bel, QA, QB, RA, RB, Rsu, Qsu⟩ := S5.out
      have HC := hid (AddV RB RA (HT.out.belows bel) L.out.2.2.1 L.out.2.1 0 tu tq (by rw [L.out.2.2.2.2.2.1, L.out.2.2.2.2.2.2, L.out.2.2.2.1, L.out.2.2.2.2.1]; exact L.out.1.e2))
      clear bel QA QB RA RB Rsu Qsu
      go_upto_region 7 with fail
      rw [← hU5]
      clear hU5
      go_wp2_with fail
      clear x0 x1 x2 x3 x4 x5 y0 y1 y2 y3 y4 y5
      refine (Calls.mono HC.out) ?_
      rintro r u6 ⟨⟨v, u, rfl, hN, hM⟩, hb⟩
      obtain ⟨ptu, dtu, rfl, -⟩ := hN.shape
      obtain ⟨qtu, etu, rfl, -⟩ := hM.shape
      clear HC
      obtain ⟨bel, QA, QB, RA, RB, Rsu, Qsu⟩ := S5.out
      have hbn := bel.trans (hb.mono bel.size)
      have S6 := Aside.intro (And.intro hbn (And.intro (QA.below hb) (And.intro (QB.below hb) (And.intro (RA.below hb) (And.intro (RB.below hb) (And.intro (Rsu.below hb) (And.intro (Qsu.below hb) (rvO (fx_tu1 L.out.1).choose_spec.choose_spec (fx_tu2 L.out.1).choose_spec.choose_spec hN hM))))))))
      clear bel QA QB RA RB Rsu Qsu
      clear hb hbn S5
      clear hN hM
      obtain ⟨A7, hU7⟩ : ∃ U, U = u6.alloc (.cells #[.bool (dN tu), .slice ptu (ws (dX tu)).length dtu, .int .i64 (dE tu), .bool (dN tq), .slice qtu (ws (dX tq)).length etu, .int .i64 (dE tq)] 30) := ⟨_, rfl⟩
      obtain ⟨bel, QA, QB, RA, RB, Rsu, Qsu, Rtu⟩ := S6.out
      have hbA : Below u6.heap.size u6 A7 := by rw [hU7]; exact below_alloc _ _
      have hbB := bel.trans (hbA.mono bel.size)
      have T7 := And.intro hbB (And.intro (QA.below hbA) (And.intro (QB.below hbA) (And.intro (RA.below hbA) (And.intro (RB.below hbA) (And.intro (Rsu.below hbA) (And.intro (Qsu.below hbA) (And.intro (Rtu.below hbA) (show Rq A7 u6.heap.size (dN tu) (.slice ptu (ws (dX tu)).length dtu) (dE tu) (dN tq) (.slice qtu (ws (dX tq)).length etu) (dE tq) by rw [hU7]; exact Rq.new _ _ _ _ _ _ _))))))))
      have S7 := Aside.intro T7
      clear bel QA QB RA RB Rsu Qsu Rtu
      clear hbA hbB T7 S6
      obtain ⟨x0, x1, x2, x3, x4, x5⟩ := (show Rq A7 u4.heap.size (dN su) (.slice psu (ws (dX su)).length dsu) (dE su) (dN qt) (.slice qsu (ws (dX qt)).length esu) (dE qt) from by obtain ⟨bel, QA, QB, RA, RB, Rsu, Qsu, Rtu, Qtu⟩ := S7.out; exact Qsu).facts
      obtain ⟨y0, y1, y2, y3, y4, y5⟩ := (show Rq A7 (w.heap.size + 1) n' (.slice a' la' ca') e' m' (.slice b' lb' cb') f' from by obtain ⟨bel, QA, QB, RA, RB, Rsu, Qsu, Rtu, Qtu⟩ := S7.out; exact QB).facts
      obtain ⟨bel, QA, QB, RA, RB, Rsu, Qsu, Rtu, Qtu⟩ := S7.out
      have HC := hid (SubV Rsu RB (HT.out.belows bel) (er_su L.out.1) L.out.2.2.1 0 bk bd (by rw [(re_su1 L.out.1), (re_su2 L.out.1), L.out.2.2.2.2.2.1, L.out.2.2.2.2.2.2]; exact L.out.1.e3))
      clear bel QA QB RA RB Rsu Qsu Rtu Qtu
      go_upto_region 8 with fail
      rw [← hU7]
      clear hU7
      go_wp2_with fail
      clear x0 x1 x2 x3 x4 x5 y0 y1 y2 y3 y4 y5
      refine (Calls.mono HC.out) ?_
      rintro r u8 ⟨⟨v, u, rfl, hN, hM⟩, hb⟩
      obtain ⟨pbk, dbk, rfl, -⟩ := hN.shape
      obtain ⟨qbk, ebk, rfl, -⟩ := hM.shape
      clear HC
      obtain ⟨bel, QA, QB, RA, RB, Rsu, Qsu, Rtu, Qtu⟩ := S7.out
      have hbn := bel.trans (hb.mono bel.size)
      have S8 := Aside.intro (And.intro hbn (And.intro (QA.below hb) (And.intro (QB.below hb) (And.intro (RA.below hb) (And.intro (RB.below hb) (And.intro (Rsu.below hb) (And.intro (Qsu.below hb) (And.intro (Rtu.below hb) (And.intro (Qtu.below hb) (rvO (fx_bk1 L.out.1).choose_spec.choose_spec (fx_bk2 L.out.1).choose_spec.choose_spec hN hM))))))))))
      clear bel QA QB RA RB Rsu Qsu Rtu Qtu
      clear hb hbn S7
      clear hN hM
      obtain ⟨A9, hU9⟩ : ∃ U, U = u8.alloc (.cells #[.bool (dN bk), .slice pbk (ws (dX bk)).length dbk, .int .i64 (dE bk), .bool (dN bd), .slice qbk (ws (dX bd)).length ebk, .int .i64 (dE bd)] 30) := ⟨_, rfl⟩
      obtain ⟨bel, QA, QB, RA, RB, Rsu, Qsu, Rtu, Qtu, Rbk⟩ := S8.out
      have hbA : Below u8.heap.size u8 A9 := by rw [hU9]; exact below_alloc _ _
      have hbB := bel.trans (hbA.mono bel.size)
      have T9 := And.intro hbB (And.intro (QA.below hbA) (And.intro (QB.below hbA) (And.intro (RA.below hbA) (And.intro (RB.below hbA) (And.intro (Rsu.below hbA) (And.intro (Qsu.below hbA) (And.intro (Rtu.below hbA) (And.intro (Qtu.below hbA) (And.intro (Rbk.below hbA) (show Rq A9 u8.heap.size (dN bk) (.slice pbk (ws (dX bk)).length dbk) (dE bk) (dN bd) (.slice qbk (ws (dX bd)).length ebk) (dE bd) by rw [hU9]; exact Rq.new _ _ _ _ _ _ _))))))))))
      have S9 := Aside.intro T9
      clear bel QA QB RA RB Rsu Qsu Rtu Qtu Rbk
      clear hbA hbB T9 S8
      obtain ⟨x0, x1, x2, x3, x4, x5⟩ := (show Rq A9 u4.heap.size (dN su) (.slice psu (ws (dX su)).length dsu) (dE su) (dN qt) (.slice qsu (ws (dX qt)).length esu) (dE qt) from by obtain ⟨bel, QA, QB, RA, RB, Rsu, Qsu, Rtu, Qtu, Rbk, Qbk⟩ := S9.out; exact Qsu).facts
      obtain ⟨y0, y1, y2, y3, y4, y5⟩ := (show Rq A9 u6.heap.size (dN tu) (.slice ptu (ws (dX tu)).length dtu) (dE tu) (dN tq) (.slice qtu (ws (dX tq)).length etu) (dE tq) from by obtain ⟨bel, QA, QB, RA, RB, Rsu, Qsu, Rtu, Qtu, Rbk, Qbk⟩ := S9.out; exact Qtu).facts
      obtain ⟨bel, QA, QB, RA, RB, Rsu, Qsu, Rtu, Qtu, Rbk, Qbk⟩ := S9.out
      have HC := hid (CmpV Rsu Rtu (HT.out.belows bel) (er_su L.out.1) (er_tu L.out.1) 0 (by rw [(re_su1 L.out.1), (re_su2 L.out.1), (re_tu1 L.out.1), (re_tu2 L.out.1)]; exact L.out.1.e4))
      clear bel QA QB RA RB Rsu Qsu Rtu Qtu Rbk Qbk
      go_upto_region 9 with fail
      rw [← hU9]
      clear hU9
      go_wp2_with fail
      clear x0 x1 x2 x3 x4 x5 y0 y1 y2 y3 y4 y5
      refine (Calls.mono HC.out) ?_
      rintro r u10 ⟨rfl, hb⟩
      clear HC
      obtain ⟨bel, QA, QB, RA, RB, Rsu, Qsu, Rtu, Qtu, Rbk, Qbk⟩ := S9.out
      have hbn := bel.trans (hb.mono bel.size)
      have S10 := Aside.intro (And.intro hbn (And.intro (QA.below hb) (And.intro (QB.below hb) (And.intro (RA.below hb) (And.intro (RB.below hb) (And.intro (Rsu.below hb) (And.intro (Qsu.below hb) (And.intro (Rtu.below hb) (And.intro (Qtu.below hb) (And.intro (Rbk.below hb) (Qbk.below hb)))))))))))
      clear bel QA QB RA RB Rsu Qsu Rtu Qtu Rbk Qbk
      clear hb hbn S9
      obtain ⟨x0, x1, x2, x3, x4, x5⟩ := (show Rq u10 u8.heap.size (dN bk) (.slice pbk (ws (dX bk)).length dbk) (dE bk) (dN bd) (.slice qbk (ws (dX bd)).length ebk) (dE bd) from by obtain ⟨bel, QA, QB, RA, RB, Rsu, Qsu, Rtu, Qtu, Rbk, Qbk⟩ := S10.out; exact Qbk).facts
      obtain ⟨y0, y1, y2, y3, y4, y5⟩ := (show Rq u10 w.heap.size n (.slice a la ca) e m (.slice b lb cb) f from by obtain ⟨bel, QA, QB, RA, RB, Rsu, Qsu, Rtu, Qtu, Rbk, Qbk⟩ := S10.out; exact QA).facts
      obtain ⟨bel, QA, QB, RA, RB, Rsu, Qsu, Rtu, Qtu, Rbk, Qbk⟩ := S10.out
      have HC := hid (CmpV Rbk RA (HT.out.belows bel) (er_bk L.out.1) L.out.2.1 0 (by rw [(re_bk1 L.out.1), (re_bk2 L.out.1), L.out.2.2.2.1, L.out.2.2.2.2.1]; exact L.out.1.e5))
      clear bel QA QB RA RB Rsu Qsu Rtu Qtu Rbk Qbk
      go_wp2_with fail
      clear x0 x1 x2 x3 x4 x5 y0 y1 y2 y3 y4 y5
      refine (Calls.mono HC.out) ?_
      rintro r u11 ⟨rfl, hb⟩
      clear HC
      obtain ⟨bel, QA, QB, RA, RB, Rsu, Qsu, Rtu, Qtu, Rbk, Qbk⟩ := S10.out
      have hbn := bel.trans (hb.mono bel.size)
      have S11 := Aside.intro (And.intro hbn (And.intro (QA.below hb) (And.intro (QB.below hb) (And.intro (RA.below hb) (And.intro (RB.below hb) (And.intro (Rsu.below hb) (And.intro (Qsu.below hb) (And.intro (Rtu.below hb) (And.intro (Qtu.below hb) (And.intro (Rbk.below hb) (Qbk.below hb)))))))))))
      clear bel QA QB RA RB Rsu Qsu Rtu Qtu Rbk Qbk
      clear hb hbn S10
      obtain ⟨x0, x1, x2, x3, x4, x5⟩ := (show Rq u11 w.heap.size n (.slice a la ca) e m (.slice b lb cb) f from by obtain ⟨bel, QA, QB, RA, RB, Rsu, Qsu, Rtu, Qtu, Rbk, Qbk⟩ := S11.out; exact QA).facts
      obtain ⟨y0, y1, y2, y3, y4, y5⟩ := (show Rq u11 (w.heap.size + 1) n' (.slice a' la' ca') e' m' (.slice b' lb' cb') f' from by obtain ⟨bel, QA, QB, RA, RB, Rsu, Qsu, Rtu, Qtu, Rbk, Qbk⟩ := S11.out; exact QB).facts
      obtain ⟨bel, QA, QB, RA, RB, Rsu, Qsu, Rtu, Qtu, Rbk, Qbk⟩ := S11.out
      have HC := hid (MulV RA RB (HT.out.belows bel) L.out.2.1 L.out.2.2.1 0 ps qt (by rw [L.out.2.2.2.1, L.out.2.2.2.2.1, L.out.2.2.2.2.2.1, L.out.2.2.2.2.2.2]; exact L.out.1.e6))
      clear bel QA QB RA RB Rsu Qsu Rtu Qtu Rbk Qbk
      go_wp2_with fail
      clear x0 x1 x2 x3 x4 x5 y0 y1 y2 y3 y4 y5
      refine (Calls.mono HC.out) ?_
      rintro r u12 ⟨⟨v, u, rfl, hN, hM⟩, hb⟩
      obtain ⟨pps, dps, rfl, -⟩ := hN.shape
      obtain ⟨qps, eps, rfl, -⟩ := hM.shape
      clear HC
      obtain ⟨bel, QA, QB, RA, RB, Rsu, Qsu, Rtu, Qtu, Rbk, Qbk⟩ := S11.out
      have hbn := bel.trans (hb.mono bel.size)
      have S12 := Aside.intro (And.intro hbn (And.intro (QA.below hb) (And.intro (QB.below hb) (And.intro (RA.below hb) (And.intro (RB.below hb) (And.intro (Rsu.below hb) (And.intro (Qsu.below hb) (And.intro (Rtu.below hb) (And.intro (Qtu.below hb) (And.intro (Rbk.below hb) (And.intro (Qbk.below hb) (rvO (fx_ps1 L.out.1).choose_spec.choose_spec (fx_ps2 L.out.1).choose_spec.choose_spec hN hM))))))))))))
      clear bel QA QB RA RB Rsu Qsu Rtu Qtu Rbk Qbk
      clear hb hbn S11
      clear hN hM
      obtain ⟨A13, hU13⟩ : ∃ U, U = u12.alloc (.cells #[.bool (dN ps), .slice pps (ws (dX ps)).length dps, .int .i64 (dE ps), .bool (dN qt), .slice qps (ws (dX qt)).length eps, .int .i64 (dE qt)] 30) := ⟨_, rfl⟩
      obtain ⟨bel, QA, QB, RA, RB, Rsu, Qsu, Rtu, Qtu, Rbk, Qbk, Rps⟩ := S12.out
      have hbA : Below u12.heap.size u12 A13 := by rw [hU13]; exact below_alloc _ _
      have hbB := bel.trans (hbA.mono bel.size)
      have T13 := And.intro hbB (And.intro (QA.below hbA) (And.intro (QB.below hbA) (And.intro (RA.below hbA) (And.intro (RB.below hbA) (And.intro (Rsu.below hbA) (And.intro (Qsu.below hbA) (And.intro (Rtu.below hbA) (And.intro (Qtu.below hbA) (And.intro (Rbk.below hbA) (And.intro (Qbk.below hbA) (And.intro (Rps.below hbA) (show Rq A13 u12.heap.size (dN ps) (.slice pps (ws (dX ps)).length dps) (dE ps) (dN qt) (.slice qps (ws (dX qt)).length eps) (dE qt) by rw [hU13]; exact Rq.new _ _ _ _ _ _ _))))))))))))
      have S13 := Aside.intro T13
      clear bel QA QB RA RB Rsu Qsu Rtu Qtu Rbk Qbk Rps
      clear hbA hbB T13 S12
      obtain ⟨x0, x1, x2, x3, x4, x5⟩ := (show Rq A13 w.heap.size n (.slice a la ca) e m (.slice b lb cb) f from by obtain ⟨bel, QA, QB, RA, RB, Rsu, Qsu, Rtu, Qtu, Rbk, Qbk, Rps, Qps⟩ := S13.out; exact QA).facts
      obtain ⟨y0, y1, y2, y3, y4, y5⟩ := (show Rq A13 (w.heap.size + 1) n' (.slice a' la' ca') e' m' (.slice b' lb' cb') f' from by obtain ⟨bel, QA, QB, RA, RB, Rsu, Qsu, Rtu, Qtu, Rbk, Qbk, Rps, Qps⟩ := S13.out; exact QB).facts
      obtain ⟨bel, QA, QB, RA, RB, Rsu, Qsu, Rtu, Qtu, Rbk, Qbk, Rps, Qps⟩ := S13.out
      have HC := hid (CmpV RA RB (HT.out.belows bel) L.out.2.1 L.out.2.2.1 c (by rw [L.out.2.2.2.1, L.out.2.2.2.2.1, L.out.2.2.2.2.2.1, L.out.2.2.2.2.2.2]; exact L.out.1.e7))
      clear bel QA QB RA RB Rsu Qsu Rtu Qtu Rbk Qbk Rps Qps
      go_upto_region 12 with fail
      rw [← hU13]
      clear hU13
      go_wp2_with fail
      clear x0 x1 x2 x3 x4 x5 y0 y1 y2 y3 y4 y5
      refine (Calls.mono HC.out) ?_
      rintro r u14 ⟨rfl, hb⟩
      clear HC
      obtain ⟨bel, QA, QB, RA, RB, Rsu, Qsu, Rtu, Qtu, Rbk, Qbk, Rps, Qps⟩ := S13.out
      have hbn := bel.trans (hb.mono bel.size)
      have S14 := Aside.intro (And.intro hbn (And.intro (QA.below hb) (And.intro (QB.below hb) (And.intro (RA.below hb) (And.intro (RB.below hb) (And.intro (Rsu.below hb) (And.intro (Qsu.below hb) (And.intro (Rtu.below hb) (And.intro (Qtu.below hb) (And.intro (Rbk.below hb) (And.intro (Qbk.below hb) (And.intro (Rps.below hb) (Qps.below hb)))))))))))))
      clear bel QA QB RA RB Rsu Qsu Rtu Qtu Rbk Qbk Rps Qps
      clear hb hbn S13
      obtain ⟨x0, x1, x2, x3, x4, x5⟩ := (show Rq u14 (w.heap.size + 1) n' (.slice a' la' ca') e' m' (.slice b' lb' cb') f' from by obtain ⟨bel, QA, QB, RA, RB, Rsu, Qsu, Rtu, Qtu, Rbk, Qbk, Rps, Qps⟩ := S14.out; exact QB).facts
      obtain ⟨y0, y1, y2, y3, y4, y5⟩ := (show Rq u14 w.heap.size n (.slice a la ca) e m (.slice b lb cb) f from by obtain ⟨bel, QA, QB, RA, RB, Rsu, Qsu, Rtu, Qtu, Rbk, Qbk, Rps, Qps⟩ := S14.out; exact QA).facts
      obtain ⟨bel, QA, QB, RA, RB, Rsu, Qsu, Rtu, Qtu, Rbk, Qbk, Rps, Qps⟩ := S14.out
      have HC := hid (CmpV RB RA (HT.out.belows bel) L.out.2.2.1 L.out.2.1 c1 (by rw [L.out.2.2.2.2.2.1, L.out.2.2.2.2.2.2, L.out.2.2.2.1, L.out.2.2.2.2.1]; exact L.out.1.e8))
      clear bel QA QB RA RB Rsu Qsu Rtu Qtu Rbk Qbk Rps Qps
      go_wp2_with fail
      clear x0 x1 x2 x3 x4 x5 y0 y1 y2 y3 y4 y5
      refine (Calls.mono HC.out) ?_
      rintro r u15 ⟨rfl, hb⟩
      clear HC
      obtain ⟨bel, QA, QB, RA, RB, Rsu, Qsu, Rtu, Qtu, Rbk, Qbk, Rps, Qps⟩ := S14.out
      have hbn := bel.trans (hb.mono bel.size)
      have S15 := Aside.intro (And.intro hbn (And.intro (QA.below hb) (And.intro (QB.below hb) (And.intro (RA.below hb) (And.intro (RB.below hb) (And.intro (Rsu.below hb) (And.intro (Qsu.below hb) (And.intro (Rtu.below hb) (And.intro (Qtu.below hb) (And.intro (Rbk.below hb) (And.intro (Qbk.below hb) (And.intro (Rps.below hb) (Qps.below hb)))))))))))))
      clear bel QA QB RA RB Rsu Qsu Rtu Qtu Rbk Qbk Rps Qps
      clear hb hbn S14
      have cc : (c == c) = true := by simp
      by_cases hx0 : X' = 0
      · obtain ⟨x0, x1, x2, x3, x4, x5⟩ := (show Rq u15 u12.heap.size (dN ps) (.slice pps (ws (dX ps)).length dps) (dE ps) (dN qt) (.slice qps (ws (dX qt)).length eps) (dE qt) from by obtain ⟨bel, QA, QB, RA, RB, Rsu, Qsu, Rtu, Qtu, Rbk, Qbk, Rps, Qps⟩ := S15.out; exact Qps).facts
        obtain ⟨y0, y1, y2, y3, y4, y5⟩ := (show Rq u15 (w.heap.size + 1) n' (.slice a' la' ca') e' m' (.slice b' lb' cb') f' from by obtain ⟨bel, QA, QB, RA, RB, Rsu, Qsu, Rtu, Qtu, Rbk, Qbk, Rps, Qps⟩ := S15.out; exact QB).facts
        obtain ⟨bel, QA, QB, RA, RB, Rsu, Qsu, Rtu, Qtu, Rbk, Qbk, Rps, Qps⟩ := S15.out
        have HC := hid (DivV Rps RB (HT.out.belows bel) (er_ps L.out.1) L.out.2.2.1 21 none none (by rw [(re_ps1 L.out.1), (re_ps2 L.out.1), L.out.2.2.2.2.2.1, L.out.2.2.2.2.2.2]; exact L.out.1.dv0 (HX.out.2 hx0)))
        clear bel QA QB RA RB Rsu Qsu Rtu Qtu Rbk Qbk Rps Qps
        go_wp2_with fail
        clear x0 x1 x2 x3 x4 x5 y0 y1 y2 y3 y4 y5
        refine (Calls.mono HC.out) ?_
        rintro r u16 ⟨⟨v, u, rfl, hN, hM⟩, hb⟩
        obtain ⟨pDiv, dDiv, rfl, -⟩ := hN.shape
        obtain ⟨qDiv, eDiv, rfl, -⟩ := hM.shape
        clear HC
        obtain ⟨bel, QA, QB, RA, RB, Rsu, Qsu, Rtu, Qtu, Rbk, Qbk, Rps, Qps⟩ := S15.out
        have hbn := bel.trans (hb.mono bel.size)
        have S16 := Aside.intro (And.intro hbn (And.intro (QA.below hb) (And.intro (QB.below hb) (And.intro (RA.below hb) (And.intro (RB.below hb) (And.intro (Rsu.below hb) (And.intro (Qsu.below hb) (And.intro (Rtu.below hb) (And.intro (Qtu.below hb) (And.intro (Rbk.below hb) (And.intro (Qbk.below hb) (And.intro (Rps.below hb) (Qps.below hb)))))))))))))
        clear bel QA QB RA RB Rsu Qsu Rtu Qtu Rbk Qbk Rps Qps
        clear hb hbn S15
        clear hN hM
        have hA5 : Below u16.heap.size u16 (u16.alloc (.cells #[.bool (dN none), .slice pDiv (ws (dX none)).length dDiv, .int .i64 (dE none), .bool (dN none), .slice qDiv (ws (dX none)).length eDiv, .int .i64 (dE none)] 30)) := below_alloc _ _
        obtain ⟨U9, hU9⟩ : ∃ U, U = u16.alloc (.cells #[.bool (dN none), .slice pDiv (ws (dX none)).length dDiv, .int .i64 (dE none), .bool (dN none), .slice qDiv (ws (dX none)).length eDiv, .int .i64 (dE none)] 30) := ⟨_, rfl⟩
        rw [← hU9] at hA5
        obtain ⟨bel, QA, QB, RA, RB, Rsu, Qsu, Rtu, Qtu, Rbk, Qbk, Rps, Qps⟩ := S16.out
        have bel9 := bel.trans (hA5.mono bel.size)
        obtain ⟨ya, yl, yc, ys, hsl, hyA, hyv⟩ := RB.num
        cases hsl
        have HL := hid (rLen_arg (k := 0) (hyA.below hA5) (by rw [hyv, hx0, bl_zero]))
        obtain ⟨y0, y1, y2, y3, y4, y5⟩ := (QB.below hA5).facts
        have S8 := Aside.intro bel9
        clear bel QA QB RA RB Rsu Qsu Rtu Qtu Rbk Qbk Rps Qps
        clear hA5 bel9 hyA hyv S16
        go_upto_region 17 with fail
        rw [← hU9]
        clear hU9
        go_wp2_with fail
        refine (Calls.mono HL.out) ?_
        rintro r v9 ⟨rfl, hb⟩
        have S9 := Aside.intro (S8.out.trans (hb.mono S8.out.size))
        clear hb HL L HT BD HX
        go_wp2
        go_ret
        exact ⟨rfl, S9.out⟩

      · obtain ⟨by1, by2, hd1, hd2, hd3, hd4⟩ := L.out.1.dv1 (fun h => hx0 (HX.out.1 h))
        have D := (Aside.intro (And.intro hd1 (And.intro hd2 (And.intro hd3 hd4))))
        clear hd1 hd2 hd3 hd4
        obtain ⟨x0, x1, x2, x3, x4, x5⟩ := (show Rq u15 u12.heap.size (dN ps) (.slice pps (ws (dX ps)).length dps) (dE ps) (dN qt) (.slice qps (ws (dX qt)).length eps) (dE qt) from by obtain ⟨bel, QA, QB, RA, RB, Rsu, Qsu, Rtu, Qtu, Rbk, Qbk, Rps, Qps⟩ := S15.out; exact Qps).facts
        obtain ⟨y0, y1, y2, y3, y4, y5⟩ := (show Rq u15 (w.heap.size + 1) n' (.slice a' la' ca') e' m' (.slice b' lb' cb') f' from by obtain ⟨bel, QA, QB, RA, RB, Rsu, Qsu, Rtu, Qtu, Rbk, Qbk, Rps, Qps⟩ := S15.out; exact QB).facts
        obtain ⟨bel, QA, QB, RA, RB, Rsu, Qsu, Rtu, Qtu, Rbk, Qbk, Rps, Qps⟩ := S15.out
        have HC := hid (DivV Rps RB (HT.out.belows bel) (er_ps L.out.1) L.out.2.2.1 0 by1 by2 (by rw [(re_ps1 L.out.1), (re_ps2 L.out.1), L.out.2.2.2.2.2.1, L.out.2.2.2.2.2.2]; exact D.out.1))
        clear bel QA QB RA RB Rsu Qsu Rtu Qtu Rbk Qbk Rps Qps
        go_wp2_with fail
        clear x0 x1 x2 x3 x4 x5 y0 y1 y2 y3 y4 y5
        refine (Calls.mono HC.out) ?_
        rintro r u16 ⟨⟨v, u, rfl, hN, hM⟩, hb⟩
        obtain ⟨pby, dby, rfl, -⟩ := hN.shape
        obtain ⟨qby, eby, rfl, -⟩ := hM.shape
        clear HC
        obtain ⟨bel, QA, QB, RA, RB, Rsu, Qsu, Rtu, Qtu, Rbk, Qbk, Rps, Qps⟩ := S15.out
        have hbn := bel.trans (hb.mono bel.size)
        have S16 := Aside.intro (And.intro hbn (And.intro (QA.below hb) (And.intro (QB.below hb) (And.intro (RA.below hb) (And.intro (RB.below hb) (And.intro (Rsu.below hb) (And.intro (Qsu.below hb) (And.intro (Rtu.below hb) (And.intro (Qtu.below hb) (And.intro (Rbk.below hb) (And.intro (Qbk.below hb) (And.intro (Rps.below hb) (And.intro (Qps.below hb) (rvO D.out.2.2.1.choose_spec.choose_spec D.out.2.2.2.choose_spec.choose_spec.1 hN hM))))))))))))))
        clear bel QA QB RA RB Rsu Qsu Rtu Qtu Rbk Qbk Rps Qps
        clear hb hbn S15
        clear hN hM
        obtain ⟨A17, hU17⟩ : ∃ U, U = u16.alloc (.cells #[.bool (dN by1), .slice pby (ws (dX by1)).length dby, .int .i64 (dE by1), .bool (dN by2), .slice qby (ws (dX by2)).length eby, .int .i64 (dE by2)] 30) := ⟨_, rfl⟩
        obtain ⟨bel, QA, QB, RA, RB, Rsu, Qsu, Rtu, Qtu, Rbk, Qbk, Rps, Qps, Rby⟩ := S16.out
        have hbA : Below u16.heap.size u16 A17 := by rw [hU17]; exact below_alloc _ _
        have hbB := bel.trans (hbA.mono bel.size)
        have T17 := And.intro hbB (And.intro (QA.below hbA) (And.intro (QB.below hbA) (And.intro (RA.below hbA) (And.intro (RB.below hbA) (And.intro (Rsu.below hbA) (And.intro (Qsu.below hbA) (And.intro (Rtu.below hbA) (And.intro (Qtu.below hbA) (And.intro (Rbk.below hbA) (And.intro (Qbk.below hbA) (And.intro (Rps.below hbA) (And.intro (Qps.below hbA) (And.intro (Rby.below hbA) (show Rq A17 u16.heap.size (dN by1) (.slice pby (ws (dX by1)).length dby) (dE by1) (dN by2) (.slice qby (ws (dX by2)).length eby) (dE by2) by rw [hU17]; exact Rq.new _ _ _ _ _ _ _))))))))))))))
        have S17 := Aside.intro T17
        clear bel QA QB RA RB Rsu Qsu Rtu Qtu Rbk Qbk Rps Qps Rby
        clear hbA hbB T17 S16
        obtain ⟨kx, hkx, hkx0⟩ : ∃ kx : Nat, bl X' = kx ∧ kx ≠ 0 := ⟨_, rfl, fun h => by have := bl_pos X' hx0; omega⟩
        have hk1 : ((kx : Int) == 0) = false := by simp [hkx0]
        have hk2 : (kx == 0) = false := by simp [hkx0]
        obtain ⟨y0, y1, y2, y3, y4, y5⟩ := (show Rq A17 (w.heap.size + 1) n' (.slice a' la' ca') e' m' (.slice b' lb' cb') f' from by obtain ⟨bel, QA, QB, RA, RB, Rsu, Qsu, Rtu, Qtu, Rbk, Qbk, Rps, Qps, Rby, Qby⟩ := S17.out; exact QB).facts
        obtain ⟨bel, QA, QB, RA, RB, Rsu, Qsu, Rtu, Qtu, Rbk, Qbk, Rps, Qps, Rby, Qby⟩ := S17.out
        have HC := hid ((show Calls Tryz.prog 39 #[.slice a' la' ca'] A17 fun r w' => r = .returned (.int .i64 (kx : Nat)) ∧ Below A17.heap.size A17 w' from by obtain ⟨ya, yl, yc, ys, hsl, hyA, hyv⟩ := RB.num; cases hsl; exact rLen_arg hyA (by rw [hyv]; exact hkx)))
        clear bel QA QB RA RB Rsu Qsu Rtu Qtu Rbk Qbk Rps Qps Rby Qby
        go_upto_region 17 with fail
        rw [← hU17]
        clear hU17
        go_wp2_with fail
        clear y0 y1 y2 y3 y4 y5
        refine (Calls.mono HC.out) ?_
        rintro r u18 ⟨rfl, hb⟩
        clear HC
        obtain ⟨bel, QA, QB, RA, RB, Rsu, Qsu, Rtu, Qtu, Rbk, Qbk, Rps, Qps, Rby, Qby⟩ := S17.out
        have hbn := bel.trans (hb.mono bel.size)
        have S18 := Aside.intro (And.intro hbn (And.intro (QA.below hb) (And.intro (QB.below hb) (And.intro (RA.below hb) (And.intro (RB.below hb) (And.intro (Rsu.below hb) (And.intro (Qsu.below hb) (And.intro (Rtu.below hb) (And.intro (Qtu.below hb) (And.intro (Rbk.below hb) (And.intro (Qbk.below hb) (And.intro (Rps.below hb) (And.intro (Qps.below hb) (And.intro (Rby.below hb) (Qby.below hb)))))))))))))))
        clear bel QA QB RA RB Rsu Qsu Rtu Qtu Rbk Qbk Rps Qps Rby Qby
        clear hb hbn S17
        obtain ⟨x0, x1, x2, x3, x4, x5⟩ := (show Rq u18 u16.heap.size (dN by1) (.slice pby (ws (dX by1)).length dby) (dE by1) (dN by2) (.slice qby (ws (dX by2)).length eby) (dE by2) from by obtain ⟨bel, QA, QB, RA, RB, Rsu, Qsu, Rtu, Qtu, Rbk, Qbk, Rps, Qps, Rby, Qby⟩ := S18.out; exact Qby).facts
        obtain ⟨y0, y1, y2, y3, y4, y5⟩ := (show Rq u18 w.heap.size n (.slice a la ca) e m (.slice b lb cb) f from by obtain ⟨bel, QA, QB, RA, RB, Rsu, Qsu, Rtu, Qtu, Rbk, Qbk, Rps, Qps, Rby, Qby⟩ := S18.out; exact QA).facts
        obtain ⟨bel, QA, QB, RA, RB, Rsu, Qsu, Rtu, Qtu, Rbk, Qbk, Rps, Qps, Rby, Qby⟩ := S18.out
        have HC := hid (CmpV Rby RA (HT.out.belows bel) (err_forms D.out.2.2.1.choose_spec.choose_spec D.out.2.2.2.choose_spec.choose_spec.1 D.out.2.2.2.choose_spec.choose_spec.2) L.out.2.1 0 (by rw [D.out.2.2.1.choose_spec.choose_spec.reform, D.out.2.2.2.choose_spec.choose_spec.1.reform, L.out.2.2.2.1, L.out.2.2.2.2.1]; exact D.out.2.1))
        clear bel QA QB RA RB Rsu Qsu Rtu Qtu Rbk Qbk Rps Qps Rby Qby
        go_wp2_with fail
        clear x0 x1 x2 x3 x4 x5 y0 y1 y2 y3 y4 y5
        refine (Calls.mono HC.out) ?_
        rintro r u19 ⟨rfl, hb⟩
        clear HC
        obtain ⟨bel, QA, QB, RA, RB, Rsu, Qsu, Rtu, Qtu, Rbk, Qbk, Rps, Qps, Rby, Qby⟩ := S18.out
        have hbn := bel.trans (hb.mono bel.size)
        have S19 := Aside.intro (And.intro hbn (And.intro (QA.below hb) (And.intro (QB.below hb) (And.intro (RA.below hb) (And.intro (RB.below hb) (And.intro (Rsu.below hb) (And.intro (Qsu.below hb) (And.intro (Rtu.below hb) (And.intro (Qtu.below hb) (And.intro (Rbk.below hb) (And.intro (Qbk.below hb) (And.intro (Rps.below hb) (And.intro (Qps.below hb) (And.intro (Rby.below hb) (Qby.below hb)))))))))))))))
        clear bel QA QB RA RB Rsu Qsu Rtu Qtu Rbk Qbk Rps Qps Rby Qby
        clear hb hbn S18
        have S9 := Aside.intro S19.out.1
        clear S19 L HT BD HX D
        go_wp2
        go_ret
        exact ⟨rfl, S9.out⟩

theorem walk_RootLaws (n : Bool) (a : Option Addr) (la ca : Nat) (e : Int) (xs : List Nat) (m : Bool) (b : Option Addr) (lb cb : Nat) (f : Int) (ys : List Nat) (n' : Bool) (a' : Option Addr) (la' ca' : Nat) (e' : Int) (xs' : List Nat) (m' : Bool) (b' : Option Addr) (lb' cb' : Nat) (f' : Int) (ys' : List Nat)
    (w : World) (hT : Tab w) (h : CameR w a la ca e xs b lb cb f ys) (h' : CameR w a' la' ca' e' xs' b' lb' cb' f' ys') (z : la ≤ 1048576 ∧ lb ≤ 1048576) (z' : la' ≤ 1048576 ∧ lb' ≤ 1048576) :
    Calls Tryz.prog 7 #[.agg #[.bool n, .slice a la ca, .int .i64 e, .bool m, .slice b lb cb, .int .i64 f], .agg #[.bool n', .slice a' la' ca', .int .i64 e', .bool m', .slice b' lb' cb', .int .i64 f']] w fun r w' => r = .returned (.bool true) ∧ Below w.heap.size w w' :=
  laws_core (h.rv (by omega) (by omega)) (h'.rv (by omega) (by omega)) hT (by omega) (by omega) (by omega) (by omega)

end Go.Proofs.YtdimlelcgapobaaGreatDoor

