/- What good tells; near, of values. -/
import Derived.Test.YthilnddhehbjiabJ37x
import Derived.Test.YthilnddhehbjiabJ38x
import Derived.Test.YthilnddhehbjiabJ40
import Derived.Test.YthilnddhehbjiabJ41
import Derived.Test.YthilnddhehbjiabJ27x
namespace Go.Proofs.Ythilnddhehbjiab
open Go.RowKit J
set_option linter.unusedVariables false
set_option maxRecDepth 20000
set_option linter.unusedSimpArgs false

theorem fv_zero {x : Nat} : fvW x = 0 ↔ magW x = 0 := by
  unfold fvW
  constructor
  · intro h
    have h2 : (B.sg (negW x) (vK (magW x))).natAbs = 0 := by rw [h]; rfl
    rw [sg_abs] at h2
    apply Nat.eq_zero_of_not_pos; intro hp
    have : vK 0 < vK (magW x) := vK_lt.2 hp
    omega
  · intro h
    rw [h, show vK 0 = 0 from B.val_zero _]
    unfold B.sg; cases negW x <;> rfl
theorem Fo.weak {o : Option (Bool × Nat × Int)} {z L H L' H' : Int} (h : Fo o z L H) (h1 : L' ≤ L) (h2 : H ≤ H') : Fo o z L' H' := by
  obtain ⟨n, X, e, k1, k2, k3, k4⟩ := h.ex
  exact ⟨n, X, e, k1, k2, k3, by omega⟩
theorem Fo.turn {n : Bool} {X : Nat} {e z L H : Int} (h : Fo (some (n, X, e)) z L H) : Fo (mkS (!n) X e) (-z) L H := by
  obtain ⟨F, hv, hb⟩ := h.frm
  by_cases hX : X = 0
  · have hz := (fo_zero h).1 hX
    rw [hX, mkSz, hz]
    refine ⟨false, 0, 0, rfl, ⟨.inr ⟨rfl, rfl, rfl⟩, by rw [bl_zero]; omega, by omega, by omega⟩, ?_, .inl rfl⟩
    rw [zv_zero (x := (false, 0, 0)) _ rfl]; simp
  · have G : Frm (!n) X e := ⟨.inl (frm_odd F hX), F.size, F.up, F.down⟩
    rw [mkS_idem G]
    refine ⟨!n, X, e, rfl, G, ?_, hb⟩
    unfold zv at hv ⊢
    simp only at hv ⊢
    rw [Int.neg_mul, ← hv]
    unfold sg1
    cases n <;> simp
/-- near, where the bound is kept. -/
theorem near_two {p : Nat × Nat} {V : Int} (t : Two p V) {n : Bool} {X : Nat} {e z L H : Int} (h : Fo (some (n, X, e)) z L H) (hL : -3000 ≤ L) (hH : H ≤ 3000) (by0 : Int) (k : Nat) (hk : (k : Int) = by0) (hk2 : k ≤ 1000) (hn : 2 ^ k * (V * (UU : Int) - z).natAbs ≤ z.natAbs) (u : World) (a : Option Addr) (c : Nat) (A : Arg u a (ws X).length c (ws X)) :
    Calls Try.prog 37 #[.agg #[.float .f64 p.1, .float .f64 p.2], .agg #[.bool n, .slice a (ws X).length c, .int .i64 e], .int .i64 by0] u fun r w' => r = .returned (.bool true) ∧ Below u.heap.size u w' := by
  obtain ⟨nS, S, eS, FS, HW⟩ := worth_two t
  have FO := (FS.weak (L' := -3000) (H' := 3000) (by omega) (by omega)).add (h.turn.weak (L' := -3000) (H' := 3000) hL hH) (by omega) (by omega) (by omega)
  obtain ⟨nO, O, eO, hO, _⟩ := FO.ex
  have l1 := frmLen h.frm.1
  have l2 := frmLen FS.frm.1
  have d1 := h.frm.1.down
  have d2 := h.frm.1.up
  have d3 := FS.frm.1.down
  have d4 := FS.frm.1.up
  have HS := hid fun u a b c d (A : Arg u a (ws S).length c (ws S)) (C : Arg u b (ws X).length d (ws X)) => rSub_any3 A C (by omega) (by omega) nS n eS e (by omega) (by omega) (by omega) (by omega)
  simp only [val_ws, mkS_idem FS.frm.1, hO] at HS
  rw [hO] at FO
  have l3 := frmLen FO.frm.1
  have d5 := FO.frm.1.down
  have d6 := FO.frm.1.up
  have HS' : Hid (∀ u a b c d, Arg u a (ws S).length c (ws S) → Arg u b (ws X).length d (ws X) → Calls Try.prog 60 #[.agg #[.bool nS, .slice a (ws S).length c, .int .i64 eS], .agg #[.bool n, .slice b (ws X).length d, .int .i64 e]] u fun r w' => (∃ v, r = .returned (.tuple #[.agg #[.bool nO, v, .int .i64 eO], .int .i64 0]) ∧ Nt u.heap.size w' v O) ∧ Below u.heap.size u w') :=
    hid fun u a b c d A C => (HS.out u a b c d A C).mono fun r w' h => h
  have hw : IntKind.i64.wrap (eO + by0) = eO + by0 := by rw [IntKind.wrap_i64]; omega
  by_cases h0 : O = 0
  · exact near_nil p.1 p.2 n nS nO a X c S O e eS eO by0 u A l1 l2 l3 hw (by rw [h0, ws_zero]; rfl) (hid HW) HS'
  · have HC := hid fun u a b c d (A : Arg u a (ws O).length c (ws O)) (C : Arg u b (ws X).length d (ws X)) => rCmp_any3 A C (by omega) (by omega) false false (eO + by0) e (by omega) (by omega) (by omega) (by omega)
    simp only [val_ws] at HC
    refine near_off p.1 p.2 n nS nO a X c S O e eS eO by0 u A l1 l2 l3 hw (len_ne h0) _ (decide_eq_true ?_) (hid HW) HS' HC
    rw [cmpV_z false O (eO + by0) false X e (-2097152) (by omega) (by omega), fo_abs h]
    have e1 : O * 2 ^ (eO + by0 - -2097152).toNat = (V * (UU : Int) + -z).natAbs * SS * 2 ^ k := by
      rw [← fo_abs FO, show (eO + by0 - -2097152).toNat = (eO - -2097152).toNat + k by omega, Nat.pow_add, Nat.mul_assoc]
    rw [e1]
    unfold sg1
    simp only [Bool.false_eq_true, if_false, Int.one_mul]
    rw [cmpZ_le]
    have h2 := Nat.mul_le_mul_right SS hn
    rw [Int.sub_eq_add_neg] at h2
    have e2 : (V * (UU : Int) + -z).natAbs * SS * 2 ^ k = 2 ^ k * (V * (UU : Int) + -z).natAbs * SS := by simp only [Nat.mul_assoc, Nat.mul_left_comm, Nat.mul_comm]
    rw [e2]
    omega

/-- What good tells. -/
theorem good_any {pa pb : Nat} (ha : Wd pa) (hb : Wd pb) : ∃ gd : Bool, (∀ u, Calls Try.prog 33 #[.agg #[.float .f64 pa, .float .f64 pb]] u fun r w' => r = .returned (.bool gd) ∧ Below u.heap.size u w') ∧ (gd = true → GoodW pa pb) := by
  have z0 : (ws 0).length ≤ 8192 := by rw [ws_zero]; simp
  by_cases fa : finW pa
  · obtain ⟨nX, XX, eX, o1, F1, hX⟩ := of_fo (negW pa) (magW pa) fa
    have l1 := frmLen F1.frm.1
    have HX := hid fun u => finite_fin ha fa o1 l1 u
    by_cases fb : finW pb
    · obtain ⟨nY, XY, eY, o2, F2, hY⟩ := of_fo (negW pb) (magW pb) fb
      have l2 := frmLen F2.frm.1
      have HY := hid fun u => finite_fin hb fb o2 l2 u
      have HP := hid fun u => sPlus_any pa pb ha hb u
      have hU := U_pos
      have hNo : Hid (∀ u, Calls Try.prog 52 #[.float .f64 pb] u fun r w' => r = .returned (.bool (magW pb == 0)) ∧ Below u.heap.size u w') := hid fun u => (rIsNought_any pb hb u).mono fun r w' h => ⟨h.1, by rw [h.2]; exact Below.refl _ _⟩
      have hSm : ∀ b : Bool, (plW pa pb == pa) = b → Hid (∀ u, Calls Try.prog 26 #[.float .f64 (plW pa pb), .float .f64 pa] u fun r w' => r = .returned (.bool b) ∧ Below u.heap.size u w') := fun b hb' => hid fun u => (rSame_w (plW pa pb) pa u).mono fun r w' h => ⟨by rw [h.1, hb'], by rw [h.2]; exact Below.refl _ _⟩
      have nil : XX = 0 → (magW pb == 0) = true → GoodW pa pb := by
        intro h1 h2
        have e1 : fvW pa = 0 := fv_zero.2 (hX.1 h1)
        have e2 : fvW pb = 0 := fv_zero.2 (by simpa using h2)
        refine ⟨ha, hb, fa, fb, ⟨?_, fv_F _, .inl ⟨e1, e2⟩⟩, fun e _ => ?_, fun h => absurd e1 h⟩
        · rw [e1, e2]; exact ⟨IsF.zero, fun f _ => by simp⟩
        · rw [e1]; simp
      cases hs : (plW pa pb == pa) with
      | false =>
        by_cases h0 : XX = 0
        · refine ⟨magW pb == 0, fun u => ?_, nil h0⟩
          exact good_nil_f pa pb nX nY XX XY eX eY u l1 l2 (plW pa pb) (by rw [h0, ws_zero]; simp) (by rw [h0, ws_zero]; rfl) _ HX HY HP (hSm false hs) hNo
        · have hl : 0 < (ws XX).length := by have : (ws XX).length ≠ 0 := fun e => h0 ((ws_len_zero XX).1 e); omega
          exact ⟨false, fun u => good_diff pa pb nX nY XX XY eX eY u l1 l2 (plW pa pb) hl (len_ne h0) HX HY HP (hSm false hs), fun h => by cases h⟩
      | true =>
        obtain ⟨k, hk⟩ : ∃ k : Nat, k = 2548 := ⟨_, rfl⟩
        obtain ⟨q, hq⟩ : ∃ q : Nat, q = 1748 := ⟨_, rfl⟩
        obtain ⟨m, hm⟩ : ∃ m, decide ((fvW pa * (UU : Int)).natAbs ≤ 2 ^ k) = m := ⟨_, rfl⟩
        have d1 := F1.frm.1.down
        have d2 := F1.frm.1.up
        have HW := hid fun u a c A => within_fo (z := fvW pa * (UU : Int)) F1 400 k (by omega) (by omega) (by omega) hm u a c A
        have HC := hid fun u a b c d (A : Arg u a (ws XX).length c (ws XX)) (C : Arg u b 1 d [1]) => rCmp_any3 A C (by omega) (by omega) false false eX (-400) (by omega) (by omega) (by omega) (by omega)
        have hv : val [1] = 1 := rfl
        simp only [val_ws, hv] at HC
        refine ⟨if (ws XX).length = 0 then magW pb == 0 else m && decide (0 ≤ cmpV false XX eX false 1 (-400)), fun u => good_same pa pb nX nY XX XY eX eY u l1 l2 (plW pa pb) _ m _ HX HY HP (hSm true hs) hNo HW HC, ?_⟩
        by_cases h0 : (ws XX).length = 0
        · rw [if_pos h0]; exact nil ((ws_len_zero XX).1 h0)
        · rw [if_neg h0]
          intro hg
          rw [Bool.and_eq_true] at hg
          obtain ⟨g1, g2⟩ := hg
          rw [g1] at hm
          have up := of_decide_eq_true hm
          have dn := of_decide_eq_true g2
          rw [cmp_pow (x := fvW pa * (UU : Int)) F1 (-400) q (by omega) (by omega), cmpZ_ge] at dn
          rw [absU] at up dn
          have hEU : EU = 1074 := rfl
          have up' : ∀ e : Nat, e = 1474 → (fvW pa).natAbs ≤ 2 ^ e := by
            intro e he
            rw [show k = e + EU by omega, Nat.pow_add, ← U_eq] at up
            exact Nat.le_of_mul_le_mul_right up hU
          have dn' : ∀ e : Nat, e = 674 → 2 ^ e ≤ (fvW pa).natAbs := by
            intro e he
            have d3 : 2 ^ q ≤ (fvW pa).natAbs * UU := by omega
            rw [show q = e + EU by omega, Nat.pow_add, ← U_eq] at d3
            exact Nat.le_of_mul_le_mul_right d3 hU
          have ez : plW pa pb = pa := by simpa using hs
          have fz : finW (plW pa pb) := by rw [ez]; exact fa
          have rn := pl_rn ha hb fa fb fz
          rw [ez] at rn
          obtain ⟨e6, he6⟩ : ∃ e : Nat, e = 674 := ⟨_, rfl⟩
          exact ⟨ha, hb, fa, fb, ⟨rn, fv_F _, .inr (Nat.le_trans (Nat.pow_le_pow_right (by decide) (by omega)) (dn' e6 he6))⟩, up', fun _ => dn'⟩
    · exact ⟨false, fun u => good_tf pa pb nX false XX 0 eX 0 u l1 z0 HX (hid fun u => finite_not hb fb u), fun h => by cases h⟩
  · have HX := hid fun u => finite_not ha fa u
    by_cases fb : finW pb
    · obtain ⟨nY, XY, eY, o2, F2, hY⟩ := of_fo (negW pb) (magW pb) fb
      have l2 := frmLen F2.frm.1
      exact ⟨false, fun u => good_ft pa pb false nY 0 XY 0 eY u z0 l2 HX (hid fun u => finite_fin hb fb o2 l2 u), fun h => by cases h⟩
    · exact ⟨false, fun u => good_ff pa pb false false 0 0 0 0 u z0 z0 HX (hid fun u => finite_not hb fb u), fun h => by cases h⟩
theorem walk_PairNear (ah al bh bl : Nat) (w00 : (Lit.float .f64 ah).wf = true) (w01 : (Lit.float .f64 al).wf = true) (w10 : (Lit.float .f64 bh).wf = true) (w11 : (Lit.float .f64 bl).wf = true) (w : World) :
    Calls Try.prog 6 #[.agg #[.float .f64 ah, .float .f64 al], .agg #[.float .f64 bh, .float .f64 bl]] w fun r w' => r = .returned (.bool true) ∧ Below w.heap.size w w' := by
  have h0 : Wd ah := by have h := w00; simp [Lit.wf] at h; exact h
  have h1 : Wd al := by have h := w01; simp [Lit.wf] at h; exact h
  have h2 : Wd bh := by have h := w10; simp [Lit.wf] at h; exact h
  have h3 : Wd bl := by have h := w11; simp [Lit.wf] at h; exact h
  obtain ⟨g1, G1, k1⟩ := good_any h0 h1
  obtain ⟨g2, G2, k2⟩ := good_any h2 h3
  cases g1
  · cases g2
    · exact near_ff ah al bh bl w (hid G1) (hid G2)
    · exact near_ft ah al bh bl w (hid G1) (hid G2)
  · cases g2
    · exact near_tf ah al bh bl w (hid G1) (hid G2)
    · have p := k1 rfl
      have q := k2 rfl
      obtain ⟨nX, XX, eX, FX, HX⟩ := worth_two (p := (ah, al)) (V := fvW ah + fvW al) ⟨p.wa, p.wb, p.fa, p.fb, rfl⟩
      obtain ⟨nY, XY, eY, FY, HY⟩ := worth_two (p := (bh, bl)) (V := fvW bh + fvW bl) ⟨q.wa, q.wb, q.fa, q.fb, rfl⟩
      have FA := FX.add FY (by omega) (by omega) (by omega)
      have FM := FX.mul FY (by omega) (by omega) (by omega)
      rw [← Int.add_mul] at FA
      obtain ⟨nS, XS, eS, hS, _⟩ := FA.ex
      obtain ⟨nM, XM, eM, hM, _⟩ := FM.ex
      have HA := hid fun u a b c d A C => add_fm FX.frm.1 FY.frm.1 hS rfl u a b c d A C
      have HM := hid fun u a b c d A C => mul_fm FX.frm.1 FY.frm.1 hM rfl u a b c d A C
      rw [hS] at FA
      rw [hM] at FM
      obtain ⟨V1, T1, n1⟩ := add_words p q
      obtain ⟨V2, T2, n2⟩ := mul_words p q
      have n1' : 2 ^ 104 * (V1 * (UU : Int) - (fvW ah + fvW al + (fvW bh + fvW bl)) * (UU : Int)).natAbs ≤ ((fvW ah + fvW al + (fvW bh + fvW bl)) * (UU : Int)).natAbs := by
        rw [← Int.sub_mul, absU, absU, ← Nat.mul_assoc]
        exact Nat.mul_le_mul_right _ n1
      exact near_tt ah al bh bl w nX nY nS nM XX XY XS XM eX eY eS eM _ _ _ _ (frmLen FX.frm.1) (frmLen FY.frm.1) (frmLen FA.frm.1) (frmLen FM.frm.1) (hid G1) (hid G2) (hid HX) (hid HY) HA HM
        (hid fun u => Add_all ah al bh bl u) (hid fun u a c A => near_two T1 FA (by omega) (by omega) 104 104 rfl (by omega) n1' u a c A) (hid fun u => Mul_all ah al bh bl u) (hid fun u a c A => near_two T2 FM (by omega) (by omega) 103 103 rfl (by omega) n2 u a c A)
end Go.Proofs.Ythilnddhehbjiab
