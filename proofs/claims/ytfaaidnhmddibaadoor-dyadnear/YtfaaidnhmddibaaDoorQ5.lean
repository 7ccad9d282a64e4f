/- DyadNear: the law. -/
import Derived.Test.YtfaaidnhmddibaaDoorQ3
import Derived.Test.YtfaaidnhmddibaaDoorQ1
import Derived.Test.YtfaaidnhmddibaaDoorQ4
import Derived.Test.YtfaaidnhmddibaaDoorN1x
import Derived.Test.YtfaaidnhmddibaaDoorD38
import Derived.Test.YtfaaidnhmddibaaDoorD29
namespace Go.Proofs.YtfaaidnhmddibaaDoor
open Go.ChangeShapes Go.WideShapes Go.ChangeAt Go.RowKit
set_option linter.unusedVariables false
set_option maxRecDepth 20000

theorem ofR_lenQ (s : Bool) (e f : Nat) : (ws (dX (ofR s e f))).length ≤ 8192 := by
  unfold ofR
  split
  · show (ws 0).length ≤ 8192
    rw [ws_zero]; exact Nat.zero_le _
  · exact mkS_len _ _ _
theorem mkS_expQ (n : Bool) (X : Nat) (e : Int) : -1048576 ≤ dE (mkS n X e) ∧ dE (mkS n X e) ≤ 1048576 := by
  cases hx : mkS n X e with
  | none => exact ⟨by decide, by decide⟩
  | some x =>
    obtain ⟨n', Y, f⟩ := x
    have F := mkS_frm hx
    exact ⟨F.down, F.up⟩
theorem ofR_exp (s : Bool) (e f : Nat) : -1048576 ≤ dE (ofR s e f) ∧ dE (ofR s e f) ≤ 1048576 := by
  unfold ofR
  split
  · exact ⟨by decide, by decide⟩
  · exact mkS_expQ _ _ _
theorem addD_expQ (n : Bool) (X : Nat) (e : Int) (m : Bool) (Y : Nat) (f : Int) : -1048576 ≤ dE (addD (mkS n X e) (mkS m Y f)) ∧ dE (addD (mkS n X e) (mkS m Y f)) ≤ 1048576 := by
  cases h : addD (mkS n X e) (mkS m Y f) with
  | none => exact ⟨by decide, by decide⟩
  | some z =>
    obtain ⟨x, y, z', e1, e2, hz, hd⟩ := addD_some (by rw [h]; rfl : (addD (mkS n X e) (mkS m Y f)).isSome = true)
    rw [h] at hd
    cases hd
    obtain ⟨n1, X1, f1⟩ := x
    obtain ⟨n2, X2, f2⟩ := y
    obtain ⟨n3, X3, f3⟩ := z
    have F := addF_frm (mkS_frm e1) (mkS_frm e2) hz
    exact ⟨F.down, F.up⟩
theorem erS_zeroQ {o : Option (Bool × Nat × Int)} (h : erS o = 0) : o.isSome = true := by
  unfold erS at h
  cases o with
  | none => simp at h
  | some x => rfl

/-- Whether the law's gap is told. -/
def gapK (e : Nat) (o : Option (Bool × Nat × Int)) (n : Bool) (X : Nat) (ee : Int) : Bool := (ofE e == 0) && (erS (gapO o n X ee) == 0)

theorem gapO_len (o : Option (Bool × Nat × Int)) (n : Bool) (X : Nat) (e : Int) : (ws (dX (gapO o n X e))).length ≤ 8192 := by unfold gapO rf; exact addD_len _ _ _ _ _ _
theorem gapA_len (o : Option (Bool × Nat × Int)) (n : Bool) (X : Nat) (e : Int) : (ws (dX (gapA o n X e))).length ≤ 8192 := by
  unfold gapA
  split
  · exact mkS_len _ _ _
  · exact gapO_len _ _ _ _
theorem gapO_exp (o : Option (Bool × Nat × Int)) (n : Bool) (X : Nat) (e : Int) : -1048576 ≤ dE (gapO o n X e) ∧ dE (gapO o n X e) ≤ 1048576 := by unfold gapO rf; exact addD_expQ _ _ _ _ _ _
theorem gapA_exp (o : Option (Bool × Nat × Int)) (n : Bool) (X : Nat) (e : Int) : -1048576 ≤ dE (gapA o n X e) ∧ dE (gapA o n X e) ≤ 1048576 := by
  unfold gapA
  split
  · exact mkS_expQ _ _ _
  · exact gapO_exp _ _ _ _

theorem gap_any {w : World} {p : Option Addr} {c X : Nat} (A : Arg w p (ws X).length c (ws X)) (hT : Tab w) (s : Bool) (e f : Nat) (he : e < 2048) (hf : f < 4503599627370496) (n : Bool) (ee : Int) (h0 : -1048576 ≤ ee) (h1 : ee ≤ 1048576) :
    Calls Tryd.prog 28 #[.float .f64 (B.bw s e f), .agg #[.bool n, .slice p (ws X).length c, .int .i64 ee]] w fun r w' => (∃ v, r = .returned (.tuple #[.agg #[.bool (dN (gapA (ofR s e f) n X ee)), v, .int .i64 (dE (gapA (ofR s e f) n X ee))], .bool (gapK e (ofR s e f) n X ee)]) ∧ Nt w.heap.size w' v (dX (gapA (ofR s e f) n X ee))) ∧ Below w.heap.size w w' := by
  obtain ⟨o, ho⟩ : ∃ o, ofR s e f = o := ⟨_, rfl⟩
  have lo := ofR_lenQ s e f
  have xo := ofR_exp s e f
  have HO := hid fun u (hu : Below w.heap.size w u) => Of_any s e f he hf u (hT.belows hu)
  rw [ho] at lo xo HO ⊢
  obtain ⟨g, hg⟩ : ∃ g, gapO o n X ee = g := ⟨_, rfl⟩
  have lg := gapO_len o n X ee
  have xg := gapO_exp o n X ee
  have HS : Hid (∀ (u : World) (q : Option Addr) (t : Nat), Below w.heap.size w u → Arg u q (ws (dX o)).length t (ws (dX o)) → Calls Tryd.prog 19 #[.agg #[.bool (dN o), .slice q (ws (dX o)).length t, .int .i64 (dE o)], .agg #[.bool n, .slice p (ws X).length c, .int .i64 ee]] u fun r w' => DAns u.heap.size w' r (gapO o n X ee) ∧ Below u.heap.size u w') := hid fun u q t hu hA => by
    have := Sub_any3 hA (A.below hu) (hT.belows hu) (dN o) n (dE o) ee (by omega) (by omega) (by omega) (by omega)
    rw [val_ws, val_ws] at this
    exact this
  unfold gapK
  rw [hg] at lg xg HS ⊢
  have HG : Hid (∀ (u : World) (q : Option Addr) (t : Nat), Below w.heap.size w u → Arg u q (ws (dX g)).length t (ws (dX g)) → Calls Tryd.prog 59 #[.agg #[.bool (dN g), .slice q (ws (dX g)).length t, .int .i64 (dE g)]] u fun r w' => r = .returned (.int .i64 (sgn (dN g) (dX g))) ∧ Below u.heap.size u w') := hid fun u q t hu hA => by
    have := Sign_any3 hA (dN g) (dE g)
    rw [val_ws] at this
    exact this
  have HN : Hid (∀ (u : World) (q : Option Addr) (t : Nat), Below w.heap.size w u → Arg u q (ws (dX g)).length t (ws (dX g)) → Calls Tryd.prog 62 #[.agg #[.bool (dN g), .slice q (ws (dX g)).length t, .int .i64 (dE g)]] u fun r w' => (∃ v, r = .returned (.agg #[.bool (dN (mkS (!(dN g)) (dX g) (dE g))), v, .int .i64 (dE (mkS (!(dN g)) (dX g) (dE g)))]) ∧ Nt u.heap.size w' v (dX (mkS (!(dN g)) (dX g) (dE g)))) ∧ Below u.heap.size u w') := hid fun u q t hu hA => by
    have := Neg_any hA (hT.belows hu) (dN g) (dE g) (by omega) (by omega)
    rw [val_ws] at this
    exact this
  have hgA : gapA o n X ee = if sgn (dN g) (dX g) < 0 then mkS (!(dN g)) (dX g) (dE g) else g := by unfold gapA; rw [hg]
  rw [hgA]
  by_cases hs : sgn (dN g) (dX g) < 0
  · rw [if_pos hs]
    by_cases hd : ofE e = 0
    · rw [show (ofE e == 0) = true by simp [hd], Bool.true_and]
      exact gap_no _ n p _ c ee _ _ _ _ _ _ _ _ _ _ _ _ lo lg (mkS_len _ _ _) hs hd HO HS HG HN
    · rw [show (ofE e == 0) = false by simp [hd], Bool.false_and]
      exact gap_nx _ n p _ c ee _ _ _ _ _ _ _ _ _ _ _ _ lo lg (mkS_len _ _ _) hs (by simp [hd]) HO HS HG HN
  · rw [if_neg hs]
    by_cases hd : ofE e = 0
    · rw [show (ofE e == 0) = true by simp [hd], Bool.true_and]
      exact gap_po _ n p _ c ee _ _ _ _ _ _ _ _ _ _ _ _ lo lg (mkS_len _ _ _) (by simp; omega) hd HO HS HG HN
    · rw [show (ofE e == 0) = false by simp [hd], Bool.false_and]
      exact gap_px _ n p _ c ee _ _ _ _ _ _ _ _ _ _ _ _ lo lg (mkS_len _ _ _) (by simp; omega) (by simp [hd]) HO HS HG HN

theorem Round_frm {u : World} {p : Option Addr} {t : Nat} {n : Bool} {X : Nat} {e : Int} (hA : Arg u p (ws X).length t (ws X)) (hT : Tab u) (F : Frm n X e) (i : Int) (h0 : 0 ≤ i) (h4 : i ≤ 4) :
    Calls Tryd.prog 25 #[.agg #[.bool n, .slice p (ws X).length t, .int .i64 e], .int .i64 i] u fun r w' => r = .returned (.tuple #[.float .f64 (wd64 (rS n X) (rW i n X e)), .int .i64 0]) ∧ Below u.heap.size u w' := by
  have hd := F.down
  have hu := F.up
  have := Round_any hA hT n e i (by omega) (by omega)
  rw [val_ws, mkS_idem F, rndS_form i n X e h0 h4] at this
  exact this
theorem Of_word {u : World} (hT : Tab u) (s : Bool) (K : Nat) (hK : K ≤ 9218868437227405312) :
    Calls Tryd.prog 8 #[.float .f64 (wd64 s K)] u fun r w' => (∃ v, r = .returned (.tuple #[.agg #[.bool (dN (ofK s K)), v, .int .i64 (dE (ofK s K))], .int .i64 (ofE (K / 4503599627370496))]) ∧ Nt u.heap.size w' v (dX (ofK s K))) ∧ Below u.heap.size u w' := by
  rw [(wd64_bw s K hK).1]
  exact Of_any s _ _ (by omega) (by omega) u hT
theorem gap_word {u : World} {p : Option Addr} {t : Nat} {n : Bool} {X : Nat} {e : Int} (hA : Arg u p (ws X).length t (ws X)) (hT : Tab u) (F : Frm n X e) (s : Bool) (K : Nat) (hK : K ≤ 9218868437227405312) :
    Calls Tryd.prog 28 #[.float .f64 (wd64 s K), .agg #[.bool n, .slice p (ws X).length t, .int .i64 e]] u fun r w' => (∃ v, r = .returned (.tuple #[.agg #[.bool (dN (gapA (ofK s K) n X e)), v, .int .i64 (dE (gapA (ofK s K) n X e))], .bool (gapK (K / 4503599627370496) (ofK s K) n X e)]) ∧ Nt u.heap.size w' v (dX (gapA (ofK s K) n X e))) ∧ Below u.heap.size u w' := by
  rw [(wd64_bw s K hK).1]
  exact gap_any hA hT s _ _ (by omega) (by omega) n e F.down F.up
theorem Cmp_frm {u : World} {p q : Option Addr} {t r : Nat} {X Y : Nat} (n m : Bool) (e f : Int) (hA : Arg u p (ws X).length t (ws X)) (hB : Arg u q (ws Y).length r (ws Y)) (he : -1048576 ≤ e ∧ e ≤ 1048576) (hf : -1048576 ≤ f ∧ f ≤ 1048576) :
    Calls Tryd.prog 26 #[.agg #[.bool n, .slice p (ws X).length t, .int .i64 e], .agg #[.bool m, .slice q (ws Y).length r, .int .i64 f]] u fun r w' => r = .returned (.int .i64 (cmpV n X e m Y f)) ∧ Below u.heap.size u w' := by
  have := Cmp_any3 hA hB n m e f (by omega) (by omega) (by omega) (by omega)
  rw [val_ws, val_ws] at this
  exact this
theorem cmpV_turn {n m : Bool} {X Y : Nat} {e f : Int} (F : Frm n X e) (G : Frm m Y f) (h : 0 ≤ cmpV n X e m Y f) : cmpV m Y f n X e ≤ 0 := by
  rw [cmpV_z n X e m Y f (-1048576) F.down G.down, cmpZ_ge] at h
  rw [cmpV_z m Y f n X e (-1048576) G.down F.down, cmpZ_le]
  exact h
theorem gt_no {n m : Bool} {X Y : Nat} {e f : Int} (F : Frm n X e) (G : Frm m Y f) (i : Int) (h : cmpV n X e m Y f ≤ 0) : (FloatKind.f64.format.order (wd64 (rS n X) (rW i n X e)) (wd64 (rS m Y) (rW i m Y f)) == some .gt) = false := by
  rw [gt64 _ _ _ _ (rW_le i n X e F) (rW_le i m Y f G)]
  have := near_mono i F G h
  exact decide_eq_false (by omega)
theorem lt_no {n m : Bool} {X Y : Nat} {e f : Int} (F : Frm n X e) (G : Frm m Y f) (i : Int) (h : 0 ≤ cmpV n X e m Y f) : (FloatKind.f64.format.order (wd64 (rS n X) (rW i n X e)) (wd64 (rS m Y) (rW i m Y f)) == some .lt) = false := by
  rw [lt64 _ _ _ _ (rW_le i n X e F) (rW_le i m Y f G)]
  have := near_mono i G F (cmpV_turn F G h)
  exact decide_eq_false (by omega)
theorem ofE_fin {K : Nat} (hK : K ≤ 9218868437227405312) (h : ofE (K / 4503599627370496) = 0) : K < 9218868437227405312 := by
  unfold ofE at h
  split at h
  · omega
  · omega
theorem gapK_fin {e : Nat} {o : Option (Bool × Nat × Int)} {n : Bool} {X : Nat} {ee : Int} (h : gapK e o n X ee = true) : ofE e = 0 ∧ (gapO o n X ee).isSome = true := by
  unfold gapK at h
  simp only [Bool.and_eq_true, beq_iff_eq] at h
  exact ⟨h.1, erS_zeroQ h.2⟩

theorem near_go (nA nB : Bool) (aA aB : Option Addr) (lA cA lB cB : Nat) (eA eB ov : Int) (w : World) (hT : Tab w) (hov : ov.toNat < 18446744073709551616) (nF nG : Bool) (XF XG : Nat) (eF eG : Int) (F : Frm nF XF eF) (G : Frm nG XG eG) (lF : (ws XF).length ≤ 8192) (lG : (ws XG).length ≤ 8192)
    (HMF : Hid (∀ u, Below w.heap.size w u → Calls Tryd.prog 11 #[.bool nA, .slice aA lA cA, .int .i64 eA] u fun r w' => (∃ v, r = .returned (.tuple #[.agg #[.bool nF, v, .int .i64 eF], .int .i64 0]) ∧ Nt u.heap.size w' v XF) ∧ Below u.heap.size u w'))
    (HMG : Hid (∀ u, Below w.heap.size w u → Calls Tryd.prog 11 #[.bool nB, .slice aB lB cB, .int .i64 eB] u fun r w' => (∃ v, r = .returned (.tuple #[.agg #[.bool nG, v, .int .i64 eG], .int .i64 0]) ∧ Nt u.heap.size w' v XG) ∧ Below u.heap.size u w')) :
    Calls Tryd.prog 6 #[.agg #[.bool nA, .slice aA lA cA, .int .i64 eA], .agg #[.bool nB, .slice aB lB cB, .int .i64 eB], .int .u64 ov] w fun r w' => r = .returned (.bool true) ∧ Below w.heap.size w w' := by
  obtain ⟨s, e, f, he, hf, hb⟩ := B.bw_of ov.toNat hov
  have HK := fun i => rW_le i nF XF eF F
  have gF := And.intro F.down F.up
  have gG := And.intro G.down G.up
  obtain ⟨L, hL⟩ : ∃ L, e * 4503599627370496 + f = L := ⟨_, rfl⟩
  have hLe : L / 4503599627370496 = e := by omega
  have hLf : L - 4503599627370496 * e = f := by omega
  have hLm : L % 4503599627370496 = f := by omega
  have hfin : ofE e = 0 → L < 9218868437227405312 := by
    intro h
    unfold ofE at h
    split at h <;> omega
  have hoz : ofR s e f = ofK s L := by
    unfold ofK
    rw [hLe, hLm]
  have hwd : ofE e = 0 → ov.toNat = wd64 s L := by
    intro h
    rw [(wd64_bw s _ (Nat.le_of_lt (hfin h))).1, hLe, hLm, hb]
  have hown : ofE e = 0 → Frm (dN (ofR s e f)) (dX (ofR s e f)) (dE (ofR s e f)) ∧ ofR s e f = some (dN (ofR s e f), dX (ofR s e f), dE (ofR s e f)) := by
    intro h
    obtain ⟨n, X, e', ho, FF, _⟩ := ofK_val s _ (hfin h)
    rw [hoz, ho]
    exact ⟨FF, rfl⟩
  refine near_core nA nB aA aB lA cA lB cB eA eB ov w (hid fun u hu => awake3_any u (hT.belows hu)) nF nG
    (dN (ofK (rS nF XF) (rW 3 nF XF eF))) (dN (ofK (rS nF XF) (rW 2 nF XF eF))) (dN (gapA (ofR s e f) nF XF eF)) (dN (gapA (ofK (rS nF XF) (rW 0 nF XF eF)) nF XF eF)) (dN (gapA (ofK (rS nF XF) (rW 4 nF XF eF)) nF XF eF)) (dN (ofR s e f))
    XF XG (dX (ofK (rS nF XF) (rW 3 nF XF eF))) (dX (ofK (rS nF XF) (rW 2 nF XF eF))) (dX (gapA (ofR s e f) nF XF eF)) (dX (gapA (ofK (rS nF XF) (rW 0 nF XF eF)) nF XF eF)) (dX (gapA (ofK (rS nF XF) (rW 4 nF XF eF)) nF XF eF)) (dX (ofR s e f))
    eF eG (dE (ofK (rS nF XF) (rW 3 nF XF eF))) (dE (ofK (rS nF XF) (rW 2 nF XF eF))) (dE (gapA (ofR s e f) nF XF eF)) (dE (gapA (ofK (rS nF XF) (rW 0 nF XF eF)) nF XF eF)) (dE (gapA (ofK (rS nF XF) (rW 4 nF XF eF)) nF XF eF)) (dE (ofR s e f))
    (ofE (rW 3 nF XF eF / 4503599627370496)) (ofE (rW 2 nF XF eF / 4503599627370496)) (ofE e) (cmpV nF XF eF nG XG eG)
    (cmpV (dN (ofK (rS nF XF) (rW 3 nF XF eF))) (dX (ofK (rS nF XF) (rW 3 nF XF eF))) (dE (ofK (rS nF XF) (rW 3 nF XF eF))) nF XF eF)
    (cmpV (dN (ofK (rS nF XF) (rW 2 nF XF eF))) (dX (ofK (rS nF XF) (rW 2 nF XF eF))) (dE (ofK (rS nF XF) (rW 2 nF XF eF))) nF XF eF)
    (cmpV (dN (gapA (ofR s e f) nF XF eF)) (dX (gapA (ofR s e f) nF XF eF)) (dE (gapA (ofR s e f) nF XF eF)) (dN (gapA (ofK (rS nF XF) (rW 0 nF XF eF)) nF XF eF)) (dX (gapA (ofK (rS nF XF) (rW 0 nF XF eF)) nF XF eF)) (dE (gapA (ofK (rS nF XF) (rW 0 nF XF eF)) nF XF eF)))
    (cmpV (dN (gapA (ofR s e f) nF XF eF)) (dX (gapA (ofR s e f) nF XF eF)) (dE (gapA (ofR s e f) nF XF eF)) (dN (gapA (ofK (rS nF XF) (rW 4 nF XF eF)) nF XF eF)) (dX (gapA (ofK (rS nF XF) (rW 4 nF XF eF)) nF XF eF)) (dE (gapA (ofK (rS nF XF) (rW 4 nF XF eF)) nF XF eF)))
    (gapK e (ofR s e f) nF XF eF) (gapK (rW 0 nF XF eF / 4503599627370496) (ofK (rS nF XF) (rW 0 nF XF eF)) nF XF eF) (gapK (rW 4 nF XF eF / 4503599627370496) (ofK (rS nF XF) (rW 4 nF XF eF)) nF XF eF)
    (wd64 (rS nF XF) (rW 0 nF XF eF)) (wd64 (rS nF XF) (rW 1 nF XF eF)) (wd64 (rS nF XF) (rW 2 nF XF eF)) (wd64 (rS nF XF) (rW 3 nF XF eF)) (wd64 (rS nF XF) (rW 4 nF XF eF))
    (wd64 (rS nG XG) (rW 0 nG XG eG)) (wd64 (rS nG XG) (rW 1 nG XG eG)) (wd64 (rS nG XG) (rW 2 nG XG eG)) (wd64 (rS nG XG) (rW 3 nG XG eG)) (wd64 (rS nG XG) (rW 4 nG XG eG))
    (wd64 (rS (dN (ofR s e f)) (dX (ofR s e f))) (rW 0 (dN (ofR s e f)) (dX (ofR s e f)) (dE (ofR s e f)))) (wd64 (rS (dN (ofR s e f)) (dX (ofR s e f))) (rW 1 (dN (ofR s e f)) (dX (ofR s e f)) (dE (ofR s e f)))) (wd64 (rS (dN (ofR s e f)) (dX (ofR s e f))) (rW 2 (dN (ofR s e f)) (dX (ofR s e f)) (dE (ofR s e f)))) (wd64 (rS (dN (ofR s e f)) (dX (ofR s e f))) (rW 3 (dN (ofR s e f)) (dX (ofR s e f)) (dE (ofR s e f)))) (wd64 (rS (dN (ofR s e f)) (dX (ofR s e f))) (rW 4 (dN (ofR s e f)) (dX (ofR s e f)) (dE (ofR s e f))))
    (if nF then wd64 (rS nF XF) (rW 2 nF XF eF) else wd64 (rS nF XF) (rW 3 nF XF eF))
    lF lG (ofR_lenQ _ _ _) (ofR_lenQ _ _ _) (gapA_len _ _ _ _) (gapA_len _ _ _ _) (gapA_len _ _ _ _) (ofR_lenQ _ _ _)
    HMF HMG
    (hid fun u p t hu hA => Round_frm hA (hT.belows hu) F 0 (by omega) (by omega)) (hid fun u p t hu hA => Round_frm hA (hT.belows hu) G 0 (by omega) (by omega))
    (hid fun u p t hu hA => Round_frm hA (hT.belows hu) F 1 (by omega) (by omega)) (hid fun u p t hu hA => Round_frm hA (hT.belows hu) G 1 (by omega) (by omega))
    (hid fun u p t hu hA => Round_frm hA (hT.belows hu) F 2 (by omega) (by omega)) (hid fun u p t hu hA => Round_frm hA (hT.belows hu) G 2 (by omega) (by omega))
    (hid fun u p t hu hA => Round_frm hA (hT.belows hu) F 3 (by omega) (by omega)) (hid fun u p t hu hA => Round_frm hA (hT.belows hu) G 3 (by omega) (by omega))
    (hid fun u p t hu hA => Round_frm hA (hT.belows hu) F 4 (by omega) (by omega)) (hid fun u p t hu hA => Round_frm hA (hT.belows hu) G 4 (by omega) (by omega))
    (hid fun u p t q r hu hA hB => Cmp_frm nF nG eF eG hA hB gF gG)
    (Aside.intro fun h => ⟨gt_no F G 0 h, gt_no F G 1 h, gt_no F G 2 h, gt_no F G 3 h, gt_no F G 4 h⟩)
    (Aside.intro fun h => ⟨lt_no F G 0 h, lt_no F G 1 h, lt_no F G 2 h, lt_no F G 3 h, lt_no F G 4 h⟩)
    (Aside.intro ⟨fun h => by rw [h]; rfl, fun h => by rw [h]; rfl⟩)
    (Aside.intro ?_)
    (hid fun u hu => Of_word (hT.belows hu) _ _ (HK 3)) (hid fun u hu => Of_word (hT.belows hu) _ _ (HK 2))
    (hid fun u p t q r hu hA hB => Cmp_frm _ nF _ eF hA hB (ofR_exp _ _ _) gF) (hid fun u p t q r hu hA hB => Cmp_frm _ nF _ eF hA hB (ofR_exp _ _ _) gF)
    (Aside.intro ⟨fun h => ?_, fun h => ?_⟩)
    (hid fun u p t hu hA => by rw [hb]; exact gap_any hA (hT.belows hu) s e f he hf nF eF gF.1 gF.2)
    (hid fun u p t hu hA => gap_word hA (hT.belows hu) F _ _ (HK 0))
    (hid fun u p t q r hu hA hB => Cmp_frm _ _ _ _ hA hB (gapA_exp _ _ _ _) (gapA_exp _ _ _ _))
    (hid fun u p t hu hA => gap_word hA (hT.belows hu) F _ _ (HK 4))
    (hid fun u p t q r hu hA hB => Cmp_frm _ _ _ _ hA hB (gapA_exp _ _ _ _) (gapA_exp _ _ _ _))
    (Aside.intro ⟨fun hz hp => ?_, fun hz hp => ?_⟩)
    (hid fun u hu => by rw [hb]; exact Of_any s e f he hf u (hT.belows hu))
    (hid fun u p t hu hz hA => Round_frm hA (hT.belows hu) (hown (gapK_fin hz).1).1 0 (by omega) (by omega))
    (hid fun u p t hu hz hA => Round_frm hA (hT.belows hu) (hown (gapK_fin hz).1).1 1 (by omega) (by omega))
    (hid fun u p t hu hz hA => Round_frm hA (hT.belows hu) (hown (gapK_fin hz).1).1 2 (by omega) (by omega))
    (hid fun u p t hu hz hA => Round_frm hA (hT.belows hu) (hown (gapK_fin hz).1).1 3 (by omega) (by omega))
    (hid fun u p t hu hz hA => Round_frm hA (hT.belows hu) (hown (gapK_fin hz).1).1 4 (by omega) (by omega))
    (Aside.intro fun hz => ?_)
  · have hzz : (if nF then wd64 (rS nF XF) (rW 2 nF XF eF) else wd64 (rS nF XF) (rW 3 nF XF eF)) = wd64 (rS nF XF) (rW 1 nF XF eF) := by
      rw [near_zero]
      cases nF <;> rfl
    rw [hzz]
    have := eq64 (rS nF XF) (rS nF XF) _ _ (HK 1) (HK 1)
    rw [decide_eq_true rfl] at this
    simp only [bne, this, Bool.not_true]
  · exact decide_eq_false (by have := near_down F (ofE_fin (HK 3) h); omega)
  · exact decide_eq_false (by have := near_up F (ofE_fin (HK 2) h); omega)
  · obtain ⟨z1, z2⟩ := gapK_fin hz
    obtain ⟨p1, p2⟩ := gapK_fin hp
    have := near_near 0 (.inl rfl) F (ofE_fin (HK 0) p1) s _ (hfin z1) (by rw [← hoz]; exact z2) p2
    rw [← hoz] at this
    exact decide_eq_false (by omega)
  · obtain ⟨z1, z2⟩ := gapK_fin hz
    obtain ⟨p1, p2⟩ := gapK_fin hp
    have := near_near 4 (.inr rfl) F (ofE_fin (HK 4) p1) s _ (hfin z1) (by rw [← hoz]; exact z2) p2
    rw [← hoz] at this
    exact decide_eq_false (by omega)
  · obtain ⟨z1, _⟩ := gapK_fin hz
    obtain ⟨FF, ho⟩ := hown z1
    have key : ∀ i : Int, (FloatKind.f64.format.order (wd64 (rS (dN (ofR s e f)) (dX (ofR s e f))) (rW i (dN (ofR s e f)) (dX (ofR s e f)) (dE (ofR s e f)))) ov.toNat != some .eq) = false := by
      intro i
      have := eq64 (rS (dN (ofR s e f)) (dX (ofR s e f))) s _ _ (rW_le i _ _ _ FF) (Nat.le_of_lt (hfin z1))
      rw [near_own i s _ (hfin z1) (hoz.symm.trans ho), decide_eq_true rfl] at this
      rw [hwd z1]
      simp only [bne, this, Bool.not_true]
    exact ⟨key 0, key 1, key 2, key 3, key 4⟩

theorem walk_DyadNear (nA : Bool) (aA : Option Addr) (lA cA : Nat) (eA : Int) (xs : List Nat) (nB : Bool) (aB : Option Addr) (lB cB : Nat) (eB : Int) (ys : List Nat) (ov : Int) (w : World) (hT : Tab w) (w0 : CameD w aA lA cA xs eA) (w1 : CameD w aB lB cB ys eB) (w2 : (Lit.int .u64 ov).wf = true) (bA : lA ≤ 35184372087808) (bB : lB ≤ 35184372087808) :
    Calls Tryd.prog 6 #[.agg #[.bool nA, .slice aA lA cA, .int .i64 eA], .agg #[.bool nB, .slice aB lB cB, .int .i64 eB], .int .u64 ov] w fun r w' => r = .returned (.bool true) ∧ Below w.heap.size w w' := by
  have hov : ov.toNat < 18446744073709551616 := by
    simp [Lit.wf, IntKind.min, IntKind.max, IntKind.signed, IntKind.bits] at w2
    omega
  have A := w0.came.arg (by omega)
  have B := w1.came.arg (by omega)
  have HAW := hid fun u (hu : Below w.heap.size w u) => awake3_any u (hT.belows hu)
  have HMF := hid fun u (hu : Below w.heap.size w u) => Make_any (A.below hu) (hT.belows hu) nA eA w0.lo w0.hi
  have HMG := hid fun u (hu : Below w.heap.size w u) => Make_any (B.below hu) (hT.belows hu) nB eB w1.lo w1.hi
  have lF := mkS_len nA (val xs) eA
  have lG := mkS_len nB (val ys) eB
  cases hA : mkS nA (val xs) eA with
  | none =>
    rw [hA] at HMF lF
    exact near_e nA nB aA aB lA cA lB cB eA eB ov w HAW (dN none) (dN (mkS nB (val ys) eB)) (dX none) (dX (mkS nB (val ys) eB)) (dE none) (dE (mkS nB (val ys) eB)) (erS none) (erS (mkS nB (val ys) eB)) lF lG (by decide) HMF HMG
  | some x =>
    obtain ⟨nF, XF, eF⟩ := x
    rw [hA] at HMF lF
    cases hB : mkS nB (val ys) eB with
    | none =>
      rw [hB] at HMG lG
      exact near_f nA nB aA aB lA cA lB cB eA eB ov w HAW nF (dN none) XF (dX none) eF (dE none) 0 (erS none) lF lG (by decide) HMF HMG
    | some y =>
      obtain ⟨nG, XG, eG⟩ := y
      rw [hB] at HMG lG
      exact near_go nA nB aA aB lA cA lB cB eA eB ov w hT hov nF nG XF XG eF eG (mkS_frm hA) (mkS_frm hB) lF lG HMF HMG

/-- The form's own reach, of a Nat within a Dyad. -/
theorem came_reachD {H : Type} {ts : List TypeId} {ds : List (DataW H)} (h : (DataW.weightsEach Tryd.prog ts ds).all (· ≤ reachBytes) = true) {j : Nat} {x y d : DataW H} {c n : Nat} (ht : ts[j]? = some 27) (hd : ds[j]? = some (.agg [x, d, y])) (hn : n ≤ c)
    (hc : (d = .nil ∧ c = 0) ∨ ∃ elems spare : List (DataW H), d = .slice elems spare ∧ elems.length + spare.length = c ∧ (∀ e ∈ elems, ∃ l, e = .lit (.int .u32 l)) ∧ ∀ e ∈ spare, ∃ l, e = .lit (.int .u32 l)) : n ≤ 35184372087808 := by
  have h2 : (DataW.weightsEach Tryd.prog [4, 24, 3] [x, d, y]).all (· ≤ reachBytes) = true := by
    rw [List.all_eq_true] at h ⊢
    intro k hk
    refine h k (DataW.weights_mem_each ht hd k ?_)
    rw [DataW.weights, Tryd.underlying27]
    exact hk
  exact came_reach h2 (j := 1) rfl rfl hn hc
end Go.Proofs.YtfaaidnhmddibaaDoor
