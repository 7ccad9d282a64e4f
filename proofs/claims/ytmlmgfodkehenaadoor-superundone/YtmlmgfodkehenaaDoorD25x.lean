/- dyad's Round: what it answers. -/
import Derived.Test.YtmlmgfodkehenaaDoorD19x
import Derived.Test.YtmlmgfodkehenaaDoorS9x
import Derived.Test.YtmlmgfodkehenaaDoorP1x
import Derived.Test.YtmlmgfodkehenaaDoorBIeeex
import Derived.Deep.RegionHeld
import Derived.ProofKit
import Derived.OpenShut
import Derived.ChangeOld
import Derived.ChangeArms
import Derived.SizedLaws
import Derived.Laws.Cover2
namespace Go.Proofs.YtmlmgfodkehenaaDoor
open Go.RowKit
set_option linter.unusedVariables false
set_option maxRecDepth 20000
set_option linter.unusedSimpArgs false

/-- The bits without a sign. -/
def rndK (mode : Int) (n : Bool) (X : Nat) (e : Int) : Nat :=
  let p := plc 53 (-1074) 1024 X e
  (p.2.1 + 1074).toNat * 4503599627370496 + (if p.2.2.1 then p.1 else if outS mode p.1 p.2.2.2 n then p.1 + 1 else p.1)
def rndS (o : Option (Bool × Nat × Int)) (mode : Int) : Nat × Int :=
  if mode < 0 ∨ 4 < mode then (0, 1)
  else match o with
    | none => (0, 2)
    | some (n, X, e) => if X = 0 then (0, 0) else (rndK mode n X e + (if n then 9223372036854775808 else 0), 0)

theorem plc_mid (X : Nat) (e : Int) : (plc 53 (-1074) 1024 X e).2.2.2 = -1 ∨ (plc 53 (-1074) 1024 X e).2.2.2 = 0 ∨ (plc 53 (-1074) 1024 X e).2.2.2 = 1 := by
  unfold plc
  split
  · simp
  · simp only
    split
    · simp
    · simp only
      split
      · simp
      · split <;> simp

theorem ldexp_word (F : Nat) (ex : Int) (hF : F ≤ 9007199254740992) (h0 : -1074 ≤ ex) (h1 : ex ≤ 971) (hn : ex = -1074 ∨ 4503599627370496 ≤ F) :
    ∃ cw, floatOfInt .f64 (F : Int) = cw ∧ ∀ u, Calls Tryd.prog 24 #[.float .f64 cw, .int .i64 ex] u fun r w' => r = .returned (.float .f64 ((ex + 1074).toNat * 4503599627370496 + F)) ∧ w' = u := by
  by_cases hz : F = 0
  · subst hz
    obtain rfl : ex = -1074 := by omega
    exact ⟨0, by decide, fun u => B.Ldexp_nought _ u⟩
  · obtain ⟨e, g, hw⟩ := B.whole_of F (by omega) hF
    exact ⟨_, B.ofInt_whole F e g hw, fun u => B.Ldexp_any F e g ex u hw (by omega) hF h0 h1 hn⟩

theorem copy_word (K : Nat) (hK : K ≤ 9218868437227405312) (u : World) : Calls Tryd.prog 71 #[.float .f64 K, .float .f64 13830554455654793216] u fun r w' => r = .returned (.float .f64 (K + 9223372036854775808)) ∧ w' = u := by
  have h := B.copysign_neg (K / 4503599627370496) (K % 4503599627370496) (by omega) (by omega) u
  have e1 : B.bw false (K / 4503599627370496) (K % 4503599627370496) = K := by unfold B.bw; simp; omega
  have e2 : B.bw true (K / 4503599627370496) (K % 4503599627370496) = K + 9223372036854775808 := by unfold B.bw; simp; omega
  rw [e1, e2] at h
  exact h

theorem round_any {w : World} {a : Option Addr} {l c : Nat} {xs : List Nat} (hA : Arg w a l c xs) (hT : Tab w) (n : Bool) (e mode : Int) (he0 : -9223372036854775808 ≤ e) (he1 : e ≤ 9223372036854775807) :
    Calls Tryd.prog 63 #[.agg #[.bool n, .slice a l c, .int .i64 e], .int .i64 mode, .agg #[.int .i64 53, .int .i64 (-1074), .int .i64 1024]] w fun r w' => r = .returned (.tuple #[.float .f64 (rndS (mkS n (val xs) e) mode).1, .int .i64 (rndS (mkS n (val xs) e) mode).2]) ∧ Below w.heap.size w w' := by
  unfold rndS
  by_cases hm : mode < 0 ∨ 4 < mode
  · rw [if_pos hm]; exact round_mode n a l c e mode w hm
  · rw [if_neg hm]
    have HF : Hid (∀ u, Below w.heap.size w u → Calls Tryd.prog 83 #[.agg #[.bool n, .slice a l c, .int .i64 e]] u fun r w' => DAns u.heap.size w' r (mkS n (val xs) e) ∧ Below u.heap.size u w') := fun u hu => form_any (hA.below hu) (hT.belows hu) n e he0 he1
    cases ho : mkS n (val xs) e with
    | none =>
      rw [ho] at HF
      exact round_err n e mode false 0 0 2 (by rw [ws_zero]; simp) (by omega) (by omega) rfl HF
    | some d =>
      obtain ⟨n1, X, e1⟩ := d
      rw [ho] at HF
      have FX := mkS_frm ho
      simp only
      by_cases hX : X = 0
      · rw [if_pos hX]
        exact round_none n e mode n1 X e1 ((ws_len_zero X).2 hX) (by omega) (by omega) HF
      · rw [if_neg hX]
        have pf := plc_facts X e1 hX FX.down FX.up
        have pm := plc_mid X e1
        have HP : ∀ (u : World) (p : Option Addr) (q : Nat), Arg u p (ws X).length q (ws X) → Calls Tryd.prog 84 #[.agg #[.bool n1, .slice p (ws X).length q, .int .i64 e1], .agg #[.int .i64 53, .int .i64 (-1074), .int .i64 1024]] u fun r w' => r = .returned (.agg #[.int .u64 ((plc 53 (-1074) 1024 X e1).1 : Nat), .int .i64 (plc 53 (-1074) 1024 X e1).2.1, .bool (plc 53 (-1074) 1024 X e1).2.2.1, .int .i64 (plc 53 (-1074) 1024 X e1).2.2.2]) ∧ Below u.heap.size u w' := fun u p q hA => placed_any hA n1 e1 FX.down FX.up hX FX.size
        unfold rndK
        simp only
        generalize plc 53 (-1074) 1024 X e1 = P at pf pm HP ⊢
        obtain ⟨F, ex, t, mid⟩ := P
        simp only at pf pm HP ⊢
        obtain ⟨p1, p2, p3, p4⟩ := pf
        have HG : ∀ u, Calls Tryd.prog 85 #[.agg #[.int .u64 (F : Nat), .int .i64 ex, .bool false, .int .i64 mid], .int .i64 mode, .bool n1] u fun r w' => r = .returned (.bool (outS mode F mid n1)) ∧ Below u.heap.size u w' := fun u => goesOut_any F ex false mid mode n1 u (by omega) pm (by omega) (by omega)
        have lX := frm_len FX
        cases t with
        | true =>
          simp only [if_true]
          obtain ⟨cw, ecv, HD⟩ := ldexp_word F ex (by omega) p2 p3 p4
          cases n1 with
          | false =>
            simp only [Bool.false_eq_true, if_false, Nat.add_zero]
            exact round_tf n e mode X e1 lX (len_ne hX) (by omega) (by omega) F cw _ 0 ex mid p1 ecv HF (hid HP) (hid HD)
          | true =>
            simp only [if_true]
            exact round_tt n e mode X e1 lX (len_ne hX) (by omega) (by omega) F cw _ _ ex mid p1 ecv HF (hid HP) (hid HD) (hid fun u => copy_word _ (by omega) u)
        | false =>
          simp only [Bool.false_eq_true, if_false]
          cases hob : outS mode F mid n1 with
          | false =>
            rw [hob] at HG
            simp only [Bool.false_eq_true, if_false]
            obtain ⟨cw, ecv, HD⟩ := ldexp_word F ex (by omega) p2 p3 p4
            cases n1 with
            | false =>
              simp only [Bool.false_eq_true, if_false, Nat.add_zero]
              exact round_fff n e mode X e1 lX (len_ne hX) (by omega) (by omega) F cw _ 0 ex mid p1 ecv HF (hid HP) (hid HG) (hid HD)
            | true =>
              simp only [if_true]
              exact round_fft n e mode X e1 lX (len_ne hX) (by omega) (by omega) F cw _ _ ex mid p1 ecv HF (hid HP) (hid HG) (hid HD) (hid fun u => copy_word _ (by omega) u)
          | true =>
            rw [hob] at HG
            simp only [if_true]
            obtain ⟨cw, ecv, HD⟩ := ldexp_word (F + 1) ex (by omega) p2 p3 (by omega)
            cases n1 with
            | false =>
              simp only [Bool.false_eq_true, if_false, Nat.add_zero]
              exact round_ftf n e mode X e1 lX (len_ne hX) (by omega) (by omega) F cw _ 0 ex mid p1 (by simpa using ecv) HF (hid HP) (hid HG) (hid HD)
            | true =>
              simp only [if_true]
              exact round_ftt n e mode X e1 lX (len_ne hX) (by omega) (by omega) F cw _ _ ex mid p1 (by simpa using ecv) HF (hid HP) (hid HG) (hid HD) (hid fun u => copy_word _ (by omega) u)

set_option maxHeartbeats 1000000 in
theorem Round_any {w : World} {a : Option Addr} {l c : Nat} {xs : List Nat} (hA : Arg w a l c xs) (hT : Tab w) (n : Bool) (e mode : Int) (he0 : -9223372036854775808 ≤ e) (he1 : e ≤ 9223372036854775807) :
    Calls Tryd.prog 34 #[.agg #[.bool n, .slice a l c, .int .i64 e], .int .i64 mode] w fun r w' => r = .returned (.tuple #[.float .f64 (rndS (mkS n (val xs) e) mode).1, .int .i64 (rndS (mkS n (val xs) e) mode).2]) ∧ Below w.heap.size w w' := by
  have hb0 := below_alloc w (.cells #[.bool n, .slice a l c, .int .i64 e] 28)
  have H := hid (round_any (hA.below hb0) (hT.belows hb0) n e mode he0 he1)
  have S0 := Aside.intro hb0
  obtain ⟨⟨K, er⟩, hK⟩ : ∃ K, rndS (mkS n (val xs) e) mode = K := ⟨_, rfl⟩
  rw [hK] at H ⊢
  simp only at H ⊢
  clear hA hT hb0 hK
  go_enter Tryd.func34, Tryd.ntmps34
  go_wp2_with fail
  refine (Calls.mono H.out) ?_
  rintro r u1 ⟨rfl, hb⟩
  have S1 := Aside.intro hb
  clear hb
  go_wp2
  go_ret2
  exact ⟨rfl, S0.out.trans (S1.out.mono (by simp))⟩
end Go.Proofs.YtmlmgfodkehenaaDoor

/- Round. -/
namespace Go.Proofs.YtmlmgfodkehenaaDoor
open Go.RowKit
set_option linter.unusedVariables false
set_option maxRecDepth 20000
set_option linter.unusedSimpArgs false

/-- What Round answers, where nothing is refused. -/
def rd7 (V : Int) (s : Sp) (mode a b : Int) : Nat × Int :=
  if (ahd V s mode a b).2.1 then ((ahd V s mode a b).1, 0) else rndS (mkS (dN (exV V)) (dX (exV V)) (dE (exV V))) mode
theorem ahd_er (V : Int) (s : Sp) (mode a b : Int) : (ahd V s mode a b).2.2 = 0 := by
  unfold ahd
  split
  · rfl
  · split <;> rfl
theorem dX_small {V : Int} (h0 : -(HB : Int) < V) (h1 : V < (HB : Int)) : (ws (dX (exV V))).length ≤ 133 := by
  refine (ws_len_le _ 133).2 ?_
  have e : pw 133 = PB := by unfold PB; rfl
  rw [e]
  have hp := PB_HB
  have hq := HB_pos
  refine Nat.lt_of_le_of_lt (m := V.natAbs) ?_ (by omega)
  unfold exV mkS dX
  split
  · exact Nat.zero_le _
  · split
    · exact Nat.zero_le _
    · exact Nat.div_le_self _ _
theorem dE_small (V : Int) : -9223372036854775808 ≤ dE (exV V) ∧ dE (exV V) ≤ 9223372036854775807 := by
  unfold exV mkS dE
  split
  · simp
  · split
    · simp
    · next h => simp only [Option.getD_some]; omega

set_option maxHeartbeats 2000000 in
theorem Round7 (g : Nat) (V : Int) (s : Sp) (mode a b : Int) (w : World) (hA : Acc7 w g V s) (hs : s.ok) (hT : Tab w) (hm0 : 0 ≤ mode) (hm1 : mode ≤ 4) (hab : may a b = true) (ha : a ≠ 2) (hb : b ≠ 2) :
    Calls Tryd.prog 15 #[.pointer (some ⟨g, 0, none⟩), .int .i64 mode, .agg #[.int .i64 a, .int .i64 b]] w fun r w' => r = .returned (.tuple #[.float .f64 (rd7 V s mode a b).1, .int .i64 (rd7 V s mode a b).2]) ∧ Below w.heap.size w w' := by
  obtain ⟨⟨X, er⟩, hX⟩ : ∃ X, X = rd7 V s mode a b := ⟨_, rfl⟩
  rw [← hX]
  simp only
  have hb0 := bel_alloc w (Obj.cells #[.int .i64 a, .int .i64 b] 44)
  have HH := hid (ahead7 g V s mode a b _ (hA.bel hb0) hs hm0 hm1 hab ha hb)
  have her := ahd_er V s mode a b
  unfold rd7 at hX
  obtain ⟨⟨ax, at', ae⟩, hAh⟩ : ∃ Y, Y = ahd V s mode a b := ⟨_, rfl⟩
  rw [← hAh] at HH her hX
  simp only at HH her hX
  subst her
  have HX := Aside.intro hX
  have HA := Aside.intro (And.intro hA (And.intro hT hb0))
  clear hA hT hb0 hX hAh hs hab ha hb
  go_enter Tryd.func15, Tryd.ntmps15
  go_wp2_with fail
  refine HH.out.mono ?_
  rintro r w1 ⟨rfl, hb1⟩
  have B1 := Aside.intro (HA.out.2.2.trans (hb1.mono HA.out.2.2.size))
  clear hb1
  cases at'
  · go_wp2_with fail
    refine (Exact7 g V s w1 (HA.out.1.bel B1.out) (HA.out.2.1.belows B1.out)).mono ?_
    rintro r w2 ⟨v, rfl, hN, hb2⟩
    obtain ⟨L, _, _, _, h0, h1, _⟩ := HA.out.1
    obtain ⟨ad, c, rfl, AV⟩ := hN.arg (Nat.le_trans (dX_small h0 h1) (by decide))
    have HR := hid (Round_any AV (HA.out.2.1.belows (B1.out.trans (hb2.mono B1.out.size))) (dN (exV V)) (dE (exV V)) mode (dE_small V).1 (dE_small V).2)
    rw [val_ws] at HR
    have HX2 := HX.out
    rw [if_neg (by decide)] at HX2
    rw [← HX2] at HR
    simp only at HR
    have B2 := Aside.intro (B1.out.trans (hb2.mono B1.out.size))
    clear hN hb2 AV h0 h1 HX2
    go_wp2_with fail
    refine HR.out.mono ?_
    rintro r w3 ⟨rfl, hb3⟩
    have B3 := Aside.intro hb3
    clear hb3
    go_wp2
    refine bodyPost_ret (v := .tuple #[.float .f64 X, .int .i64 er]) (by simp [results, Tryd.results15, go_sem]) rfl ?_
    exact ⟨rfl, B2.out.trans (B3.out.mono B2.out.size)⟩
  · go_wp2
    have HX2 := HX.out
    rw [if_pos trivial] at HX2
    cases HX2
    refine bodyPost_ret (v := .tuple #[.float .f64 X, .int .i64 0]) (by simp [results, Tryd.results15, go_sem]) rfl ?_
    exact ⟨rfl, B1.out⟩
end Go.Proofs.YtmlmgfodkehenaaDoor

/- New, Specials, Copy, Exact. -/
namespace Go.Proofs.YtmlmgfodkehenaaDoor
open Go.RowKit
set_option linter.unusedVariables false
set_option maxRecDepth 20000
set_option linter.unusedSimpArgs false

theorem Tryd.zero_acc : Tryd.zeroCells59 = ((List.replicate 133 0).map U ++ Sp.cells ⟨0, 0, 0, 0, 0, 0⟩).toArray := by kernel_rfl
theorem Tryd.size_acc : (Tryd.prog.info? 59).map (·.size) = some 139 := by kernel_rfl
theorem zero_acc7 {w : World} {g : Nat} (h : Bl w g 59 ((List.replicate 133 0).map U ++ Sp.cells ⟨0, 0, 0, 0, 0, 0⟩)) : Acc7 w g 0 ⟨0, 0, 0, 0, 0, 0⟩ :=
  ⟨List.replicate 133 0, by simp, Wf.zeros 133, by rw [val_zeros]; simp, by have := HB_pos; omega, by have := HB_pos; omega, h⟩

set_option maxHeartbeats 1000000 in
theorem New7 (w : World) : Calls Tryd.prog 8 #[] w fun r w' => r = .returned (.pointer (some ⟨w.heap.size, 0, none⟩)) ∧ Acc7 w' w.heap.size 0 ⟨0, 0, 0, 0, 0, 0⟩ ∧ Below w.heap.size w w' := by
  go_enter Tryd.func8, Tryd.ntmps8
  go_wp2
  go_ret
  refine ⟨rfl, ?_, bel_alloc _ _⟩
  rw [Tryd.zero_acc]
  exact zero_acc7 (Bl.new _ _ _)

set_option maxHeartbeats 1000000 in
theorem Specials7 (g : Nat) (V : Int) (s : Sp) (w : World) (hA : Acc7 w g V s) : Calls Tryd.prog 10 #[.pointer (some ⟨g, 0, none⟩)] w fun r w' => r = .returned s.agg ∧ Below w.heap.size w w' := by
  obtain ⟨L, a1, _, _, _, _, a6⟩ := hA
  obtain ⟨sn, su, sd, sm, sp, sa⟩ := s
  have hlt := a6.lt
  have hne : g ≠ w.heap.size := Nat.ne_of_lt hlt
  have c0 := a6.cell a1 0 _ rfl
  have c1 := a6.cell a1 1 _ rfl
  have c2 := a6.cell a1 2 _ rfl
  have c3 := a6.cell a1 3 _ rfl
  have c4 := a6.cell a1 4 _ rfl
  have c5 := a6.cell a1 5 _ rfl
  clear a1 a6
  go_enter Tryd.func10, Tryd.ntmps10
  go_wp2
  exact bodyPost_ret (v := Sp.agg ⟨sn, su, sd, sm, sp, sa⟩) (by simp [results, Tryd.results10, go_sem, Sp.agg]) rfl ⟨rfl, bel_alloc _ _⟩

set_option maxHeartbeats 1000000 in
theorem Copy7 (g : Nat) (V : Int) (s : Sp) (w : World) (hA : Acc7 w g V s) : Calls Tryd.prog 18 #[.pointer (some ⟨g, 0, none⟩)] w fun r w' => r = .returned (.pointer (some ⟨w.heap.size, 0, none⟩)) ∧ Acc7 w' w.heap.size V s ∧ Below w.heap.size w w' := by
  obtain ⟨L, a1, a2, a3, a4, a5, a6⟩ := hA
  have HA := Aside.intro (And.intro a1 (And.intro a2 (And.intro a3 (And.intro a4 (And.intro a5 a6)))))
  have HO : Aside ((L.map U ++ s.cells).toArray.all (·.oneCell') = true ∧ (L.map U ++ s.cells).length = 139) := by
    refine ⟨all_oneCell_toArray fun v hv => ?_, by simp [a1, Sp.cells]⟩
    rcases List.mem_append.1 hv with h | h
    · exact oneCell_Ul L v h
    · simp only [Sp.cells, List.mem_cons, List.not_mem_nil, or_false] at h
      rcases h with rfl | rfl | rfl | rfl | rfl | rfl <;> rfl
  obtain ⟨fs, hfs⟩ : ∃ d : TypeDesc, Tryd.prog.underlying 59 = some d ∧ d.isRow = true := by
    have h : (Tryd.prog.underlying 59).any (·.isRow) = true := by kernel_rfl
    obtain ⟨d, h1, h2⟩ := (Option.any_eq_true _ _).1 h
    exact ⟨d, h1, h2⟩
  have HF := Aside.intro hfs
  have HG : Aside (w.rangeAt g 0 (L.map U ++ s.cells)) := Bl.range a6 0 _ (fun j v hv => by rw [Nat.zero_add]; exact hv)
  have HS : Aside ((Tryd.prog.info? 59).map (·.size) = some (L.map U ++ s.cells).length) := by refine Aside.intro ?_; rw [Tryd.size_acc, HO.out.2]
  have HS2 : Aside ((Tryd.prog.info? 59).map (·.size) = some (L.map U ++ s.cells).toArray.size) := by refine Aside.intro ?_; rw [Tryd.size_acc, List.size_toArray, HO.out.2]
  have Z : Aside (Bl (w.alloc (Obj.cells Tryd.zeroCells59 59)) w.heap.size 59 ((List.replicate 133 0).map U ++ Sp.cells ⟨0, 0, 0, 0, 0, 0⟩)) := by
    rw [Tryd.zero_acc]; exact Bl.new _ _ _
  clear a1 a2 a3 a4 a5 a6 hfs
  go_enter Tryd.func18, Tryd.ntmps18
  go_wp2_with (first
    | ((with_reducible refine wpList_load_mid (P := Tryd.prog) rfl 59 (.tmp 5) rfl g 0 rfl (L.map U ++ s.cells) fs HG.out HF.out.1 HF.out.2 HS.out ?_))
    | (with_reducible refine wpList_store_mid (P := Tryd.prog) rfl 59 (.tmp 3) (.tmp 6) rfl w.heap.size 0 (L.map U ++ s.cells).toArray rfl rfl (Z.out.there 0 _ (by rw [List.size_toArray, HO.out.2]; simp [Sp.cells])) HS2.out HO.out.1 ?_))
  go_ret
  obtain ⟨a1, a2, a3, a4, a5, a6⟩ := HA.out
  have hz := Z.out.setAll (vs := L.map U ++ s.cells) (by rw [HO.out.2]; simp [Sp.cells])
  exact ⟨rfl, ⟨L, a1, a2, a3, a4, a5, hz⟩, But.below (bel_alloc w _) (But.setCells _ _ (But.refl _ _)) (by simp) (Nat.le_refl _)⟩
end Go.Proofs.YtmlmgfodkehenaaDoor

/- live: the law's first look. -/
namespace Go.Proofs.YtmlmgfodkehenaaDoor
open Go.RowKit
open Go.Proofs.YtmlmgfodkehenaaDoor.B (bw)
set_option linter.unusedVariables false
set_option maxRecDepth 20000
set_option linter.unusedSimpArgs false

theorem ldexp_pow (e E : Nat) (x : Int) (w : World) (he0 : 0 < e) (he1 : e < 2047) (hE0 : 0 < E) (hE : E < 2047) (hx0 : -3000 ≤ x) (hx1 : x ≤ 3000) (hxE : (E : Int) = x + e) :
    Calls Tryd.prog 49 #[.float .f64 (B.bw false e 0), .int .i64 x] w fun r w' => r = .returned (.float .f64 (B.bw false E 0)) ∧ w' = w := by
  have hb : B.bw false e 0 = e * 4503599627370496 + 0 := by unfold B.bw; simp
  have hd : B.bw false E 0 = E * 4503599627370496 + 0 := by unfold B.bw; simp
  exact B.ldexp_norm (B.bw false e 0) e 0 (B.bw false E 0) x (x + ((e : Int) - 1023)) ((E : Int) * 4503599627370496) w (by rw [hb]; omega) hx0 hx1 he0 he1 (by omega)
    (by rw [B.eq_zero false e 0 (by omega) (by omega)]; simp; omega) (hid fun u => B.isInf0 e 0 (by omega) (by omega) u) (hid fun u => B.nan_no e 0 (by omega) (by omega) u) (hid fun u => B.normalize_any e 0 he0 (by omega) (by omega) u)
    (B.bw_exp false e 0 (by omega) (by omega)) (B.mask_clear e 0 (by omega) (by omega)) rfl (by omega) (by omega) (by omega) (by omega) (by omega) (B.join_exp E 0 (by omega) (by omega)) (B.mul_one _ (by rw [hd]; omega) (by rw [hd]; omega) _)
set_option maxHeartbeats 1000000 in
theorem Ldexp1000 (w : World) : Calls Tryd.prog 24 #[.float .f64 4607182418800017408, .int .i64 1000] w fun r w' => r = .returned (.float .f64 9110782046170513408) ∧ w' = w := by
  have H := hid (ldexp_pow 1023 2023 1000 w (by decide) (by decide) (by decide) (by decide) (by decide) (by decide) (by decide))
  rw [show B.bw false 1023 0 = 4607182418800017408 by decide, show B.bw false 2023 0 = 9110782046170513408 by decide] at H
  go_enter Tryd.func24, Tryd.ntmps24
  go_wp2_with fail
  refine H.out.mono ?_
  rintro r w1 ⟨rfl, rfl⟩
  go_wp2
  go_ret
  exact ⟨rfl, rfl⟩

theorem pK_one : pK 4607182418800017408 4607182418800017408 = 0 := by decide
theorem pK_up : pK 9110782046170513408 4607182418800017408 = 0 := by decide
theorem pK_dn : pK 18334154083025289216 4607182418800017408 = 0 := by decide
theorem pT_pow (x : Nat) (ng : Bool) (j k : Nat) (h : pK x 4607182418800017408 = 0) (hf : frW x = 2 ^ 52) (hn : (!ngW x == ngW 4607182418800017408) = ng) (hj : (xpW x + xpW 4607182418800017408 + 2148).toNat = j) (hk : k = 104 + j) : pT x 4607182418800017408 = sgn ng (2 ^ k) := by
  unfold pT
  rw [pv7_yes h, hf, show frW 4607182418800017408 = 2 ^ 52 by decide, hn, hj, hk, ← Nat.pow_add, ← Nat.pow_add]
theorem pT_one (k : Nat) (hk : k = 2148) : pT 4607182418800017408 4607182418800017408 = ((2 ^ k : Nat) : Int) := by
  obtain ⟨j, hj⟩ : ∃ j, j = 2044 := ⟨_, rfl⟩
  rw [pT_pow 4607182418800017408 false j k pK_one (by decide) (by decide) (by rw [hj]; decide) (by omega)]
  rfl
theorem pT_up (k : Nat) (hk : k = 3148) : pT 9110782046170513408 4607182418800017408 = ((2 ^ k : Nat) : Int) := by
  obtain ⟨j, hj⟩ : ∃ j, j = 3044 := ⟨_, rfl⟩
  rw [pT_pow 9110782046170513408 false j k pK_up (by decide) (by decide) (by rw [hj]; decide) (by omega)]
  rfl
theorem pT_dn (k : Nat) (hk : k = 3148) : pT 18334154083025289216 4607182418800017408 = -((2 ^ k : Nat) : Int) := by
  obtain ⟨j, hj⟩ : ∃ j, j = 3044 := ⟨_, rfl⟩
  rw [pT_pow 18334154083025289216 true j k pK_dn (by decide) (by decide) (by rw [hj]; decide) (by omega)]
  rfl
theorem pow_HB (k : Nat) (hk : k < 4237) : ((2 ^ k : Nat) : Int) * 4 ≤ (HB : Int) := by
  obtain ⟨j, hj⟩ : ∃ j, j = 4238 := ⟨_, rfl⟩
  rw [HB_two j hj]
  have h : 2 ^ (k + 2) ≤ 2 ^ j := Nat.pow_le_pow_right (by decide) (by omega)
  rw [Nat.pow_succ, Nat.pow_succ] at h
  omega
theorem bl_double (X : Nat) (h : X ≠ 0) : bl (2 * X) = bl X + 1 := by
  have := bl_mul_pow 1 X h
  rw [Nat.pow_one] at this
  omega
theorem lo_double (X : Nat) (h : X ≠ 0) : lo (2 * X) = lo X + 1 := by
  obtain ⟨m, hm⟩ := lo_form X h
  obtain ⟨k, hk⟩ : ∃ k, lo X = k := ⟨_, rfl⟩
  rw [hk] at hm ⊢
  have e : 2 * X = 2 ^ (k + 1) * (2 * m + 1) := by rw [hm, Nat.pow_succ]; grind
  rw [e]
  exact lo_eq (k + 1) m
theorem mkS_double (n : Bool) (X : Nat) (e : Int) : mkS n (2 * X) e = mkS n X (e + 1) := by
  unfold mkS
  by_cases h : X = 0
  · subst h; simp
  · rw [if_neg (by omega), if_neg h, lo_double X h, bl_double X h]
    have e1 : 2 * X / 2 ^ (lo X + 1) = X / 2 ^ lo X := by
      rw [Nat.pow_succ, Nat.mul_comm (2 ^ lo X) 2, Nat.mul_div_mul_left _ _ (by omega)]
    rw [e1]
    have e2 : (262144 < bl X + 1 - (lo X + 1) ∨ 1048576 - ((lo X + 1 : Nat) : Int) < e ∨ e < -1048576 - ((lo X + 1 : Nat) : Int)) ↔ (262144 < bl X - lo X ∨ 1048576 - (lo X : Int) < e + 1 ∨ e + 1 < -1048576 - (lo X : Int)) := by omega
    by_cases h2 : 262144 < bl X - lo X ∨ 1048576 - (lo X : Int) < e + 1 ∨ e + 1 < -1048576 - (lo X : Int)
    · rw [if_pos h2, if_pos (e2.2 h2)]
    · rw [if_neg h2, if_neg (fun h3 => h2 (e2.1 h3))]
      congr 3
      omega
theorem mkS_pow (n : Bool) (k : Nat) : ∀ e : Int, mkS n (2 ^ k) e = mkS n 1 (e + k) := by
  induction k with
  | zero => intro e; simp
  | succ k ih => intro e; rw [Nat.pow_succ, Nat.mul_comm, mkS_double, ih]; congr 1; omega
theorem exV_one (k : Nat) (hk : k = 2148) : exV ((2 ^ k : Nat) : Int) = some (false, 1, 0) := by
  unfold exV
  rw [decide_eq_false (Int.not_lt.mpr (Int.natCast_nonneg _)), Int.natAbs_natCast, mkS_pow, hk]
  kernel_rfl
theorem rd7_one (k : Nat) (hk : k = 2148) : rd7 ((2 ^ k : Nat) : Int) ⟨0, 0, 0, 0, 0, 3⟩ 0 0 0 = (4607182418800017408, 0) := by
  have h0 : ((2 ^ k : Nat) : Int) ≠ 0 := by have := Nat.two_pow_pos k; omega
  have e : ahd ((2 ^ k : Nat) : Int) ⟨0, 0, 0, 0, 0, 3⟩ 0 0 0 = (0, false, 0) := by
    unfold ahd
    rw [if_neg (by decide), if_neg h0]
  have e2 : rndS (mkS (dN (some (false, 1, 0))) (dX (some (false, 1, 0))) (dE (some (false, 1, 0)))) 0 = (4607182418800017408, 0) := by kernel_rfl
  unfold rd7
  rw [e, exV_one k hk, e2]
  rfl
theorem put_steps (k j : Nat) (hk : k = 2148) (hj : j = 3148) :
    putS 0 ⟨0, 0, 0, 0, 0, 0⟩ (pK 9110782046170513408 4607182418800017408) (pT 9110782046170513408 4607182418800017408) = (0, ((2 ^ j : Nat) : Int), ⟨0, 0, 0, 0, 0, 1⟩) ∧
    putS ((2 ^ j : Nat) : Int) ⟨0, 0, 0, 0, 0, 1⟩ (pK 4607182418800017408 4607182418800017408) (pT 4607182418800017408 4607182418800017408) = (0, ((2 ^ j : Nat) : Int) + ((2 ^ k : Nat) : Int), ⟨0, 0, 0, 0, 0, 2⟩) ∧
    putS (((2 ^ j : Nat) : Int) + ((2 ^ k : Nat) : Int)) ⟨0, 0, 0, 0, 0, 2⟩ (pK 18334154083025289216 4607182418800017408) (pT 18334154083025289216 4607182418800017408) = (0, ((2 ^ k : Nat) : Int), ⟨0, 0, 0, 0, 0, 3⟩) := by
  have a1 := pow_HB k (by omega)
  have a2 := pow_HB j (by omega)
  have p1 := Nat.two_pow_pos k
  have p2 := Nat.two_pow_pos j
  rw [pK_up, pK_one, pK_dn, pT_up j hj, pT_one k hk, pT_dn j hj]
  generalize (2 ^ k : Nat) = A at *
  generalize (2 ^ j : Nat) = C at *
  have hb := HB_pos
  refine ⟨?_, ?_, ?_⟩
  · unfold putS step7
    rw [if_neg (by decide), if_pos (by omega), Int.zero_add]
    rfl
  · unfold putS step7
    rw [if_neg (by decide), if_pos (by omega)]
    rfl
  · unfold putS step7
    rw [if_neg (by decide), if_pos (by omega)]
    rw [show (C : Int) + A + -C = A by omega]
    rfl

set_option maxHeartbeats 2000000 in
theorem live7 (w : World) (hT : Tab w) : Calls Tryd.prog 7 #[] w fun r w' => r = .returned (.bool true) ∧ Below w.heap.size w w' := by
  obtain ⟨k, hk⟩ : ∃ k, k = 2148 := ⟨_, rfl⟩
  obtain ⟨j, hj⟩ : ∃ j, j = 3148 := ⟨_, rfl⟩
  obtain ⟨q1, q2, q3⟩ := put_steps k j hk hj
  have q4 := rd7_one k hk
  have HQ := Aside.intro (And.intro q1 (And.intro q2 (And.intro q3 (And.intro q4 hT))))
  have HL := hid (fun u : World => Ldexp1000 u)
  have hneg : ∀ u : World, Sem.run Tryd.prog (Op.unary UnOp.neg (Value.float FloatKind.f64 9110782046170513408)) u = .ok (.float .f64 18334154083025289216) u := fun u => by kernel_rfl
  clear q1 q2 q3 q4 hT hk hj
  go_enter Tryd.func7, Tryd.ntmps7
  go_wp2_with fail
  refine (New7 w).mono ?_
  rintro r w1 ⟨rfl, hA, hb⟩
  have S1 := Aside.intro (And.intro hA hb)
  clear hA hb
  go_wp2_with fail
  refine (HL.out _).mono ?_
  rintro r u ⟨rfl, rfl⟩
  go_wp2_with fail
  have C1 := Add7 w.heap.size 0 ⟨0, 0, 0, 0, 0, 0⟩ 9110782046170513408 u S1.out.1 (by unfold Sp.ok; decide) (by decide)
  rw [HQ.out.1] at C1
  refine C1.mono ?_
  rintro r w2 ⟨rfl, hA, hbut⟩
  have S2 := Aside.intro (And.intro hA (But.below S1.out.2 hbut S1.out.2.size (Nat.le_refl _)))
  clear hA hbut C1
  go_wp2_with fail
  have C2 := Add7 w.heap.size _ ⟨0, 0, 0, 0, 0, 1⟩ 4607182418800017408 w2 S2.out.1 (by unfold Sp.ok; decide) (by decide)
  rw [HQ.out.2.1] at C2
  refine C2.mono ?_
  rintro r w3 ⟨rfl, hA, hbut⟩
  have S3 := Aside.intro (And.intro hA (But.below S2.out.2 hbut S2.out.2.size (Nat.le_refl _)))
  clear hA hbut C2
  go_wp2_with fail
  refine (HL.out _).mono ?_
  rintro r u3 ⟨rfl, rfl⟩
  go_wp2_with fail
  have C3 := Add7 w.heap.size _ ⟨0, 0, 0, 0, 0, 2⟩ 18334154083025289216 u3 S3.out.1 (by unfold Sp.ok; decide) (by decide)
  rw [HQ.out.2.2.1] at C3
  refine C3.mono ?_
  rintro r w4 ⟨rfl, hA, hbut⟩
  have S4 := Aside.intro (And.intro hA (But.below S3.out.2 hbut S3.out.2.size (Nat.le_refl _)))
  clear hA hbut C3
  go_wp2_with fail
  have C4 := Round7 w.heap.size _ ⟨0, 0, 0, 0, 0, 3⟩ 0 0 0 w4 S4.out.1 (by unfold Sp.ok; decide) (HQ.out.2.2.2.2.belows S4.out.2) (by decide) (by decide) (by decide) (by decide) (by decide)
  rw [HQ.out.2.2.2.1] at C4
  refine C4.mono ?_
  rintro r w5 ⟨rfl, hb⟩
  have S5 := Aside.intro (S4.out.2.trans (hb.mono S4.out.2.size))
  clear hb C4
  have heq : (FloatKind.f64.format.order 4607182418800017408 4607182418800017408 == some .eq) = true := by kernel_rfl
  go_wp2
  go_ret
  exact ⟨rfl, S5.out⟩
end Go.Proofs.YtmlmgfodkehenaaDoor

/- What is added and then taken: the plain part. -/
namespace Go.Proofs.YtmlmgfodkehenaaDoor
open Go.RowKit
set_option linter.unusedVariables false
set_option maxRecDepth 20000
set_option linter.unusedSimpArgs false

/-- A bound for one thing's value. -/
def QB : Nat := HB / 4398046511104
theorem QB_HB : HB = 4398046511104 * QB := by
  obtain ⟨k, hk⟩ : ∃ k, k = 4238 := ⟨_, rfl⟩
  obtain ⟨j, hj⟩ : ∃ j, j = 4196 := ⟨_, rfl⟩
  unfold QB
  rw [HB_two k hk, show k = 42 + j by omega, Nat.pow_add]
  have e : (2 : Nat) ^ 42 = 4398046511104 := by decide
  rw [e, Nat.mul_div_cancel_left _ (by decide)]
theorem QB_pos : 0 < QB := by have := QB_HB; have := HB_pos; omega
theorem pT_small (x y : Nat) (hx : x < 18446744073709551616) (hy : y < 18446744073709551616) : -(QB : Int) ≤ pT x y ∧ pT x y ≤ (QB : Int) := by
  have hp := QB_pos
  have e2 : ∃ j, j = 4196 ∧ QB = 2 ^ j := by
    obtain ⟨k, hk⟩ : ∃ k, k = 4238 := ⟨_, rfl⟩
    obtain ⟨j, hj⟩ : ∃ j, j = 4196 := ⟨_, rfl⟩
    refine ⟨j, hj, ?_⟩
    unfold QB
    rw [HB_two k hk, show k = 42 + j by omega, Nat.pow_add]
    have e : (2 : Nat) ^ 42 = 4398046511104 := by decide
    rw [e, Nat.mul_div_cancel_left _ (by decide)]
  obtain ⟨j, hj, hq⟩ := e2
  unfold pT pv7
  split
  · have f1 := fr_bound (eW x) (fW x) (bw_parts x hx).2.2
    have f2 := fr_bound (eW y) (fW y) (bw_parts y hy).2.2
    have x1 := xp_bound (eW x) (bw_parts x hx).2.1
    have x2 := xp_bound (eW y) (bw_parts y hy).2.1
    have h1 : frW x * frW y < 2 ^ 106 := by
      have : frW x * frW y ≤ 9007199254740991 * 9007199254740991 := Nat.mul_le_mul (by unfold frW; omega) (by unfold frW; omega)
      exact Nat.lt_of_le_of_lt this (by decide)
    have h3 : frW x * frW y * 2 ^ (xpW x + xpW y + 2148).toNat < QB := by
      rw [hq]
      refine Nat.lt_of_lt_of_le (Nat.mul_lt_mul_of_pos_right h1 (Nat.two_pow_pos _)) ?_
      rw [← Nat.pow_add]
      exact Nat.pow_le_pow_right (by decide) (by unfold xpW; omega)
    have := sgn_bound (!ngW x == ngW y) _ _ h3
    omega
  · constructor <;> omega

/-- Counts that may be. -/
def Sp.pos (s : Sp) : Prop := 0 ≤ s.n ∧ 0 ≤ s.u ∧ 0 ≤ s.d ∧ 0 ≤ s.m ∧ 0 ≤ s.p ∧ s.n + s.u + s.d + s.m + s.p ≤ s.a
theorem Sp.pos.cnt {s : Sp} (h : s.pos) (k : Nat) (hk : k ≤ 5) : (s.cnt k 1).pos := by
  obtain ⟨h0, h1, h2, h3, h4, h5⟩ := h
  have hc : k = 0 ∨ k = 1 ∨ k = 2 ∨ k = 3 ∨ k = 4 ∨ k = 5 := by omega
  rcases hc with rfl | rfl | rfl | rfl | rfl | rfl <;> (unfold Sp.pos Sp.cnt; simp; omega)
theorem Sp.pos.has {s : Sp} (h : s.pos) (k : Nat) (hk : k ≤ 5) : 0 ≤ s.has k := by
  obtain ⟨h0, h1, h2, h3, h4, h5⟩ := h
  unfold Sp.has
  split <;> (try assumption)
  split <;> (try assumption)
  split <;> (try assumption)
  split <;> (try assumption)
  split <;> (try assumption)
  omega
theorem has_cnt (s : Sp) (k : Nat) (hk : k ≤ 5) : (s.cnt k 1).has k = s.has k + 1 := by
  have hc : k = 0 ∨ k = 1 ∨ k = 2 ∨ k = 3 ∨ k = 4 ∨ k = 5 := by omega
  rcases hc with rfl | rfl | rfl | rfl | rfl | rfl <;> (unfold Sp.has Sp.cnt; simp)
  omega
theorem cnt_back (s : Sp) (k : Nat) : (s.cnt k 1).cnt k (-1) = s := by
  obtain ⟨n, u, d, m, p, a⟩ := s
  unfold Sp.cnt
  simp only [Sp.mk.injEq]
  refine ⟨?_, ?_, ?_, ?_, ?_, ?_⟩ <;> (try split) <;> omega
theorem Sp.pos.ok {s : Sp} (h : s.pos) (ha : s.a ≤ 4398046511104) : s.ok := by
  obtain ⟨h0, h1, h2, h3, h4, h5⟩ := h
  unfold Sp.ok
  omega
theorem cnt_a (s : Sp) (k : Nat) (c : Int) : (s.cnt k c).a = s.a + c := rfl

theorem put_ok (V : Int) (s : Sp) (k : Nat) (T : Int) (h0 : -(HB : Int) < V + T) (h1 : V + T < (HB : Int)) (ha : s.a < 1099511627776) : putS V s k T = (0, V + T, s.cnt k 1) := by
  unfold putS step7
  rw [if_neg (by omega), if_pos ⟨h0, h1⟩]
theorem drop_ok (U : Int) (t : Sp) (k : Nat) (T : Int) (hk : k ≤ 5) (hp : t.pos) (h0 : -(HB : Int) < U) (h1 : U < (HB : Int)) : dropS (U + T) (t.cnt k 1) k T = (0, U, t) := by
  unfold dropS step7
  have := hp.has k hk
  rw [has_cnt t k hk, if_neg (by omega), show U + T + -T = U by omega, if_pos ⟨h0, h1⟩, cnt_back]

/-- The things of a list of indices, put in one after the other. -/
def sAt (kA kB : Nat → Nat) (s : Sp) : List Nat → Sp
  | [] => s
  | j :: R => ((sAt kA kB s R).cnt (kA j) 1).cnt (kB j) 1
def vAt (tA tB : Nat → Int) (V : Int) : List Nat → Int
  | [] => V
  | j :: R => vAt tA tB V R + tA j + tB j
theorem cnt_comm (s : Sp) (k l : Nat) : (s.cnt k 1).cnt l 1 = (s.cnt l 1).cnt k 1 := by
  obtain ⟨n, u, d, m, p, a⟩ := s
  have h : ∀ (c : Nat) (z : Int), (if l = c then (if k = c then z + 1 else z) + 1 else (if k = c then z + 1 else z)) = (if k = c then (if l = c then z + 1 else z) + 1 else if l = c then z + 1 else z) := by
    intro c z
    by_cases h1 : k = c <;> by_cases h2 : l = c <;> simp [h1, h2]
  unfold Sp.cnt
  simp only [Sp.mk.injEq]
  exact ⟨h 1 n, h 2 u, h 3 d, h 4 m, h 5 p, trivial⟩
theorem sAt_snoc (kA kB : Nat → Nat) (s : Sp) (L : List Nat) (j : Nat) : sAt kA kB s (L ++ [j]) = sAt kA kB ((s.cnt (kA j) 1).cnt (kB j) 1) L := by
  induction L with
  | nil => rfl
  | cons i L ih => simp only [List.cons_append, sAt, ih]
theorem sAt_cnt (kA kB : Nat → Nat) (s : Sp) (L : List Nat) (k : Nat) : sAt kA kB (s.cnt k 1) L = (sAt kA kB s L).cnt k 1 := by
  induction L with
  | nil => rfl
  | cons i L ih => simp only [sAt, ih]; rw [cnt_comm _ k, cnt_comm _ k]
theorem sAt_rev (kA kB : Nat → Nat) (s : Sp) (L : List Nat) : sAt kA kB s L.reverse = sAt kA kB s L := by
  induction L with
  | nil => rfl
  | cons i L ih => rw [List.reverse_cons, sAt_snoc, sAt_cnt, sAt_cnt, ih]; rfl
theorem vAt_snoc (tA tB : Nat → Int) (V : Int) (L : List Nat) (j : Nat) : vAt tA tB V (L ++ [j]) = vAt tA tB (V + tA j + tB j) L := by
  induction L with
  | nil => rfl
  | cons i L ih => simp only [List.cons_append, vAt, ih]
theorem vAt_add (tA tB : Nat → Int) (V x : Int) (L : List Nat) : vAt tA tB (V + x) L = vAt tA tB V L + x := by
  induction L with
  | nil => rfl
  | cons i L ih => simp only [vAt, ih]; omega
theorem vAt_rev (tA tB : Nat → Int) (V : Int) (L : List Nat) : vAt tA tB V L.reverse = vAt tA tB V L := by
  induction L with
  | nil => rfl
  | cons i L ih => rw [List.reverse_cons, vAt_snoc, vAt_add, vAt_add, ih]; simp only [vAt]
theorem sAt_pos (kA kB : Nat → Nat) (s : Sp) (hA : ∀ j, kA j ≤ 5) (hB : ∀ j, kB j ≤ 5) (h : s.pos) : ∀ L : List Nat, (sAt kA kB s L).pos ∧ (sAt kA kB s L).a = s.a + 2 * L.length
  | [] => ⟨h, by simp [sAt]⟩
  | j :: R => by
    obtain ⟨h1, h2⟩ := sAt_pos kA kB s hA hB h R
    refine ⟨(h1.cnt _ (hA j)).cnt _ (hB j), ?_⟩
    simp only [sAt, cnt_a, h2, List.length_cons]
    omega
theorem vAt_bound (tA tB : Nat → Int) (V : Int) (b : Int) (hA : ∀ j, -b ≤ tA j ∧ tA j ≤ b) (hB : ∀ j, -b ≤ tB j ∧ tB j ≤ b) : ∀ L : List Nat, V - (2 * L.length : Nat) * b ≤ vAt tA tB V L ∧ vAt tA tB V L ≤ V + (2 * L.length : Nat) * b
  | [] => by simp [vAt]
  | j :: R => by
    obtain ⟨h1, h2⟩ := vAt_bound tA tB V b hA hB R
    have a1 := hA j
    have a2 := hB j
    simp only [vAt, List.length_cons]
    have e : ((2 * (R.length + 1) : Nat) : Int) * b = ((2 * R.length : Nat) : Int) * b + 2 * b := by
      rw [show 2 * (R.length + 1) = 2 * R.length + 2 by omega, Int.natCast_add, Int.add_mul]; rfl
    rw [e]
    omega
/-- n - 1, .., 0. -/
def down : Nat → List Nat
  | 0 => []
  | n + 1 => n :: down n
theorem down_len : ∀ n, (down n).length = n
  | 0 => rfl
  | n + 1 => by simp [down, down_len n]
/-- i, .., n - 1. -/
def upTo (n : Nat) : Nat → List Nat
  | 0 => []
  | r + 1 => (n - (r + 1)) :: upTo n r
theorem upTo_len (n : Nat) : ∀ r, (upTo n r).length = r
  | 0 => rfl
  | r + 1 => by simp [upTo, upTo_len n r]
theorem upTo_snoc (n : Nat) : ∀ r, r ≤ n → upTo (n + 1) (r + 1) = upTo n r ++ [n]
  | 0, _ => by simp [upTo]
  | r + 1, h => by
    have ih := upTo_snoc n r (by omega)
    rw [upTo, ih, upTo]
    simp only [List.cons_append]
    congr 1
    omega
theorem upTo_down : ∀ n, upTo n n = (down n).reverse
  | 0 => rfl
  | n + 1 => by rw [upTo_snoc n n (Nat.le_refl _), upTo_down n, down, List.reverse_cons]
end Go.Proofs.YtmlmgfodkehenaaDoor

/- What is added and then taken: the law's loops. -/
namespace Go.Proofs.YtmlmgfodkehenaaDoor
open Go.RowKit
set_option linter.unusedVariables false
set_option maxRecDepth 20000
set_option linter.unusedSimpArgs false

/-- Numbers that lie in memory below B. -/
def Fs (B : Nat) (w : World) (ao : Option Addr) (xs : List Nat) : Prop :=
  xs ≠ [] → ∃ b off, b < B ∧ ao = some ⟨b, off, none⟩ ∧ ∀ i, i < xs.length → w.cell? ⟨b, off + i, none⟩ = some (.float .f64 (xs.getD i 0))
theorem Fs.at {B : Nat} {w w' : World} {ao : Option Addr} {xs : List Nat} (h : Fs B w ao xs) (hb : Below B w w') (i : Nat) (hi : i < xs.length) : ∃ b off, ao = some ⟨b, off, none⟩ ∧ w'.cell? ⟨b, off + i, none⟩ = some (.float .f64 (xs.getD i 0)) := by
  obtain ⟨b, off, h1, h2, h3⟩ := h (by intro e; subst e; simp at hi)
  exact ⟨b, off, h2, (hb.cell (p := ⟨b, off + i, none⟩) h1).trans (h3 i hi)⟩
def W64 (xs : List Nat) : Prop := ∀ x ∈ xs, x < 18446744073709551616
theorem W64.get {xs : List Nat} (h : W64 xs) (i : Nat) : xs.getD i 0 < 18446744073709551616 := by
  by_cases hi : i < xs.length
  · rw [List.getD_eq_getElem?_getD, List.getElem?_eq_getElem hi]; exact h _ (List.getElem_mem hi)
  · rw [List.getD_eq_getElem?_getD, List.getElem?_eq_none (by omega)]; simp

theorem Acc7.drew {w : World} {g : Nat} {V : Int} {s : Sp} (h : Acc7 w g V s) : Acc7 w.drew g V s := by
  obtain ⟨L, h1, h2, h3, h4, h5, h6⟩ := h; exact ⟨L, h1, h2, h3, h4, h5, h6.drew⟩

set_option maxHeartbeats 8000000 in
theorem walk_SuperUndone (ls xs ys : List Nat) (a1 a2 a3 : Option Addr) (n1 n2 n3 c1 c2 c3 : Nat) (back : Bool) (w : World) (hT : Tab w)
    (e1 : n1 = ls.length) (e2 : n2 = xs.length) (e3 : n3 = ys.length) (f1 : Fs w.heap.size w a1 ls) (f2 : Fs w.heap.size w a2 xs) (f3 : Fs w.heap.size w a3 ys) (k1 : W64 ls) (k2 : W64 xs) (k3 : W64 ys)
    (m1 : n1 ≤ 4611686018427387904) (m2 : n2 ≤ 4611686018427387904) (m3 : n3 ≤ 4611686018427387904) :
    Calls Tryd.prog 5 #[.slice a1 n1 c1, .slice a2 n2 c2, .slice a3 n3 c3, .bool back] w fun r w' => r = .returned (.bool true) ∧ Below w.heap.size w w' := by
  have HR := Aside.intro (And.intro hT (And.intro (And.intro e1 (And.intro f1 k1)) (And.intro (And.intro e2 (And.intro f2 k2)) (And.intro e3 (And.intro f3 k3)))))
  clear hT e1 e2 e3 f1 f2 f3 k1 k2 k3
  go_enter Tryd.func5, Tryd.ntmps5
  go_wp2_with fail
  refine (live7 w HR.out.1).mono ?_
  rintro r w1 ⟨rfl, hb⟩
  have B1 := Aside.intro hb
  clear hb
  go_wp2_with fail
  refine (New7 w1).mono ?_
  rintro r w2 ⟨rfl, hA, hb⟩
  have S2 := Aside.intro (And.intro hA (And.intro (B1.out.trans (hb.mono B1.out.size)) B1.out.size))
  clear hA hb B1
  obtain ⟨g, hg⟩ : ∃ g, g = w1.heap.size := ⟨_, rfl⟩
  rw [← hg] at S2 ⊢
  clear hg
  go_wp2
  go_loopg [11] 200 (fun gk i wr => ∃ (k : Nat) (V : Int) (s : Sp), gk + k = 200 ∧ i = .int .i64 (k : Nat) ∧ Aside (Acc7 wr g V s ∧ s.pos ∧ s.a ≤ k ∧ -((k * QB : Nat) : Int) ≤ V ∧ V ≤ ((k * QB : Nat) : Int) ∧ Below w.heap.size w wr ∧ w.heap.size ≤ g))
  case atStart => exact ⟨0, 0, _, by omega, by simp, S2.out.1, by unfold Sp.pos; decide, by decide, by simp, by simp, S2.out.2.1, S2.out.2.2⟩
  case round =>
    obtain ⟨k, V, s, hgk, rfl, HA⟩ := hrel
    have hq := QB_HB
    by_cases hin : k < n1 ∧ k < 200
    · obtain ⟨hk, hk2⟩ := hin
      obtain ⟨b, off, rfl, hc⟩ := HR.out.2.1.2.1.at HA.out.2.2.2.2.2.1 k (by rw [← HR.out.2.1.1]; exact hk)
      obtain ⟨x, hx⟩ : ∃ x, x = ls.getD k 0 := ⟨_, rfl⟩
      rw [← hx] at hc
      have hx64 : x < 18446744073709551616 := by rw [hx]; exact HR.out.2.1.2.2.get k
      have HX := Aside.intro hx64
      have HQ := Aside.intro hq
      clear hx hx64 hq
      go_wp2_with fail
      obtain ⟨hA, hp, ha, v0, v1, hb, hg⟩ := HA.out
      have hsm := pT_small x 4607182418800017408 HX.out (by decide)
      have hmul : ((k + 1) * QB : Nat) = k * QB + QB := by rw [Nat.add_mul, Nat.one_mul]
      have hkq : k * QB ≤ 200 * QB := Nat.mul_le_mul_right _ (by omega)
      have hQ := HQ.out
      have hqp := QB_pos
      have C := Add7 g V s x wr hA (hp.ok (by omega)) HX.out
      rw [put_ok V s _ _ (by omega) (by omega) (by omega)] at C
      refine C.mono ?_
      rintro r w3 ⟨rfl, hA3, hbut⟩
      have HA3 := Aside.intro (And.intro hA3 (And.intro (hp.cnt (pK x 4607182418800017408) (pk_le _ _ _)) (And.intro (show (s.cnt (pK x 4607182418800017408) 1).a ≤ ((k + 1 : Nat) : Int) by rw [cnt_a]; omega) (And.intro (show -(((k + 1) * QB : Nat) : Int) ≤ V + pT x 4607182418800017408 by omega) (And.intro (show V + pT x 4607182418800017408 ≤ (((k + 1) * QB : Nat) : Int) by omega) (And.intro (But.below hb hbut hb.size hg) hg))))))
      clear C hA hp ha v0 v1 hb hg hsm hmul hkq hQ hqp hA3 hbut
      go_wp2
      go_roundg (gk - 1)
      case measure => omega
      case rel => exact ⟨k + 1, _, _, by omega, by simp, HA3.out⟩
    · have HQ := Aside.intro hq
      have hk200 : k ≤ 200 := by omega
      clear hq
      obtain ⟨M, hM⟩ : ∃ M : Nat, M = min n2 n3 := ⟨_, rfl⟩
      obtain ⟨N, hN⟩ : ∃ N : Nat, N = min M 200 := ⟨_, rfl⟩
      have eM : (if n3 < n2 then (n3 : Int) else (n2 : Int)) = (M : Int) := by split <;> omega
      have eN : (if (M : Int) ≤ 200 then (M : Int) else 200) = (N : Int) := by split <;> omega
      have eN2 : (if 200 < (M : Int) then 200 else (M : Int)) = (N : Int) := by split <;> omega
      have HN := Aside.intro (show N ≤ n2 ∧ N ≤ n3 ∧ N ≤ 200 by omega)
      have hN2 : N ≤ 200 := by omega
      clear hN hM
      obtain ⟨kA, hkA⟩ : ∃ f : Nat → Nat, ∀ j, f j = pK (xs.getD j 0) (ys.getD j 0) := ⟨_, fun _ => rfl⟩
      obtain ⟨kB, hkB⟩ : ∃ f : Nat → Nat, ∀ j, f j = pK (xs.getD j 0) 4607182418800017408 := ⟨_, fun _ => rfl⟩
      obtain ⟨tA, htA⟩ : ∃ f : Nat → Int, ∀ j, f j = pT (xs.getD j 0) (ys.getD j 0) := ⟨_, fun _ => rfl⟩
      obtain ⟨tB, htB⟩ : ∃ f : Nat → Int, ∀ j, f j = pT (xs.getD j 0) 4607182418800017408 := ⟨_, fun _ => rfl⟩
      have HF := Aside.intro (And.intro hkA (And.intro hkB (And.intro htA htB)))
      have hA5 : ∀ j, kA j ≤ 5 := fun j => by rw [hkA]; exact pk_le _ _ _
      have hB5 : ∀ j, kB j ≤ 5 := fun j => by rw [hkB]; exact pk_le _ _ _
      have tAb : ∀ j, -(QB : Int) ≤ tA j ∧ tA j ≤ (QB : Int) := fun j => by rw [htA]; exact pT_small _ _ (HR.out.2.2.1.2.2.get j) (HR.out.2.2.2.2.2.get j)
      have tBb : ∀ j, -(QB : Int) ≤ tB j ∧ tB j ≤ (QB : Int) := fun j => by rw [htB]; exact pT_small _ _ (HR.out.2.2.1.2.2.get j) (by decide)
      have HS : Aside (∀ L : List Nat, L.length ≤ 200 → (sAt kA kB s L).pos ∧ (sAt kA kB s L).a ≤ 600 ∧ -(HB : Int) + 3 * QB < vAt tA tB V L ∧ vAt tA tB V L < (HB : Int) - 3 * QB) := fun L hL => by
        obtain ⟨h1, h2⟩ := sAt_pos kA kB s hA5 hB5 HA.out.2.1 L
        obtain ⟨h3, h4⟩ := vAt_bound tA tB V QB tAb tBb L
        have h5 := HA.out.2.2.2.1
        have h6 := HA.out.2.2.2.2.1
        have h7 := HA.out.2.2.1
        have h8 : ((2 * L.length : Nat) : Int) * QB ≤ 400 * QB := Int.mul_le_mul_of_nonneg_right (by omega) (by omega)
        have h9 : (k * QB : Nat) ≤ 200 * QB := Nat.mul_le_mul_right _ hk200
        have hq := HQ.out
        have hqp := QB_pos
        exact ⟨h1, by omega, by omega, by omega⟩
      have HB5 := Aside.intro (And.intro hA5 (And.intro hB5 (And.intro tAb tBb)))
      clear hkA hkB htA htB hA5 hB5 tAb tBb
      have hex : (k < n1 ∧ 200 ≤ k) ∨ n1 ≤ k := by omega
      clear hin
      rcases hex with ⟨hk, hk2⟩ | hk
      all_goals (
        go_wp2_with fail
        obtain ⟨hA, hp, ha, v0, v1, hb, hg⟩ := HA.out
        refine (Copy7 g V s wr hA).mono ?_
        rintro r w4 ⟨rfl, hA4, hb4⟩
        obtain ⟨gb, hgb⟩ : ∃ gb, gb = wr.heap.size := ⟨_, rfl⟩
        rw [← hgb] at hA4 ⊢
        have hlt := hA.lt
        have H4 := Aside.intro (And.intro (hA.bel hb4) (And.intro hA4 (And.intro (show g < gb by omega) (hb.trans (hb4.mono hb.size)))))
        clear hA hb hb4 hA4 hgb hlt hg v0 v1 ha hp
        go_wp2
        go_loopg [14] N (fun gk i wr => ∃ q : Nat, gk + q = N ∧ i = .int .i64 (q : Nat) ∧ Aside (Acc7 wr g (vAt tA tB V (down q)) (sAt kA kB s (down q)) ∧ Acc7 wr gb V s ∧ Below w.heap.size w wr))
        case atStart => exact ⟨0, by omega, by simp, H4.out.1, H4.out.2.1, H4.out.2.2.2⟩
        case round =>
          obtain ⟨q, hgq, rfl, HL⟩ := hrel
          by_cases hq : q < N
          · obtain ⟨b2, off2, rfl, hc2⟩ := HR.out.2.2.1.2.1.at HL.out.2.2 q (by rw [← HR.out.2.2.1.1]; have := HN.out.1; omega)
            obtain ⟨b3, off3, rfl, hc3⟩ := HR.out.2.2.2.2.1.at HL.out.2.2 q (by rw [← HR.out.2.2.2.1]; have := HN.out.2.1; omega)
            obtain ⟨x, hx⟩ : ∃ x, x = xs.getD q 0 := ⟨_, rfl⟩
            obtain ⟨y, hy⟩ : ∃ y, y = ys.getD q 0 := ⟨_, rfl⟩
            rw [← hx] at hc2
            rw [← hy] at hc3
            have hq2 : q < n2 := by have := HN.out.1; omega
            have hq3 : q < n3 := by have := HN.out.2.1; omega
            have HX := Aside.intro (And.intro (show x < 18446744073709551616 by rw [hx]; exact HR.out.2.2.1.2.2.get q) (And.intro (show y < 18446744073709551616 by rw [hy]; exact HR.out.2.2.2.2.2.get q) (And.intro (show kA q = pK x y by rw [hx, hy]; exact HF.out.1 q) (And.intro (show kB q = pK x 4607182418800017408 by rw [hx]; exact HF.out.2.1 q) (And.intro (show tA q = pT x y by rw [hx, hy]; exact HF.out.2.2.1 q) (show tB q = pT x 4607182418800017408 by rw [hx]; exact HF.out.2.2.2 q))))))
            have CP : Hid (Calls Tryd.prog 11 #[.pointer (some ⟨g, 0, none⟩), .float .f64 x, .float .f64 y] wr.drew (Did g wr.drew (0, vAt tA tB V (down q) + tA q, (sAt kA kB s (down q)).cnt (kA q) 1))) := by
              obtain ⟨h1, h2, h3, h4⟩ := HS.out (down q) (by rw [down_len]; omega)
              have C := AddProduct7 g _ _ x y wr.drew HL.out.1.drew (h1.ok (by omega)) HX.out.1 HX.out.2.1
              have h5 := HB5.out.2.2.1 q
              have h6 := QB_pos
              rw [← HX.out.2.2.1, ← HX.out.2.2.2.2.1, put_ok _ _ _ _ (by omega) (by omega) (by omega)] at C
              exact C
            have kS : Aside (wr.drew.cell? ⟨b2, off2 + q, none⟩ = some (.float .f64 x) ∧ wr.drew.cell? ⟨b3, off3 + q, none⟩ = some (.float .f64 y)) := ⟨hc2, hc3⟩
            have HC : Aside (∀ u : World, Below w.heap.size w u → u.cell? ⟨b2, off2 + q, none⟩ = some (.float .f64 x) ∧ u.cell? ⟨b3, off3 + q, none⟩ = some (.float .f64 y)) := fun u hu => by
              obtain ⟨b, off, e1, h1⟩ := HR.out.2.2.1.2.1.at hu q (by rw [← HR.out.2.2.1.1]; exact hq2)
              obtain ⟨b', off', e2, h2⟩ := HR.out.2.2.2.2.1.at hu q (by rw [← HR.out.2.2.2.1]; exact hq3)
              cases e1
              cases e2
              exact ⟨by rw [hx]; exact h1, by rw [hy]; exact h2⟩
            clear hx hy
            go_wp2
            go_region_held (fun w' => w'.cell? ⟨b2, off2 + q, none⟩ = some (.float .f64 x) ∧ w'.cell? ⟨b3, off3 + q, none⟩ = some (.float .f64 y)) (with_reducible exact kS.out) (first
              | (go_at_call 11
                 with_reducible refine CP.out.mono ?_
                 rintro r u ⟨rfl, hA3, hbut⟩
                 have hbu : Below w.heap.size w u := But.below HL.out.2.2.drew hbut HL.out.2.2.size HA.out.2.2.2.2.2.2
                 have kS := Aside.intro (HC.out u hbu)
                 have H3 := Aside.intro (And.intro hA3 (And.intro (HL.out.2.1.drew.but hbut (Nat.ne_of_gt H4.out.2.2.1)) hbu))
                 clear hA3 hbut hbu))
            all_goals (
              have hc6 := (HC.out u H3.out.2.2).1
              have CA : Hid (Calls Tryd.prog 17 #[.pointer (some ⟨g, 0, none⟩), .float .f64 x] u (Did g u (0, vAt tA tB V (down (q + 1)), sAt kA kB s (down (q + 1))))) := by
                obtain ⟨h1, h2, h3, h4⟩ := HS.out (down q) (by rw [down_len]; omega)
                have h5 := HB5.out.2.2.1 q
                have h5b := HB5.out.2.2.2 q
                have h6 := QB_pos
                have C := Add7 g _ _ x u H3.out.1 ((h1.cnt _ (HB5.out.1 q)).ok (by rw [cnt_a]; omega)) HX.out.1
                rw [← HX.out.2.2.2.1, ← HX.out.2.2.2.2.2, put_ok _ _ _ _ (by omega) (by omega) (by rw [cnt_a]; omega)] at C
                exact C
              clear kS
              go_wp2_with fail
              refine CA.out.mono ?_
              rintro r u2 ⟨rfl, hA3, hbut⟩
              have H5 := Aside.intro (And.intro hA3 (And.intro (H3.out.2.1.but hbut (Nat.ne_of_gt H4.out.2.2.1)) (But.below H3.out.2.2 hbut H3.out.2.2.size HA.out.2.2.2.2.2.2)))
              clear hA3 hbut
              go_wp2
              go_roundg (gk - 1)
              case measure => omega
              case rel => exact ⟨q + 1, by omega, by simp, H5.out⟩)
          · obtain rfl : N = q := by omega
            have HL2 := HL
            clear HL
            cases back
            · go_wp2
              go_loopg [17] N (fun gk i wr => ∃ q : Nat, gk + q = N ∧ i = .int .i64 (q : Nat) ∧ Aside (Acc7 wr g (vAt tA tB V (upTo N gk)) (sAt kA kB s (upTo N gk)) ∧ Acc7 wr gb V s ∧ Below w.heap.size w wr))
              case atStart => exact ⟨0, by omega, by simp, by rw [upTo_down, vAt_rev, sAt_rev]; exact HL2.out⟩
              case round =>
                obtain ⟨q, hgq, rfl, HL⟩ := hrel
                by_cases hq : q < N
                · obtain ⟨r, rfl⟩ : ∃ r, gk = r + 1 := ⟨gk - 1, by omega⟩
                  obtain ⟨j, hj⟩ : ∃ j, j = q := ⟨_, rfl⟩
                  have hj2 : N - (r + 1) = j := by omega
                  subst hj
                  obtain ⟨b2, off2, rfl, hc2⟩ := HR.out.2.2.1.2.1.at HL.out.2.2 j (by rw [← HR.out.2.2.1.1]; have := HN.out.1; omega)
                  obtain ⟨b3, off3, rfl, hc3⟩ := HR.out.2.2.2.2.1.at HL.out.2.2 j (by rw [← HR.out.2.2.2.1]; have := HN.out.2.1; omega)
                  obtain ⟨x, hx⟩ : ∃ x, x = xs.getD j 0 := ⟨_, rfl⟩
                  obtain ⟨y, hy⟩ : ∃ y, y = ys.getD j 0 := ⟨_, rfl⟩
                  rw [← hx] at hc2
                  rw [← hy] at hc3
                  have hq2 : j < n2 := by have := HN.out.1; omega
                  have hq3 : j < n3 := by have := HN.out.2.1; omega
                  have HX := Aside.intro (And.intro (show x < 18446744073709551616 by rw [hx]; exact HR.out.2.2.1.2.2.get j) (And.intro (show y < 18446744073709551616 by rw [hy]; exact HR.out.2.2.2.2.2.get j) (And.intro (show kA j = pK y x by rw [hx, hy, pK_comm]; exact HF.out.1 j) (And.intro (show kB j = pK x 4607182418800017408 by rw [hx]; exact HF.out.2.1 j) (And.intro (show tA j = pT y x by rw [hx, hy, pT_comm]; exact HF.out.2.2.1 j) (show tB j = pT x 4607182418800017408 by rw [hx]; exact HF.out.2.2.2 j))))))
                  have HC : Aside (∀ u : World, Below w.heap.size w u → u.cell? ⟨b2, off2 + j, none⟩ = some (.float .f64 x) ∧ u.cell? ⟨b3, off3 + j, none⟩ = some (.float .f64 y)) := fun u hu => by
                    obtain ⟨b, off, e1, h1⟩ := HR.out.2.2.1.2.1.at hu j (by rw [← HR.out.2.2.1.1]; exact hq2)
                    obtain ⟨b', off', e2, h2⟩ := HR.out.2.2.2.2.1.at hu j (by rw [← HR.out.2.2.2.1]; exact hq3)
                    cases e1
                    cases e2
                    exact ⟨by rw [hx]; exact h1, by rw [hy]; exact h2⟩
                  have CT : Hid (Calls Tryd.prog 19 #[.pointer (some ⟨g, 0, none⟩), .float .f64 x] wr (Did g wr (0, vAt tA tB V (upTo N r) + tA j, (sAt kA kB s (upTo N r)).cnt (kA j) 1))) := by
                    obtain ⟨h1, h2, h3, h4⟩ := HS.out (upTo N r) (by rw [upTo_len]; have := HN.out.2.2; omega)
                    have h5 := HB5.out.2.2.1 j
                    have h5b := HB5.out.2.2.2 j
                    have h6 := QB_pos
                    have hHL : Acc7 wr g (vAt tA tB V (upTo N r) + tA j + tB j) (((sAt kA kB s (upTo N r)).cnt (kA j) 1).cnt (kB j) 1) := by
                      have h := HL.out.1
                      rw [show upTo N (r + 1) = j :: upTo N r by rw [upTo, hj2]] at h
                      exact h
                    have C := Take7 g _ _ x wr hHL (((h1.cnt _ (HB5.out.1 j)).cnt _ (HB5.out.2.1 j)).ok (by rw [cnt_a, cnt_a]; omega)) HX.out.1
                    rw [← HX.out.2.2.2.1, ← HX.out.2.2.2.2.2, drop_ok _ _ _ _ (HB5.out.2.1 j) (h1.cnt _ (HB5.out.1 j)) (by omega) (by omega)] at C
                    exact C
                  clear hx hy
                  go_wp2_with fail
                  refine CT.out.mono ?_
                  rintro r2 u1 ⟨rfl, hA3, hbut⟩
                  have hbu : Below w.heap.size w u1 := But.below HL.out.2.2 hbut HL.out.2.2.size HA.out.2.2.2.2.2.2
                  have H3 := Aside.intro (And.intro hA3 (And.intro (HL.out.2.1.but hbut (Nat.ne_of_gt H4.out.2.2.1)) hbu))
                  obtain ⟨hc4, hc5⟩ := HC.out u1 hbu
                  clear hA3 hbut hbu hc2 hc3 CT
                  have CP : Hid (Calls Tryd.prog 20 #[.pointer (some ⟨g, 0, none⟩), .float .f64 y, .float .f64 x] u1.drew (Did g u1.drew (0, vAt tA tB V (upTo N r), sAt kA kB s (upTo N r)))) := by
                    obtain ⟨h1, h2, h3, h4⟩ := HS.out (upTo N r) (by rw [upTo_len]; have := HN.out.2.2; omega)
                    have h6 := QB_pos
                    have C := TakeProduct7 g _ _ y x u1.drew H3.out.1.drew ((h1.cnt _ (HB5.out.1 j)).ok (by rw [cnt_a]; omega)) HX.out.2.1 HX.out.1
                    rw [← HX.out.2.2.1, ← HX.out.2.2.2.2.1, drop_ok _ _ _ _ (HB5.out.1 j) h1 (by omega) (by omega)] at C
                    exact C
                  have kS : Aside (u1.drew.cell? ⟨b3, off3 + j, none⟩ = some (.float .f64 y) ∧ u1.drew.cell? ⟨b2, off2 + j, none⟩ = some (.float .f64 x)) := ⟨hc5, hc4⟩
                  go_wp2
                  go_region_held (fun w' => w'.cell? ⟨b3, off3 + j, none⟩ = some (.float .f64 y) ∧ w'.cell? ⟨b2, off2 + j, none⟩ = some (.float .f64 x)) (with_reducible exact kS.out) (first
                    | (go_at_call 20
                       with_reducible refine CP.out.mono ?_
                       rintro r u ⟨rfl, hA3, hbut⟩
                       have hbu : Below w.heap.size w u := But.below H3.out.2.2.drew hbut H3.out.2.2.size HA.out.2.2.2.2.2.2
                       have kS := Aside.intro (And.symm (HC.out u hbu))
                       have H5 := Aside.intro (And.intro hA3 (And.intro (H3.out.2.1.drew.but hbut (Nat.ne_of_gt H4.out.2.2.1)) hbu))
                       clear hA3 hbut hbu))
                  go_wp2
                  go_roundg r
                  case measure => omega
                  case rel => exact ⟨j + 1, by omega, by simp, H5.out⟩
                · obtain rfl : N = q := by omega
                  obtain rfl : gk = 0 := by omega
                  have H6 : Aside (Acc7 wr g V s ∧ Acc7 wr gb V s ∧ Below w.heap.size w wr) := HL.out
                  go_wp2_with fail
                  refine (Exact7 g V s wr H6.out.1 (HR.out.1.belows H6.out.2.2)).mono ?_
                  rintro r w5 ⟨v5, rfl, N5, hb5⟩
                  have H7 := Aside.intro (And.intro N5 (And.intro hb5 (H6.out.2.2.trans (hb5.mono H6.out.2.2.size))))
                  clear N5 hb5
                  go_wp2_with fail
                  refine (Exact7 gb V s w5 (H6.out.2.1.bel H7.out.2.1) (HR.out.1.belows H7.out.2.2)).mono ?_
                  rintro r w6 ⟨v6, rfl, N6, hb6⟩
                  have hVb : -(HB : Int) < V ∧ V < (HB : Int) := by obtain ⟨L, _, _, _, h1, h2, _⟩ := H6.out.1; exact ⟨h1, h2⟩
                  obtain ⟨d6, c6, rfl, A6⟩ := N6.arg (Nat.le_trans (dX_small hVb.1 hVb.2) (by decide))
                  obtain ⟨d5, c5, rfl, A5⟩ := (H7.out.1.below hb6).arg (Nat.le_trans (dX_small hVb.1 hVb.2) (by decide))
                  have HSm := hid (rSame3_any (dN (exV V)) (dE (exV V)) (ws (dX (exV V))) d5 d6 (ws (dX (exV V))).length c5 c6 w6 rfl (Nat.le_trans A6.big (by decide)) A5.rd A6.rd)
                  have H8 := Aside.intro (H7.out.2.2.trans (hb6.mono H7.out.2.2.size))
                  have H9 := Aside.intro (And.intro ((H6.out.1.bel H7.out.2.1).bel hb6) ((H6.out.2.1.bel H7.out.2.1).bel hb6))
                  clear N6 hb6 A5 A6 hVb
                  go_wp2_with fail
                  refine HSm.out.mono ?_
                  rintro r w7 ⟨rfl, hb7⟩
                  have H10 := Aside.intro (And.intro (H9.out.1.bel hb7) (And.intro (H9.out.2.bel hb7) (H8.out.trans (hb7.mono H8.out.size))))
                  clear hb7
                  obtain ⟨sn, su, sd, sm, sp, sa⟩ := s
                  go_wp2_with fail
                  have CS := Specials7 g V _ w7 H10.out.1
                  simp only [Sp.agg] at CS
                  refine CS.mono ?_
                  rintro r w8 ⟨rfl, hb8⟩
                  have H11 := Aside.intro (And.intro (H10.out.2.1.bel hb8) (H10.out.2.2.trans (hb8.mono H10.out.2.2.size)))
                  clear hb8 CS
                  go_wp2_with fail
                  have CS := Specials7 gb V _ w8 H11.out.1
                  simp only [Sp.agg] at CS
                  refine CS.mono ?_
                  rintro r w9 ⟨rfl, hb9⟩
                  have H12 := Aside.intro (H11.out.2.trans (hb9.mono H11.out.2.size))
                  clear hb9 CS
                  go_wp2
                  go_ret
                  exact ⟨rfl, H12.out⟩

            · go_wp2
              go_loopg [17] N (fun gk i wr => ∃ q : Nat, gk + q = N ∧ i = .int .i64 (q : Nat) ∧ Aside (Acc7 wr g (vAt tA tB V (down gk)) (sAt kA kB s (down gk)) ∧ Acc7 wr gb V s ∧ Below w.heap.size w wr))
              case atStart => exact ⟨0, by omega, by simp, HL2.out⟩
              case round =>
                obtain ⟨q, hgq, rfl, HL⟩ := hrel
                by_cases hq : q < N
                · obtain ⟨r, rfl⟩ : ∃ r, gk = r + 1 := ⟨gk - 1, by omega⟩
                  obtain ⟨j, hj⟩ : ∃ j, j = r := ⟨_, rfl⟩
                  have hji : (N : Int) - 1 - (q : Int) = (j : Int) := by omega
                  subst hj
                  obtain ⟨b2, off2, rfl, hc2⟩ := HR.out.2.2.1.2.1.at HL.out.2.2 j (by rw [← HR.out.2.2.1.1]; have := HN.out.1; omega)
                  obtain ⟨b3, off3, rfl, hc3⟩ := HR.out.2.2.2.2.1.at HL.out.2.2 j (by rw [← HR.out.2.2.2.1]; have := HN.out.2.1; omega)
                  obtain ⟨x, hx⟩ : ∃ x, x = xs.getD j 0 := ⟨_, rfl⟩
                  obtain ⟨y, hy⟩ : ∃ y, y = ys.getD j 0 := ⟨_, rfl⟩
                  rw [← hx] at hc2
                  rw [← hy] at hc3
                  have hq2 : j < n2 := by have := HN.out.1; omega
                  have hq3 : j < n3 := by have := HN.out.2.1; omega
                  have HX := Aside.intro (And.intro (show x < 18446744073709551616 by rw [hx]; exact HR.out.2.2.1.2.2.get j) (And.intro (show y < 18446744073709551616 by rw [hy]; exact HR.out.2.2.2.2.2.get j) (And.intro (show kA j = pK y x by rw [hx, hy, pK_comm]; exact HF.out.1 j) (And.intro (show kB j = pK x 4607182418800017408 by rw [hx]; exact HF.out.2.1 j) (And.intro (show tA j = pT y x by rw [hx, hy, pT_comm]; exact HF.out.2.2.1 j) (show tB j = pT x 4607182418800017408 by rw [hx]; exact HF.out.2.2.2 j))))))
                  have HC : Aside (∀ u : World, Below w.heap.size w u → u.cell? ⟨b2, off2 + j, none⟩ = some (.float .f64 x) ∧ u.cell? ⟨b3, off3 + j, none⟩ = some (.float .f64 y)) := fun u hu => by
                    obtain ⟨b, off, e1, h1⟩ := HR.out.2.2.1.2.1.at hu j (by rw [← HR.out.2.2.1.1]; exact hq2)
                    obtain ⟨b', off', e2, h2⟩ := HR.out.2.2.2.2.1.at hu j (by rw [← HR.out.2.2.2.1]; exact hq3)
                    cases e1
                    cases e2
                    exact ⟨by rw [hx]; exact h1, by rw [hy]; exact h2⟩
                  have CT : Hid (Calls Tryd.prog 19 #[.pointer (some ⟨g, 0, none⟩), .float .f64 x] wr (Did g wr (0, vAt tA tB V (down j) + tA j, (sAt kA kB s (down j)).cnt (kA j) 1))) := by
                    obtain ⟨h1, h2, h3, h4⟩ := HS.out (down j) (by rw [down_len]; have := HN.out.2.2; omega)
                    have h5 := HB5.out.2.2.1 j
                    have h5b := HB5.out.2.2.2 j
                    have h6 := QB_pos
                    have hHL : Acc7 wr g (vAt tA tB V (down j) + tA j + tB j) (((sAt kA kB s (down j)).cnt (kA j) 1).cnt (kB j) 1) := HL.out.1
                    have C := Take7 g _ _ x wr hHL (((h1.cnt _ (HB5.out.1 j)).cnt _ (HB5.out.2.1 j)).ok (by rw [cnt_a, cnt_a]; omega)) HX.out.1
                    rw [← HX.out.2.2.2.1, ← HX.out.2.2.2.2.2, drop_ok _ _ _ _ (HB5.out.2.1 j) (h1.cnt _ (HB5.out.1 j)) (by omega) (by omega)] at C
                    exact C
                  clear hx hy
                  go_wp2_with fail
                  refine CT.out.mono ?_
                  rintro r2 u1 ⟨rfl, hA3, hbut⟩
                  have hbu : Below w.heap.size w u1 := But.below HL.out.2.2 hbut HL.out.2.2.size HA.out.2.2.2.2.2.2
                  have H3 := Aside.intro (And.intro hA3 (And.intro (HL.out.2.1.but hbut (Nat.ne_of_gt H4.out.2.2.1)) hbu))
                  obtain ⟨hc4, hc5⟩ := HC.out u1 hbu
                  clear hA3 hbut hbu hc2 hc3 CT
                  have CP : Hid (Calls Tryd.prog 20 #[.pointer (some ⟨g, 0, none⟩), .float .f64 y, .float .f64 x] u1.drew (Did g u1.drew (0, vAt tA tB V (down j), sAt kA kB s (down j)))) := by
                    obtain ⟨h1, h2, h3, h4⟩ := HS.out (down j) (by rw [down_len]; have := HN.out.2.2; omega)
                    have h6 := QB_pos
                    have C := TakeProduct7 g _ _ y x u1.drew H3.out.1.drew ((h1.cnt _ (HB5.out.1 j)).ok (by rw [cnt_a]; omega)) HX.out.2.1 HX.out.1
                    rw [← HX.out.2.2.1, ← HX.out.2.2.2.2.1, drop_ok _ _ _ _ (HB5.out.1 j) h1 (by omega) (by omega)] at C
                    exact C
                  have kS : Aside (u1.drew.cell? ⟨b3, off3 + j, none⟩ = some (.float .f64 y) ∧ u1.drew.cell? ⟨b2, off2 + j, none⟩ = some (.float .f64 x)) := ⟨hc5, hc4⟩
                  go_wp2
                  go_region_held (fun w' => w'.cell? ⟨b3, off3 + j, none⟩ = some (.float .f64 y) ∧ w'.cell? ⟨b2, off2 + j, none⟩ = some (.float .f64 x)) (with_reducible exact kS.out) (first
                    | (go_at_call 20
                       with_reducible refine CP.out.mono ?_
                       rintro r u ⟨rfl, hA3, hbut⟩
                       have hbu : Below w.heap.size w u := But.below H3.out.2.2.drew hbut H3.out.2.2.size HA.out.2.2.2.2.2.2
                       have kS := Aside.intro (And.symm (HC.out u hbu))
                       have H5 := Aside.intro (And.intro hA3 (And.intro (H3.out.2.1.drew.but hbut (Nat.ne_of_gt H4.out.2.2.1)) hbu))
                       clear hA3 hbut hbu))
                  go_wp2
                  go_roundg j
                  case measure => omega
                  case rel => exact ⟨q + 1, by omega, by simp, H5.out⟩
                · obtain rfl : N = q := by omega
                  obtain rfl : gk = 0 := by omega
                  have H6 : Aside (Acc7 wr g V s ∧ Acc7 wr gb V s ∧ Below w.heap.size w wr) := HL.out
                  go_wp2_with fail
                  refine (Exact7 g V s wr H6.out.1 (HR.out.1.belows H6.out.2.2)).mono ?_
                  rintro r w5 ⟨v5, rfl, N5, hb5⟩
                  have H7 := Aside.intro (And.intro N5 (And.intro hb5 (H6.out.2.2.trans (hb5.mono H6.out.2.2.size))))
                  clear N5 hb5
                  go_wp2_with fail
                  refine (Exact7 gb V s w5 (H6.out.2.1.bel H7.out.2.1) (HR.out.1.belows H7.out.2.2)).mono ?_
                  rintro r w6 ⟨v6, rfl, N6, hb6⟩
                  have hVb : -(HB : Int) < V ∧ V < (HB : Int) := by obtain ⟨L, _, _, _, h1, h2, _⟩ := H6.out.1; exact ⟨h1, h2⟩
                  obtain ⟨d6, c6, rfl, A6⟩ := N6.arg (Nat.le_trans (dX_small hVb.1 hVb.2) (by decide))
                  obtain ⟨d5, c5, rfl, A5⟩ := (H7.out.1.below hb6).arg (Nat.le_trans (dX_small hVb.1 hVb.2) (by decide))
                  have HSm := hid (rSame3_any (dN (exV V)) (dE (exV V)) (ws (dX (exV V))) d5 d6 (ws (dX (exV V))).length c5 c6 w6 rfl (Nat.le_trans A6.big (by decide)) A5.rd A6.rd)
                  have H8 := Aside.intro (H7.out.2.2.trans (hb6.mono H7.out.2.2.size))
                  have H9 := Aside.intro (And.intro ((H6.out.1.bel H7.out.2.1).bel hb6) ((H6.out.2.1.bel H7.out.2.1).bel hb6))
                  clear N6 hb6 A5 A6 hVb
                  go_wp2_with fail
                  refine HSm.out.mono ?_
                  rintro r w7 ⟨rfl, hb7⟩
                  have H10 := Aside.intro (And.intro (H9.out.1.bel hb7) (And.intro (H9.out.2.bel hb7) (H8.out.trans (hb7.mono H8.out.size))))
                  clear hb7
                  obtain ⟨sn, su, sd, sm, sp, sa⟩ := s
                  go_wp2_with fail
                  have CS := Specials7 g V _ w7 H10.out.1
                  simp only [Sp.agg] at CS
                  refine CS.mono ?_
                  rintro r w8 ⟨rfl, hb8⟩
                  have H11 := Aside.intro (And.intro (H10.out.2.1.bel hb8) (H10.out.2.2.trans (hb8.mono H10.out.2.2.size)))
                  clear hb8 CS
                  go_wp2_with fail
                  have CS := Specials7 gb V _ w8 H11.out.1
                  simp only [Sp.agg] at CS
                  refine CS.mono ?_
                  rintro r w9 ⟨rfl, hb9⟩
                  have H12 := Aside.intro (H11.out.2.trans (hb9.mono H11.out.2.size))
                  clear hb9 CS
                  go_wp2
                  go_ret
                  exact ⟨rfl, H12.out⟩)
end Go.Proofs.YtmlmgfodkehenaaDoor

/- Lists of numbers that came in. -/
namespace Go.Proofs.YtmlmgfodkehenaaDoor
open Go.ChangeShapes Go.WideShapes Go.ChangeAt Go.RowKit
set_option linter.unusedVariables false
set_option maxRecDepth 20000
set_option linter.unusedSimpArgs false

theorem trodF {H : Type} {enc : TypeId × Value → H} {P : Program} {w : World} {base : Nat} {spare : Nat → Bool} {held : Bool} {fuel : Nat} {t : TypeId} {cs : List Value} {x : DataW H × List MemPlace} {k : FloatKind} (ht : P.underlying t = some (.float k)) (h : DataW.trod enc P w base spare held fuel t cs = some x) : ∃ n, cs = [.float k n] ∧ x = (.lit (.float k n), []) ∧ (Lit.float k n).wf = true := by
  cases fuel with
  | zero => simp [DataW.trod] at h
  | succ m =>
    simp only [DataW.trod, ht] at h
    split at h <;> simp_all

/-- A list that came in: its numbers, its room. -/
structure CameF (w : World) (a : Option Addr) (n c : Nat) (xs : List Nat) : Prop where
  len : n = xs.length
  cap : n ≤ c
  wf : W64 xs
  rd : Fs w.heap.size w a xs
  nil : a = none → c = 0

theorem add_noneF (b off i : Nat) : (⟨b, off, none⟩ : Addr).add i = ⟨b, off + i, none⟩ := by unfold Addr.add; split <;> simp_all

def numF {H : Type} (y : DataW H × List MemPlace) : Nat := match y.1 with | .lit (.float _ n) => n | _ => 0

theorem Tryd.cellsF : Tryd.prog.cellsOf 37 = 1 := by kernel_rfl
theorem Tryd.bytesF : Tryd.prog.bytesOf 37 = 8 := by kernel_rfl

theorem cameF_of {H : Type} {enc : TypeId × Value → H} {W : World} {a : Option Addr} {n c : Nat} {d : DataW H} {p : List MemPlace} (h : DataW.Trod enc Tryd.prog W 0 (fun _ => true) true 33 (.slice a n c) d p) :
    ∃ xs, CameF W a n c xs ∧ ((d = .nil ∧ c = 0) ∨ ∃ elems spare : List (DataW H), d = .slice elems spare ∧ elems.length + spare.length = c) := by
  obtain ⟨fuel, hf⟩ := h
  rcases DataW.trod_slice Tryd.underlying33 hf with ⟨hcs, hx⟩ | ⟨x, l, cp, elems, rest, m, _, hcs, hx, hb, hl, hm, hlen, hel, hsp, hns⟩
  · simp [Value.cells] at hcs
    obtain ⟨rfl, rfl, rfl⟩ := hcs
    exact ⟨[], ⟨rfl, Nat.le_refl _, (fun x hx => by cases hx), (fun h => absurd rfl h), fun _ => rfl⟩, .inl ⟨(Prod.mk.inj hx).1, rfl⟩⟩
  · simp [Value.cells] at hcs
    obtain ⟨rfl, rfl, rfl⟩ := hcs
    have each : ∀ i y, i < n → elems[i]? = some y → y = (.lit (.float .f64 (numF y)), []) ∧ (Lit.float .f64 (numF y)).wf = true ∧ W.cell? (x.add i) = some (.float .f64 (numF y)) := by
      intro i y hi hy
      have hb' := hel i hi
      rw [hy, Tryd.cellsF, Nat.mul_one, Option.bind_eq_some_iff] at hb'
      obtain ⟨cs', hcs, hy'⟩ := hb'
      obtain ⟨k, rfl, rfl, hw⟩ := trodF Tryd.underlying37 hy'
      exact ⟨rfl, hw, cell_of_cells?_one hcs⟩
    refine ⟨elems.map numF, ⟨by simp [hlen], hl, ?_, ?_, fun e => by cases e⟩, .inr ⟨_, _, (Prod.mk.inj hx).1, ?_⟩⟩
    · intro y hy
      obtain ⟨z, hz, rfl⟩ := List.mem_map.1 hy
      obtain ⟨i, hi⟩ := List.getElem?_of_mem hz
      have hil := (List.getElem?_eq_some_iff.1 hi).1
      have := (each i z (by omega) hi).2.1
      exact of_decide_eq_true this
    · intro hne
      obtain ⟨b, off, spot⟩ := x
      have hn0 : 0 < n := by
        rcases Nat.eq_zero_or_pos n with h0 | h0
        · rw [h0] at hlen; have := List.eq_nil_of_length_eq_zero hlen; subst this; simp at hne
        · exact h0
      have hc0 := (each 0 (elems[0]'(by omega)) hn0 (List.getElem?_eq_getElem _)).2.2
      have hspot : spot = none := by simpa [Addr.add] using World.cell?_spot hc0
      subst hspot
      refine ⟨b, off, World.block_lt_of_cell? W _ (by simpa [Addr.add] using hc0), rfl, fun i hi => ?_⟩
      rw [List.length_map] at hi
      have hadd := add_noneF b off i
      have := (each i (elems[i]'hi) (by omega) (List.getElem?_eq_getElem _)).2.2
      rw [hadd] at this
      rw [this]
      simp [List.getD_eq_getElem?_getD, hi]
    · have hr := (hsp rfl).1
      simp only [List.length_map]
      omega

/-- The form's own reach. -/
theorem cameF_reach {H : Type} {ts : List TypeId} {ds : List (DataW H)} (h : (DataW.weightsEach Tryd.prog ts ds).all (· ≤ reachBytes) = true) {j : Nat} {d : DataW H} {c n : Nat} (ht : ts[j]? = some 33) (hd : ds[j]? = some d) (hn : n ≤ c)
    (hc : (d = .nil ∧ c = 0) ∨ ∃ elems spare : List (DataW H), d = .slice elems spare ∧ elems.length + spare.length = c) : n ≤ 17592186043904 := by
  rcases hc with ⟨_, rfl⟩ | ⟨elems, spare, rfl, hl⟩
  · omega
  · have := sized_slice h ht hd Tryd.underlying33
    rw [Tryd.bytesF, hl] at this
    simp only [reachBytes] at this
    omega

theorem walk2_SuperUndone (o1 : Option Addr) (n1 c1 : Nat) (x1 : List Nat) (o2 : Option Addr) (n2 c2 : Nat) (x2 : List Nat) (o3 : Option Addr) (n3 c3 : Nat) (x3 : List Nat) (back : Bool) (w : World) (hT : Tab w) (w1 : CameF w o1 n1 c1 x1) (w2 : CameF w o2 n2 c2 x2) (w3 : CameF w o3 n3 c3 x3)
    (b1 : n1 ≤ 17592186043904) (b2 : n2 ≤ 17592186043904) (b3 : n3 ≤ 17592186043904) :
    Calls Tryd.prog 5 #[.slice o1 n1 c1, .slice o2 n2 c2, .slice o3 n3 c3, .bool back] w fun r w' => r = .returned (.bool true) ∧ Below w.heap.size w w' :=
  walk_SuperUndone x1 x2 x3 o1 o2 o3 n1 n2 n3 c1 c2 c3 back w hT w1.len w2.len w3.len w1.rd w2.rd w3.rd w1.wf w2.wf w3.wf (by omega) (by omega) (by omega)
end Go.Proofs.YtmlmgfodkehenaaDoor

