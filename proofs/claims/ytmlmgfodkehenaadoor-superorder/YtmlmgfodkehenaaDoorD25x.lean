/- dyad's Round: what it answers. -/
import Derived.Test.YtmlmgfodkehenaaDoorD19x
import Derived.Test.YtmlmgfodkehenaaDoorS9x
import Derived.Test.YtmlmgfodkehenaaDoorP1x
import Derived.Test.YtmlmgfodkehenaaDoorBIeeex
import Derived.Deep.RegionHeld
import Derived.OwnWalk
namespace Go.Proofs.YtmlmgfodkehenaaDoor
open Go.RowKit
set_option linter.unusedVariables false
set_option maxRecDepth 20000
set_option linter.unusedSimpArgs false

/-- The bits without a sign. -/
def rndK (mode : Int) (n : Bool) (X : Nat) (e : Int) : Nat :=
  let p := plc 53 (-1074) 1024 X e
  (p.2.1 + 1074).toNat * 4503599627370496 + (if p.2.2.1 then p.1 else if outS mode p.1 p.2.2.2 n then p.1 + 1 else p.1)
def rndS (o : Option (Bool × Nat × Int)) (mode : Int) : Nat × Int :=
  if mode < 0 ∨ 4 < mode then (0, 1)
  else match o with
    | none => (0, 2)
    | some (n, X, e) => if X = 0 then (0, 0) else (rndK mode n X e + (if n then 9223372036854775808 else 0), 0)

theorem plc_mid (X : Nat) (e : Int) : (plc 53 (-1074) 1024 X e).2.2.2 = -1 ∨ (plc 53 (-1074) 1024 X e).2.2.2 = 0 ∨ (plc 53 (-1074) 1024 X e).2.2.2 = 1 := by
  unfold plc
  split
  · simp
  · simp only
    split
    · simp
    · simp only
      split
      · simp
      · split <;> simp

theorem ldexp_word (F : Nat) (ex : Int) (hF : F ≤ 9007199254740992) (h0 : -1074 ≤ ex) (h1 : ex ≤ 971) (hn : ex = -1074 ∨ 4503599627370496 ≤ F) :
    ∃ cw, floatOfInt .f64 (F : Int) = cw ∧ ∀ u, Calls Tryd.prog 24 #[.float .f64 cw, .int .i64 ex] u fun r w' => r = .returned (.float .f64 ((ex + 1074).toNat * 4503599627370496 + F)) ∧ w' = u := by
  by_cases hz : F = 0
  · subst hz
    obtain rfl : ex = -1074 := by omega
    exact ⟨0, by decide, fun u => B.Ldexp_nought _ u⟩
  · obtain ⟨e, g, hw⟩ := B.whole_of F (by omega) hF
    exact ⟨_, B.ofInt_whole F e g hw, fun u => B.Ldexp_any F e g ex u hw (by omega) hF h0 h1 hn⟩

theorem copy_word (K : Nat) (hK : K ≤ 9218868437227405312) (u : World) : Calls Tryd.prog 71 #[.float .f64 K, .float .f64 13830554455654793216] u fun r w' => r = .returned (.float .f64 (K + 9223372036854775808)) ∧ w' = u := by
  have h := B.copysign_neg (K / 4503599627370496) (K % 4503599627370496) (by omega) (by omega) u
  have e1 : B.bw false (K / 4503599627370496) (K % 4503599627370496) = K := by unfold B.bw; simp; omega
  have e2 : B.bw true (K / 4503599627370496) (K % 4503599627370496) = K + 9223372036854775808 := by unfold B.bw; simp; omega
  rw [e1, e2] at h
  exact h

theorem round_any {w : World} {a : Option Addr} {l c : Nat} {xs : List Nat} (hA : Arg w a l c xs) (hT : Tab w) (n : Bool) (e mode : Int) (he0 : -9223372036854775808 ≤ e) (he1 : e ≤ 9223372036854775807) :
    Calls Tryd.prog 63 #[.agg #[.bool n, .slice a l c, .int .i64 e], .int .i64 mode, .agg #[.int .i64 53, .int .i64 (-1074), .int .i64 1024]] w fun r w' => r = .returned (.tuple #[.float .f64 (rndS (mkS n (val xs) e) mode).1, .int .i64 (rndS (mkS n (val xs) e) mode).2]) ∧ Below w.heap.size w w' := by
  unfold rndS
  by_cases hm : mode < 0 ∨ 4 < mode
  · rw [if_pos hm]; exact round_mode n a l c e mode w hm
  · rw [if_neg hm]
    have HF : Hid (∀ u, Below w.heap.size w u → Calls Tryd.prog 83 #[.agg #[.bool n, .slice a l c, .int .i64 e]] u fun r w' => DAns u.heap.size w' r (mkS n (val xs) e) ∧ Below u.heap.size u w') := fun u hu => form_any (hA.below hu) (hT.belows hu) n e he0 he1
    cases ho : mkS n (val xs) e with
    | none =>
      rw [ho] at HF
      exact round_err n e mode false 0 0 2 (by rw [ws_zero]; simp) (by omega) (by omega) rfl HF
    | some d =>
      obtain ⟨n1, X, e1⟩ := d
      rw [ho] at HF
      have FX := mkS_frm ho
      simp only
      by_cases hX : X = 0
      · rw [if_pos hX]
        exact round_none n e mode n1 X e1 ((ws_len_zero X).2 hX) (by omega) (by omega) HF
      · rw [if_neg hX]
        have pf := plc_facts X e1 hX FX.down FX.up
        have pm := plc_mid X e1
        have HP : ∀ (u : World) (p : Option Addr) (q : Nat), Arg u p (ws X).length q (ws X) → Calls Tryd.prog 84 #[.agg #[.bool n1, .slice p (ws X).length q, .int .i64 e1], .agg #[.int .i64 53, .int .i64 (-1074), .int .i64 1024]] u fun r w' => r = .returned (.agg #[.int .u64 ((plc 53 (-1074) 1024 X e1).1 : Nat), .int .i64 (plc 53 (-1074) 1024 X e1).2.1, .bool (plc 53 (-1074) 1024 X e1).2.2.1, .int .i64 (plc 53 (-1074) 1024 X e1).2.2.2]) ∧ Below u.heap.size u w' := fun u p q hA => placed_any hA n1 e1 FX.down FX.up hX FX.size
        unfold rndK
        simp only
        generalize plc 53 (-1074) 1024 X e1 = P at pf pm HP ⊢
        obtain ⟨F, ex, t, mid⟩ := P
        simp only at pf pm HP ⊢
        obtain ⟨p1, p2, p3, p4⟩ := pf
        have HG : ∀ u, Calls Tryd.prog 85 #[.agg #[.int .u64 (F : Nat), .int .i64 ex, .bool false, .int .i64 mid], .int .i64 mode, .bool n1] u fun r w' => r = .returned (.bool (outS mode F mid n1)) ∧ Below u.heap.size u w' := fun u => goesOut_any F ex false mid mode n1 u (by omega) pm (by omega) (by omega)
        have lX := frm_len FX
        cases t with
        | true =>
          simp only [if_true]
          obtain ⟨cw, ecv, HD⟩ := ldexp_word F ex (by omega) p2 p3 p4
          cases n1 with
          | false =>
            simp only [Bool.false_eq_true, if_false, Nat.add_zero]
            exact round_tf n e mode X e1 lX (len_ne hX) (by omega) (by omega) F cw _ 0 ex mid p1 ecv HF (hid HP) (hid HD)
          | true =>
            simp only [if_true]
            exact round_tt n e mode X e1 lX (len_ne hX) (by omega) (by omega) F cw _ _ ex mid p1 ecv HF (hid HP) (hid HD) (hid fun u => copy_word _ (by omega) u)
        | false =>
          simp only [Bool.false_eq_true, if_false]
          cases hob : outS mode F mid n1 with
          | false =>
            rw [hob] at HG
            simp only [Bool.false_eq_true, if_false]
            obtain ⟨cw, ecv, HD⟩ := ldexp_word F ex (by omega) p2 p3 p4
            cases n1 with
            | false =>
              simp only [Bool.false_eq_true, if_false, Nat.add_zero]
              exact round_fff n e mode X e1 lX (len_ne hX) (by omega) (by omega) F cw _ 0 ex mid p1 ecv HF (hid HP) (hid HG) (hid HD)
            | true =>
              simp only [if_true]
              exact round_fft n e mode X e1 lX (len_ne hX) (by omega) (by omega) F cw _ _ ex mid p1 ecv HF (hid HP) (hid HG) (hid HD) (hid fun u => copy_word _ (by omega) u)
          | true =>
            rw [hob] at HG
            simp only [if_true]
            obtain ⟨cw, ecv, HD⟩ := ldexp_word (F + 1) ex (by omega) p2 p3 (by omega)
            cases n1 with
            | false =>
              simp only [Bool.false_eq_true, if_false, Nat.add_zero]
              exact round_ftf n e mode X e1 lX (len_ne hX) (by omega) (by omega) F cw _ 0 ex mid p1 (by simpa using ecv) HF (hid HP) (hid HG) (hid HD)
            | true =>
              simp only [if_true]
              exact round_ftt n e mode X e1 lX (len_ne hX) (by omega) (by omega) F cw _ _ ex mid p1 (by simpa using ecv) HF (hid HP) (hid HG) (hid HD) (hid fun u => copy_word _ (by omega) u)

set_option maxHeartbeats 1000000 in
theorem Round_any {w : World} {a : Option Addr} {l c : Nat} {xs : List Nat} (hA : Arg w a l c xs) (hT : Tab w) (n : Bool) (e mode : Int) (he0 : -9223372036854775808 ≤ e) (he1 : e ≤ 9223372036854775807) :
    Calls Tryd.prog 34 #[.agg #[.bool n, .slice a l c, .int .i64 e], .int .i64 mode] w fun r w' => r = .returned (.tuple #[.float .f64 (rndS (mkS n (val xs) e) mode).1, .int .i64 (rndS (mkS n (val xs) e) mode).2]) ∧ Below w.heap.size w w' := by
  have hb0 := below_alloc w (.cells #[.bool n, .slice a l c, .int .i64 e] 28)
  have H := hid (round_any (hA.below hb0) (hT.belows hb0) n e mode he0 he1)
  have S0 := Aside.intro hb0
  obtain ⟨⟨K, er⟩, hK⟩ : ∃ K, rndS (mkS n (val xs) e) mode = K := ⟨_, rfl⟩
  rw [hK] at H ⊢
  simp only at H ⊢
  clear hA hT hb0 hK
  go_enter Tryd.func34, Tryd.ntmps34
  go_wp2_with fail
  refine (Calls.mono H.out) ?_
  rintro r u1 ⟨rfl, hb⟩
  have S1 := Aside.intro hb
  clear hb
  go_wp2
  go_ret2
  exact ⟨rfl, S0.out.trans (S1.out.mono (by simp))⟩
end Go.Proofs.YtmlmgfodkehenaaDoor

/- Round. -/
namespace Go.Proofs.YtmlmgfodkehenaaDoor
open Go.RowKit
set_option linter.unusedVariables false
set_option maxRecDepth 20000
set_option linter.unusedSimpArgs false

/-- What Round answers, where nothing is refused. -/
def rd7 (V : Int) (s : Sp) (mode a b : Int) : Nat × Int :=
  if (ahd V s mode a b).2.1 then ((ahd V s mode a b).1, 0) else rndS (mkS (dN (exV V)) (dX (exV V)) (dE (exV V))) mode
theorem ahd_er (V : Int) (s : Sp) (mode a b : Int) : (ahd V s mode a b).2.2 = 0 := by
  unfold ahd
  split
  · rfl
  · split <;> rfl
theorem dX_small {V : Int} (h0 : -(HB : Int) < V) (h1 : V < (HB : Int)) : (ws (dX (exV V))).length ≤ 133 := by
  refine (ws_len_le _ 133).2 ?_
  have e : pw 133 = PB := by unfold PB; rfl
  rw [e]
  have hp := PB_HB
  have hq := HB_pos
  refine Nat.lt_of_le_of_lt (m := V.natAbs) ?_ (by omega)
  unfold exV mkS dX
  split
  · exact Nat.zero_le _
  · split
    · exact Nat.zero_le _
    · exact Nat.div_le_self _ _
theorem dE_small (V : Int) : -9223372036854775808 ≤ dE (exV V) ∧ dE (exV V) ≤ 9223372036854775807 := by
  unfold exV mkS dE
  split
  · simp
  · split
    · simp
    · next h => simp only [Option.getD_some]; omega

set_option maxHeartbeats 2000000 in
theorem Round7 (g : Nat) (V : Int) (s : Sp) (mode a b : Int) (w : World) (hA : Acc7 w g V s) (hs : s.ok) (hT : Tab w) (hm0 : 0 ≤ mode) (hm1 : mode ≤ 4) (hab : may a b = true) (ha : a ≠ 2) (hb : b ≠ 2) :
    Calls Tryd.prog 15 #[.pointer (some ⟨g, 0, none⟩), .int .i64 mode, .agg #[.int .i64 a, .int .i64 b]] w fun r w' => r = .returned (.tuple #[.float .f64 (rd7 V s mode a b).1, .int .i64 (rd7 V s mode a b).2]) ∧ Below w.heap.size w w' := by
  obtain ⟨⟨X, er⟩, hX⟩ : ∃ X, X = rd7 V s mode a b := ⟨_, rfl⟩
  rw [← hX]
  simp only
  have hb0 := bel_alloc w (Obj.cells #[.int .i64 a, .int .i64 b] 44)
  have HH := hid (ahead7 g V s mode a b _ (hA.bel hb0) hs hm0 hm1 hab ha hb)
  have her := ahd_er V s mode a b
  unfold rd7 at hX
  obtain ⟨⟨ax, at', ae⟩, hAh⟩ : ∃ Y, Y = ahd V s mode a b := ⟨_, rfl⟩
  rw [← hAh] at HH her hX
  simp only at HH her hX
  subst her
  have HX := Aside.intro hX
  have HA := Aside.intro (And.intro hA (And.intro hT hb0))
  clear hA hT hb0 hX hAh hs hab ha hb
  go_enter Tryd.func15, Tryd.ntmps15
  go_wp2_with fail
  refine HH.out.mono ?_
  rintro r w1 ⟨rfl, hb1⟩
  have B1 := Aside.intro (HA.out.2.2.trans (hb1.mono HA.out.2.2.size))
  clear hb1
  cases at'
  · go_wp2_with fail
    refine (Exact7 g V s w1 (HA.out.1.bel B1.out) (HA.out.2.1.belows B1.out)).mono ?_
    rintro r w2 ⟨v, rfl, hN, hb2⟩
    obtain ⟨L, _, _, _, h0, h1, _⟩ := HA.out.1
    obtain ⟨ad, c, rfl, AV⟩ := hN.arg (Nat.le_trans (dX_small h0 h1) (by decide))
    have HR := hid (Round_any AV (HA.out.2.1.belows (B1.out.trans (hb2.mono B1.out.size))) (dN (exV V)) (dE (exV V)) mode (dE_small V).1 (dE_small V).2)
    rw [val_ws] at HR
    have HX2 := HX.out
    rw [if_neg (by decide)] at HX2
    rw [← HX2] at HR
    simp only at HR
    have B2 := Aside.intro (B1.out.trans (hb2.mono B1.out.size))
    clear hN hb2 AV h0 h1 HX2
    go_wp2_with fail
    refine HR.out.mono ?_
    rintro r w3 ⟨rfl, hb3⟩
    have B3 := Aside.intro hb3
    clear hb3
    go_wp2
    refine bodyPost_ret (v := .tuple #[.float .f64 X, .int .i64 er]) (by simp [results, Tryd.results15, go_sem]) rfl ?_
    exact ⟨rfl, B2.out.trans (B3.out.mono B2.out.size)⟩
  · go_wp2
    have HX2 := HX.out
    rw [if_pos trivial] at HX2
    cases HX2
    refine bodyPost_ret (v := .tuple #[.float .f64 X, .int .i64 0]) (by simp [results, Tryd.results15, go_sem]) rfl ?_
    exact ⟨rfl, B1.out⟩
end Go.Proofs.YtmlmgfodkehenaaDoor

/- New, Specials, Copy, Exact. -/
namespace Go.Proofs.YtmlmgfodkehenaaDoor
open Go.RowKit
set_option linter.unusedVariables false
set_option maxRecDepth 20000
set_option linter.unusedSimpArgs false

theorem Tryd.zero_acc : Tryd.zeroCells59 = ((List.replicate 133 0).map U ++ Sp.cells ⟨0, 0, 0, 0, 0, 0⟩).toArray := by kernel_rfl
theorem Tryd.size_acc : (Tryd.prog.info? 59).map (·.size) = some 139 := by kernel_rfl
theorem zero_acc7 {w : World} {g : Nat} (h : Bl w g 59 ((List.replicate 133 0).map U ++ Sp.cells ⟨0, 0, 0, 0, 0, 0⟩)) : Acc7 w g 0 ⟨0, 0, 0, 0, 0, 0⟩ :=
  ⟨List.replicate 133 0, by simp, Wf.zeros 133, by rw [val_zeros]; simp, by have := HB_pos; omega, by have := HB_pos; omega, h⟩

set_option maxHeartbeats 1000000 in
theorem New7 (w : World) : Calls Tryd.prog 8 #[] w fun r w' => r = .returned (.pointer (some ⟨w.heap.size, 0, none⟩)) ∧ Acc7 w' w.heap.size 0 ⟨0, 0, 0, 0, 0, 0⟩ ∧ Below w.heap.size w w' := by
  go_enter Tryd.func8, Tryd.ntmps8
  go_wp2
  go_ret
  refine ⟨rfl, ?_, bel_alloc _ _⟩
  rw [Tryd.zero_acc]
  exact zero_acc7 (Bl.new _ _ _)

set_option maxHeartbeats 1000000 in
theorem Specials7 (g : Nat) (V : Int) (s : Sp) (w : World) (hA : Acc7 w g V s) : Calls Tryd.prog 10 #[.pointer (some ⟨g, 0, none⟩)] w fun r w' => r = .returned s.agg ∧ Below w.heap.size w w' := by
  obtain ⟨L, a1, _, _, _, _, a6⟩ := hA
  obtain ⟨sn, su, sd, sm, sp, sa⟩ := s
  have hlt := a6.lt
  have hne : g ≠ w.heap.size := Nat.ne_of_lt hlt
  have c0 := a6.cell a1 0 _ rfl
  have c1 := a6.cell a1 1 _ rfl
  have c2 := a6.cell a1 2 _ rfl
  have c3 := a6.cell a1 3 _ rfl
  have c4 := a6.cell a1 4 _ rfl
  have c5 := a6.cell a1 5 _ rfl
  clear a1 a6
  go_enter Tryd.func10, Tryd.ntmps10
  go_wp2
  exact bodyPost_ret (v := Sp.agg ⟨sn, su, sd, sm, sp, sa⟩) (by simp [results, Tryd.results10, go_sem, Sp.agg]) rfl ⟨rfl, bel_alloc _ _⟩

set_option maxHeartbeats 1000000 in
theorem Copy7 (g : Nat) (V : Int) (s : Sp) (w : World) (hA : Acc7 w g V s) : Calls Tryd.prog 18 #[.pointer (some ⟨g, 0, none⟩)] w fun r w' => r = .returned (.pointer (some ⟨w.heap.size, 0, none⟩)) ∧ Acc7 w' w.heap.size V s ∧ Below w.heap.size w w' := by
  obtain ⟨L, a1, a2, a3, a4, a5, a6⟩ := hA
  have HA := Aside.intro (And.intro a1 (And.intro a2 (And.intro a3 (And.intro a4 (And.intro a5 a6)))))
  have HO : Aside ((L.map U ++ s.cells).toArray.all (·.oneCell') = true ∧ (L.map U ++ s.cells).length = 139) := by
    refine ⟨all_oneCell_toArray fun v hv => ?_, by simp [a1, Sp.cells]⟩
    rcases List.mem_append.1 hv with h | h
    · exact oneCell_Ul L v h
    · simp only [Sp.cells, List.mem_cons, List.not_mem_nil, or_false] at h
      rcases h with rfl | rfl | rfl | rfl | rfl | rfl <;> rfl
  obtain ⟨fs, hfs⟩ : ∃ d : TypeDesc, Tryd.prog.underlying 59 = some d ∧ d.isRow = true := by
    have h : (Tryd.prog.underlying 59).any (·.isRow) = true := by kernel_rfl
    obtain ⟨d, h1, h2⟩ := (Option.any_eq_true _ _).1 h
    exact ⟨d, h1, h2⟩
  have HF := Aside.intro hfs
  have HG : Aside (w.rangeAt g 0 (L.map U ++ s.cells)) := Bl.range a6 0 _ (fun j v hv => by rw [Nat.zero_add]; exact hv)
  have HS : Aside ((Tryd.prog.info? 59).map (·.size) = some (L.map U ++ s.cells).length) := by refine Aside.intro ?_; rw [Tryd.size_acc, HO.out.2]
  have HS2 : Aside ((Tryd.prog.info? 59).map (·.size) = some (L.map U ++ s.cells).toArray.size) := by refine Aside.intro ?_; rw [Tryd.size_acc, List.size_toArray, HO.out.2]
  have Z : Aside (Bl (w.alloc (Obj.cells Tryd.zeroCells59 59)) w.heap.size 59 ((List.replicate 133 0).map U ++ Sp.cells ⟨0, 0, 0, 0, 0, 0⟩)) := by
    rw [Tryd.zero_acc]; exact Bl.new _ _ _
  clear a1 a2 a3 a4 a5 a6 hfs
  go_enter Tryd.func18, Tryd.ntmps18
  go_wp2_with (first
    | ((with_reducible refine wpList_load_mid (P := Tryd.prog) rfl 59 (.tmp 5) rfl g 0 rfl (L.map U ++ s.cells) fs HG.out HF.out.1 HF.out.2 HS.out ?_))
    | (with_reducible refine wpList_store_mid (P := Tryd.prog) rfl 59 (.tmp 3) (.tmp 6) rfl w.heap.size 0 (L.map U ++ s.cells).toArray rfl rfl (Z.out.there 0 _ (by rw [List.size_toArray, HO.out.2]; simp [Sp.cells])) HS2.out HO.out.1 ?_))
  go_ret
  obtain ⟨a1, a2, a3, a4, a5, a6⟩ := HA.out
  have hz := Z.out.setAll (vs := L.map U ++ s.cells) (by rw [HO.out.2]; simp [Sp.cells])
  exact ⟨rfl, ⟨L, a1, a2, a3, a4, a5, hz⟩, But.below (bel_alloc w _) (But.setCells _ _ (But.refl _ _)) (by simp) (Nat.le_refl _)⟩
end Go.Proofs.YtmlmgfodkehenaaDoor

/- live: the law's first look. -/
namespace Go.Proofs.YtmlmgfodkehenaaDoor
open Go.RowKit
open Go.Proofs.YtmlmgfodkehenaaDoor.B (bw)
set_option linter.unusedVariables false
set_option maxRecDepth 20000
set_option linter.unusedSimpArgs false

theorem ldexp_pow (e E : Nat) (x : Int) (w : World) (he0 : 0 < e) (he1 : e < 2047) (hE0 : 0 < E) (hE : E < 2047) (hx0 : -3000 ≤ x) (hx1 : x ≤ 3000) (hxE : (E : Int) = x + e) :
    Calls Tryd.prog 49 #[.float .f64 (B.bw false e 0), .int .i64 x] w fun r w' => r = .returned (.float .f64 (B.bw false E 0)) ∧ w' = w := by
  have hb : B.bw false e 0 = e * 4503599627370496 + 0 := by unfold B.bw; simp
  have hd : B.bw false E 0 = E * 4503599627370496 + 0 := by unfold B.bw; simp
  exact B.ldexp_norm (B.bw false e 0) e 0 (B.bw false E 0) x (x + ((e : Int) - 1023)) ((E : Int) * 4503599627370496) w (by rw [hb]; omega) hx0 hx1 he0 he1 (by omega)
    (by rw [B.eq_zero false e 0 (by omega) (by omega)]; simp; omega) (hid fun u => B.isInf0 e 0 (by omega) (by omega) u) (hid fun u => B.nan_no e 0 (by omega) (by omega) u) (hid fun u => B.normalize_any e 0 he0 (by omega) (by omega) u)
    (B.bw_exp false e 0 (by omega) (by omega)) (B.mask_clear e 0 (by omega) (by omega)) rfl (by omega) (by omega) (by omega) (by omega) (by omega) (B.join_exp E 0 (by omega) (by omega)) (B.mul_one _ (by rw [hd]; omega) (by rw [hd]; omega) _)
set_option maxHeartbeats 1000000 in
theorem Ldexp1000 (w : World) : Calls Tryd.prog 24 #[.float .f64 4607182418800017408, .int .i64 1000] w fun r w' => r = .returned (.float .f64 9110782046170513408) ∧ w' = w := by
  have H := hid (ldexp_pow 1023 2023 1000 w (by decide) (by decide) (by decide) (by decide) (by decide) (by decide) (by decide))
  rw [show B.bw false 1023 0 = 4607182418800017408 by decide, show B.bw false 2023 0 = 9110782046170513408 by decide] at H
  go_enter Tryd.func24, Tryd.ntmps24
  go_wp2_with fail
  refine H.out.mono ?_
  rintro r w1 ⟨rfl, rfl⟩
  go_wp2
  go_ret
  exact ⟨rfl, rfl⟩

theorem pK_one : pK 4607182418800017408 4607182418800017408 = 0 := by decide
theorem pK_up : pK 9110782046170513408 4607182418800017408 = 0 := by decide
theorem pK_dn : pK 18334154083025289216 4607182418800017408 = 0 := by decide
theorem pT_pow (x : Nat) (ng : Bool) (j k : Nat) (h : pK x 4607182418800017408 = 0) (hf : frW x = 2 ^ 52) (hn : (!ngW x == ngW 4607182418800017408) = ng) (hj : (xpW x + xpW 4607182418800017408 + 2148).toNat = j) (hk : k = 104 + j) : pT x 4607182418800017408 = sgn ng (2 ^ k) := by
  unfold pT
  rw [pv7_yes h, hf, show frW 4607182418800017408 = 2 ^ 52 by decide, hn, hj, hk, ← Nat.pow_add, ← Nat.pow_add]
theorem pT_one (k : Nat) (hk : k = 2148) : pT 4607182418800017408 4607182418800017408 = ((2 ^ k : Nat) : Int) := by
  obtain ⟨j, hj⟩ : ∃ j, j = 2044 := ⟨_, rfl⟩
  rw [pT_pow 4607182418800017408 false j k pK_one (by decide) (by decide) (by rw [hj]; decide) (by omega)]
  rfl
theorem pT_up (k : Nat) (hk : k = 3148) : pT 9110782046170513408 4607182418800017408 = ((2 ^ k : Nat) : Int) := by
  obtain ⟨j, hj⟩ : ∃ j, j = 3044 := ⟨_, rfl⟩
  rw [pT_pow 9110782046170513408 false j k pK_up (by decide) (by decide) (by rw [hj]; decide) (by omega)]
  rfl
theorem pT_dn (k : Nat) (hk : k = 3148) : pT 18334154083025289216 4607182418800017408 = -((2 ^ k : Nat) : Int) := by
  obtain ⟨j, hj⟩ : ∃ j, j = 3044 := ⟨_, rfl⟩
  rw [pT_pow 18334154083025289216 true j k pK_dn (by decide) (by decide) (by rw [hj]; decide) (by omega)]
  rfl
theorem pow_HB (k : Nat) (hk : k < 4237) : ((2 ^ k : Nat) : Int) * 4 ≤ (HB : Int) := by
  obtain ⟨j, hj⟩ : ∃ j, j = 4238 := ⟨_, rfl⟩
  rw [HB_two j hj]
  have h : 2 ^ (k + 2) ≤ 2 ^ j := Nat.pow_le_pow_right (by decide) (by omega)
  rw [Nat.pow_succ, Nat.pow_succ] at h
  omega
theorem bl_double (X : Nat) (h : X ≠ 0) : bl (2 * X) = bl X + 1 := by
  have := bl_mul_pow 1 X h
  rw [Nat.pow_one] at this
  omega
theorem lo_double (X : Nat) (h : X ≠ 0) : lo (2 * X) = lo X + 1 := by
  obtain ⟨m, hm⟩ := lo_form X h
  obtain ⟨k, hk⟩ : ∃ k, lo X = k := ⟨_, rfl⟩
  rw [hk] at hm ⊢
  have e : 2 * X = 2 ^ (k + 1) * (2 * m + 1) := by rw [hm, Nat.pow_succ]; grind
  rw [e]
  exact lo_eq (k + 1) m
theorem mkS_double (n : Bool) (X : Nat) (e : Int) : mkS n (2 * X) e = mkS n X (e + 1) := by
  unfold mkS
  by_cases h : X = 0
  · subst h; simp
  · rw [if_neg (by omega), if_neg h, lo_double X h, bl_double X h]
    have e1 : 2 * X / 2 ^ (lo X + 1) = X / 2 ^ lo X := by
      rw [Nat.pow_succ, Nat.mul_comm (2 ^ lo X) 2, Nat.mul_div_mul_left _ _ (by omega)]
    rw [e1]
    have e2 : (262144 < bl X + 1 - (lo X + 1) ∨ 1048576 - ((lo X + 1 : Nat) : Int) < e ∨ e < -1048576 - ((lo X + 1 : Nat) : Int)) ↔ (262144 < bl X - lo X ∨ 1048576 - (lo X : Int) < e + 1 ∨ e + 1 < -1048576 - (lo X : Int)) := by omega
    by_cases h2 : 262144 < bl X - lo X ∨ 1048576 - (lo X : Int) < e + 1 ∨ e + 1 < -1048576 - (lo X : Int)
    · rw [if_pos h2, if_pos (e2.2 h2)]
    · rw [if_neg h2, if_neg (fun h3 => h2 (e2.1 h3))]
      congr 3
      omega
theorem mkS_pow (n : Bool) (k : Nat) : ∀ e : Int, mkS n (2 ^ k) e = mkS n 1 (e + k) := by
  induction k with
  | zero => intro e; simp
  | succ k ih => intro e; rw [Nat.pow_succ, Nat.mul_comm, mkS_double, ih]; congr 1; omega
theorem exV_one (k : Nat) (hk : k = 2148) : exV ((2 ^ k : Nat) : Int) = some (false, 1, 0) := by
  unfold exV
  rw [decide_eq_false (Int.not_lt.mpr (Int.natCast_nonneg _)), Int.natAbs_natCast, mkS_pow, hk]
  kernel_rfl
theorem rd7_one (k : Nat) (hk : k = 2148) : rd7 ((2 ^ k : Nat) : Int) ⟨0, 0, 0, 0, 0, 3⟩ 0 0 0 = (4607182418800017408, 0) := by
  have h0 : ((2 ^ k : Nat) : Int) ≠ 0 := by have := Nat.two_pow_pos k; omega
  have e : ahd ((2 ^ k : Nat) : Int) ⟨0, 0, 0, 0, 0, 3⟩ 0 0 0 = (0, false, 0) := by
    unfold ahd
    rw [if_neg (by decide), if_neg h0]
  have e2 : rndS (mkS (dN (some (false, 1, 0))) (dX (some (false, 1, 0))) (dE (some (false, 1, 0)))) 0 = (4607182418800017408, 0) := by kernel_rfl
  unfold rd7
  rw [e, exV_one k hk, e2]
  rfl
theorem put_steps (k j : Nat) (hk : k = 2148) (hj : j = 3148) :
    putS 0 ⟨0, 0, 0, 0, 0, 0⟩ (pK 9110782046170513408 4607182418800017408) (pT 9110782046170513408 4607182418800017408) = (0, ((2 ^ j : Nat) : Int), ⟨0, 0, 0, 0, 0, 1⟩) ∧
    putS ((2 ^ j : Nat) : Int) ⟨0, 0, 0, 0, 0, 1⟩ (pK 4607182418800017408 4607182418800017408) (pT 4607182418800017408 4607182418800017408) = (0, ((2 ^ j : Nat) : Int) + ((2 ^ k : Nat) : Int), ⟨0, 0, 0, 0, 0, 2⟩) ∧
    putS (((2 ^ j : Nat) : Int) + ((2 ^ k : Nat) : Int)) ⟨0, 0, 0, 0, 0, 2⟩ (pK 18334154083025289216 4607182418800017408) (pT 18334154083025289216 4607182418800017408) = (0, ((2 ^ k : Nat) : Int), ⟨0, 0, 0, 0, 0, 3⟩) := by
  have a1 := pow_HB k (by omega)
  have a2 := pow_HB j (by omega)
  have p1 := Nat.two_pow_pos k
  have p2 := Nat.two_pow_pos j
  rw [pK_up, pK_one, pK_dn, pT_up j hj, pT_one k hk, pT_dn j hj]
  generalize (2 ^ k : Nat) = A at *
  generalize (2 ^ j : Nat) = C at *
  have hb := HB_pos
  refine ⟨?_, ?_, ?_⟩
  · unfold putS step7
    rw [if_neg (by decide), if_pos (by omega), Int.zero_add]
    rfl
  · unfold putS step7
    rw [if_neg (by decide), if_pos (by omega)]
    rfl
  · unfold putS step7
    rw [if_neg (by decide), if_pos (by omega)]
    rw [show (C : Int) + A + -C = A by omega]
    rfl

set_option maxHeartbeats 2000000 in
theorem live7 (w : World) (hT : Tab w) : Calls Tryd.prog 7 #[] w fun r w' => r = .returned (.bool true) ∧ Below w.heap.size w w' := by
  obtain ⟨k, hk⟩ : ∃ k, k = 2148 := ⟨_, rfl⟩
  obtain ⟨j, hj⟩ : ∃ j, j = 3148 := ⟨_, rfl⟩
  obtain ⟨q1, q2, q3⟩ := put_steps k j hk hj
  have q4 := rd7_one k hk
  have HQ := Aside.intro (And.intro q1 (And.intro q2 (And.intro q3 (And.intro q4 hT))))
  have HL := hid (fun u : World => Ldexp1000 u)
  have hneg : ∀ u : World, Sem.run Tryd.prog (Op.unary UnOp.neg (Value.float FloatKind.f64 9110782046170513408)) u = .ok (.float .f64 18334154083025289216) u := fun u => by kernel_rfl
  clear q1 q2 q3 q4 hT hk hj
  go_enter Tryd.func7, Tryd.ntmps7
  go_wp2_with fail
  refine (New7 w).mono ?_
  rintro r w1 ⟨rfl, hA, hb⟩
  have S1 := Aside.intro (And.intro hA hb)
  clear hA hb
  go_wp2_with fail
  refine (HL.out _).mono ?_
  rintro r u ⟨rfl, rfl⟩
  go_wp2_with fail
  have C1 := Add7 w.heap.size 0 ⟨0, 0, 0, 0, 0, 0⟩ 9110782046170513408 u S1.out.1 (by unfold Sp.ok; decide) (by decide)
  rw [HQ.out.1] at C1
  refine C1.mono ?_
  rintro r w2 ⟨rfl, hA, hbut⟩
  have S2 := Aside.intro (And.intro hA (But.below S1.out.2 hbut S1.out.2.size (Nat.le_refl _)))
  clear hA hbut C1
  go_wp2_with fail
  have C2 := Add7 w.heap.size _ ⟨0, 0, 0, 0, 0, 1⟩ 4607182418800017408 w2 S2.out.1 (by unfold Sp.ok; decide) (by decide)
  rw [HQ.out.2.1] at C2
  refine C2.mono ?_
  rintro r w3 ⟨rfl, hA, hbut⟩
  have S3 := Aside.intro (And.intro hA (But.below S2.out.2 hbut S2.out.2.size (Nat.le_refl _)))
  clear hA hbut C2
  go_wp2_with fail
  refine (HL.out _).mono ?_
  rintro r u3 ⟨rfl, rfl⟩
  go_wp2_with fail
  have C3 := Add7 w.heap.size _ ⟨0, 0, 0, 0, 0, 2⟩ 18334154083025289216 u3 S3.out.1 (by unfold Sp.ok; decide) (by decide)
  rw [HQ.out.2.2.1] at C3
  refine C3.mono ?_
  rintro r w4 ⟨rfl, hA, hbut⟩
  have S4 := Aside.intro (And.intro hA (But.below S3.out.2 hbut S3.out.2.size (Nat.le_refl _)))
  clear hA hbut C3
  go_wp2_with fail
  have C4 := Round7 w.heap.size _ ⟨0, 0, 0, 0, 0, 3⟩ 0 0 0 w4 S4.out.1 (by unfold Sp.ok; decide) (HQ.out.2.2.2.2.belows S4.out.2) (by decide) (by decide) (by decide) (by decide) (by decide)
  rw [HQ.out.2.2.2.1] at C4
  refine C4.mono ?_
  rintro r w5 ⟨rfl, hb⟩
  have S5 := Aside.intro (S4.out.2.trans (hb.mono S4.out.2.size))
  clear hb C4
  have heq : (FloatKind.f64.format.order 4607182418800017408 4607182418800017408 == some .eq) = true := by kernel_rfl
  go_wp2
  go_ret
  exact ⟨rfl, S5.out⟩
end Go.Proofs.YtmlmgfodkehenaaDoor

/- What is added and then taken: the plain part. -/
namespace Go.Proofs.YtmlmgfodkehenaaDoor
open Go.RowKit
set_option linter.unusedVariables false
set_option maxRecDepth 20000
set_option linter.unusedSimpArgs false

/-- A bound for one thing's value. -/
def QB : Nat := HB / 4398046511104
theorem QB_HB : HB = 4398046511104 * QB := by
  obtain ⟨k, hk⟩ : ∃ k, k = 4238 := ⟨_, rfl⟩
  obtain ⟨j, hj⟩ : ∃ j, j = 4196 := ⟨_, rfl⟩
  unfold QB
  rw [HB_two k hk, show k = 42 + j by omega, Nat.pow_add]
  have e : (2 : Nat) ^ 42 = 4398046511104 := by decide
  rw [e, Nat.mul_div_cancel_left _ (by decide)]
theorem QB_pos : 0 < QB := by have := QB_HB; have := HB_pos; omega
theorem pT_small (x y : Nat) (hx : x < 18446744073709551616) (hy : y < 18446744073709551616) : -(QB : Int) ≤ pT x y ∧ pT x y ≤ (QB : Int) := by
  have hp := QB_pos
  have e2 : ∃ j, j = 4196 ∧ QB = 2 ^ j := by
    obtain ⟨k, hk⟩ : ∃ k, k = 4238 := ⟨_, rfl⟩
    obtain ⟨j, hj⟩ : ∃ j, j = 4196 := ⟨_, rfl⟩
    refine ⟨j, hj, ?_⟩
    unfold QB
    rw [HB_two k hk, show k = 42 + j by omega, Nat.pow_add]
    have e : (2 : Nat) ^ 42 = 4398046511104 := by decide
    rw [e, Nat.mul_div_cancel_left _ (by decide)]
  obtain ⟨j, hj, hq⟩ := e2
  unfold pT pv7
  split
  · have f1 := fr_bound (eW x) (fW x) (bw_parts x hx).2.2
    have f2 := fr_bound (eW y) (fW y) (bw_parts y hy).2.2
    have x1 := xp_bound (eW x) (bw_parts x hx).2.1
    have x2 := xp_bound (eW y) (bw_parts y hy).2.1
    have h1 : frW x * frW y < 2 ^ 106 := by
      have : frW x * frW y ≤ 9007199254740991 * 9007199254740991 := Nat.mul_le_mul (by unfold frW; omega) (by unfold frW; omega)
      exact Nat.lt_of_le_of_lt this (by decide)
    have h3 : frW x * frW y * 2 ^ (xpW x + xpW y + 2148).toNat < QB := by
      rw [hq]
      refine Nat.lt_of_lt_of_le (Nat.mul_lt_mul_of_pos_right h1 (Nat.two_pow_pos _)) ?_
      rw [← Nat.pow_add]
      exact Nat.pow_le_pow_right (by decide) (by unfold xpW; omega)
    have := sgn_bound (!ngW x == ngW y) _ _ h3
    omega
  · constructor <;> omega

/-- Counts that may be. -/
def Sp.pos (s : Sp) : Prop := 0 ≤ s.n ∧ 0 ≤ s.u ∧ 0 ≤ s.d ∧ 0 ≤ s.m ∧ 0 ≤ s.p ∧ s.n + s.u + s.d + s.m + s.p ≤ s.a
theorem Sp.pos.cnt {s : Sp} (h : s.pos) (k : Nat) (hk : k ≤ 5) : (s.cnt k 1).pos := by
  obtain ⟨h0, h1, h2, h3, h4, h5⟩ := h
  have hc : k = 0 ∨ k = 1 ∨ k = 2 ∨ k = 3 ∨ k = 4 ∨ k = 5 := by omega
  rcases hc with rfl | rfl | rfl | rfl | rfl | rfl <;> (unfold Sp.pos Sp.cnt; simp; omega)
theorem Sp.pos.has {s : Sp} (h : s.pos) (k : Nat) (hk : k ≤ 5) : 0 ≤ s.has k := by
  obtain ⟨h0, h1, h2, h3, h4, h5⟩ := h
  unfold Sp.has
  split <;> (try assumption)
  split <;> (try assumption)
  split <;> (try assumption)
  split <;> (try assumption)
  split <;> (try assumption)
  omega
theorem has_cnt (s : Sp) (k : Nat) (hk : k ≤ 5) : (s.cnt k 1).has k = s.has k + 1 := by
  have hc : k = 0 ∨ k = 1 ∨ k = 2 ∨ k = 3 ∨ k = 4 ∨ k = 5 := by omega
  rcases hc with rfl | rfl | rfl | rfl | rfl | rfl <;> (unfold Sp.has Sp.cnt; simp)
  omega
theorem cnt_back (s : Sp) (k : Nat) : (s.cnt k 1).cnt k (-1) = s := by
  obtain ⟨n, u, d, m, p, a⟩ := s
  unfold Sp.cnt
  simp only [Sp.mk.injEq]
  refine ⟨?_, ?_, ?_, ?_, ?_, ?_⟩ <;> (try split) <;> omega
theorem Sp.pos.ok {s : Sp} (h : s.pos) (ha : s.a ≤ 4398046511104) : s.ok := by
  obtain ⟨h0, h1, h2, h3, h4, h5⟩ := h
  unfold Sp.ok
  omega
theorem cnt_a (s : Sp) (k : Nat) (c : Int) : (s.cnt k c).a = s.a + c := rfl

theorem put_ok (V : Int) (s : Sp) (k : Nat) (T : Int) (h0 : -(HB : Int) < V + T) (h1 : V + T < (HB : Int)) (ha : s.a < 1099511627776) : putS V s k T = (0, V + T, s.cnt k 1) := by
  unfold putS step7
  rw [if_neg (by omega), if_pos ⟨h0, h1⟩]
theorem drop_ok (U : Int) (t : Sp) (k : Nat) (T : Int) (hk : k ≤ 5) (hp : t.pos) (h0 : -(HB : Int) < U) (h1 : U < (HB : Int)) : dropS (U + T) (t.cnt k 1) k T = (0, U, t) := by
  unfold dropS step7
  have := hp.has k hk
  rw [has_cnt t k hk, if_neg (by omega), show U + T + -T = U by omega, if_pos ⟨h0, h1⟩, cnt_back]

/-- The things of a list of indices, put in one after the other. -/
def sAt (kA kB : Nat → Nat) (s : Sp) : List Nat → Sp
  | [] => s
  | j :: R => ((sAt kA kB s R).cnt (kA j) 1).cnt (kB j) 1
def vAt (tA tB : Nat → Int) (V : Int) : List Nat → Int
  | [] => V
  | j :: R => vAt tA tB V R + tA j + tB j
theorem cnt_comm (s : Sp) (k l : Nat) : (s.cnt k 1).cnt l 1 = (s.cnt l 1).cnt k 1 := by
  obtain ⟨n, u, d, m, p, a⟩ := s
  have h : ∀ (c : Nat) (z : Int), (if l = c then (if k = c then z + 1 else z) + 1 else (if k = c then z + 1 else z)) = (if k = c then (if l = c then z + 1 else z) + 1 else if l = c then z + 1 else z) := by
    intro c z
    by_cases h1 : k = c <;> by_cases h2 : l = c <;> simp [h1, h2]
  unfold Sp.cnt
  simp only [Sp.mk.injEq]
  exact ⟨h 1 n, h 2 u, h 3 d, h 4 m, h 5 p, trivial⟩
theorem sAt_snoc (kA kB : Nat → Nat) (s : Sp) (L : List Nat) (j : Nat) : sAt kA kB s (L ++ [j]) = sAt kA kB ((s.cnt (kA j) 1).cnt (kB j) 1) L := by
  induction L with
  | nil => rfl
  | cons i L ih => simp only [List.cons_append, sAt, ih]
theorem sAt_cnt (kA kB : Nat → Nat) (s : Sp) (L : List Nat) (k : Nat) : sAt kA kB (s.cnt k 1) L = (sAt kA kB s L).cnt k 1 := by
  induction L with
  | nil => rfl
  | cons i L ih => simp only [sAt, ih]; rw [cnt_comm _ k, cnt_comm _ k]
theorem sAt_rev (kA kB : Nat → Nat) (s : Sp) (L : List Nat) : sAt kA kB s L.reverse = sAt kA kB s L := by
  induction L with
  | nil => rfl
  | cons i L ih => rw [List.reverse_cons, sAt_snoc, sAt_cnt, sAt_cnt, ih]; rfl
theorem vAt_snoc (tA tB : Nat → Int) (V : Int) (L : List Nat) (j : Nat) : vAt tA tB V (L ++ [j]) = vAt tA tB (V + tA j + tB j) L := by
  induction L with
  | nil => rfl
  | cons i L ih => simp only [List.cons_append, vAt, ih]
theorem vAt_add (tA tB : Nat → Int) (V x : Int) (L : List Nat) : vAt tA tB (V + x) L = vAt tA tB V L + x := by
  induction L with
  | nil => rfl
  | cons i L ih => simp only [vAt, ih]; omega
theorem vAt_rev (tA tB : Nat → Int) (V : Int) (L : List Nat) : vAt tA tB V L.reverse = vAt tA tB V L := by
  induction L with
  | nil => rfl
  | cons i L ih => rw [List.reverse_cons, vAt_snoc, vAt_add, vAt_add, ih]; simp only [vAt]
theorem sAt_pos (kA kB : Nat → Nat) (s : Sp) (hA : ∀ j, kA j ≤ 5) (hB : ∀ j, kB j ≤ 5) (h : s.pos) : ∀ L : List Nat, (sAt kA kB s L).pos ∧ (sAt kA kB s L).a = s.a + 2 * L.length
  | [] => ⟨h, by simp [sAt]⟩
  | j :: R => by
    obtain ⟨h1, h2⟩ := sAt_pos kA kB s hA hB h R
    refine ⟨(h1.cnt _ (hA j)).cnt _ (hB j), ?_⟩
    simp only [sAt, cnt_a, h2, List.length_cons]
    omega
theorem vAt_bound (tA tB : Nat → Int) (V : Int) (b : Int) (hA : ∀ j, -b ≤ tA j ∧ tA j ≤ b) (hB : ∀ j, -b ≤ tB j ∧ tB j ≤ b) : ∀ L : List Nat, V - (2 * L.length : Nat) * b ≤ vAt tA tB V L ∧ vAt tA tB V L ≤ V + (2 * L.length : Nat) * b
  | [] => by simp [vAt]
  | j :: R => by
    obtain ⟨h1, h2⟩ := vAt_bound tA tB V b hA hB R
    have a1 := hA j
    have a2 := hB j
    simp only [vAt, List.length_cons]
    have e : ((2 * (R.length + 1) : Nat) : Int) * b = ((2 * R.length : Nat) : Int) * b + 2 * b := by
      rw [show 2 * (R.length + 1) = 2 * R.length + 2 by omega, Int.natCast_add, Int.add_mul]; rfl
    rw [e]
    omega
/-- n - 1, .., 0. -/
def down : Nat → List Nat
  | 0 => []
  | n + 1 => n :: down n
theorem down_len : ∀ n, (down n).length = n
  | 0 => rfl
  | n + 1 => by simp [down, down_len n]
/-- i, .., n - 1. -/
def upTo (n : Nat) : Nat → List Nat
  | 0 => []
  | r + 1 => (n - (r + 1)) :: upTo n r
theorem upTo_len (n : Nat) : ∀ r, (upTo n r).length = r
  | 0 => rfl
  | r + 1 => by simp [upTo, upTo_len n r]
theorem upTo_snoc (n : Nat) : ∀ r, r ≤ n → upTo (n + 1) (r + 1) = upTo n r ++ [n]
  | 0, _ => by simp [upTo]
  | r + 1, h => by
    have ih := upTo_snoc n r (by omega)
    rw [upTo, ih, upTo]
    simp only [List.cons_append]
    congr 1
    omega
theorem upTo_down : ∀ n, upTo n n = (down n).reverse
  | 0 => rfl
  | n + 1 => by rw [upTo_snoc n n (Nat.le_refl _), upTo_down n, down, List.reverse_cons]
end Go.Proofs.YtmlmgfodkehenaaDoor

/- Products in any order and grouping: the plain part. -/
namespace Go.Proofs.YtmlmgfodkehenaaDoor
open Go.RowKit
set_option linter.unusedVariables false
set_option maxRecDepth 20000
set_option linter.unusedSimpArgs false

def Sp.nil7 : Sp := ⟨0, 0, 0, 0, 0, 0⟩
def v1 (t : Nat → Int) : List Nat → Int
  | [] => 0
  | j :: R => v1 t R + t j
def s1 (k : Nat → Nat) : List Nat → Sp
  | [] => Sp.nil7
  | j :: R => (s1 k R).cnt (k j) 1
theorem v1_perm (t : Nat → Int) {A C : List Nat} (h : A.Perm C) : v1 t A = v1 t C := by
  induction h with
  | nil => rfl
  | cons x _ ih => simp only [v1, ih]
  | swap x y l => simp only [v1]; omega
  | trans _ _ i1 i2 => rw [i1, i2]
theorem s1_perm (k : Nat → Nat) {A C : List Nat} (h : A.Perm C) : s1 k A = s1 k C := by
  induction h with
  | nil => rfl
  | cons x _ ih => simp only [s1, ih]
  | swap x y l => simp only [s1]; rw [cnt_comm]
  | trans _ _ i1 i2 => rw [i1, i2]
theorem v1_append (t : Nat → Int) (A C : List Nat) : v1 t (A ++ C) = v1 t A + v1 t C := by
  induction A with
  | nil => simp [v1]
  | cons x A ih => simp only [List.cons_append, v1, ih]; omega
theorem add_cnt (s r : Sp) (k : Nat) : (s.cnt k 1).add r = (s.add r).cnt k 1 := by
  obtain ⟨n, u, d, m, p, a⟩ := s
  obtain ⟨n', u', d', m', p', a'⟩ := r
  unfold Sp.cnt Sp.add
  simp only [Sp.mk.injEq]
  refine ⟨?_, ?_, ?_, ?_, ?_, ?_⟩ <;> (try split) <;> omega
theorem s1_append (k : Nat → Nat) (A C : List Nat) : s1 k (A ++ C) = (s1 k A).add (s1 k C) := by
  induction A with
  | nil =>
    simp only [List.nil_append, s1]
    generalize s1 k C = r
    obtain ⟨n, u, d, m, p, a⟩ := r
    simp [Sp.add, Sp.nil7]
  | cons x A ih => simp only [List.cons_append, s1, ih, add_cnt]
theorem s1_pos (k : Nat → Nat) (hk : ∀ j, k j ≤ 5) : ∀ L : List Nat, (s1 k L).pos ∧ (s1 k L).a = L.length
  | [] => ⟨by unfold Sp.pos s1 Sp.nil7; decide, rfl⟩
  | j :: R => by
    obtain ⟨h1, h2⟩ := s1_pos k hk R
    refine ⟨h1.cnt _ (hk j), ?_⟩
    simp only [s1, cnt_a, h2, List.length_cons]
    omega
theorem v1_bound (t : Nat → Int) (b : Int) (ht : ∀ j, -b ≤ t j ∧ t j ≤ b) : ∀ L : List Nat, -((L.length : Int) * b) ≤ v1 t L ∧ v1 t L ≤ (L.length : Int) * b
  | [] => by simp [v1]
  | j :: R => by
    obtain ⟨h1, h2⟩ := v1_bound t b ht R
    have h := ht j
    have e : ((R.length + 1 : Nat) : Int) * b = (R.length : Int) * b + b := by rw [Int.natCast_add, Int.add_mul]; simp
    simp only [v1, List.length_cons, e]
    omega
theorem merge_ok (V T : Int) (s r : Sp) (h0 : -(HB : Int) < V + T) (h1 : V + T < (HB : Int)) (ha : s.a + r.a ≤ 1099511627776) : mergeS V s T r = (0, V + T, s.add r) := by
  unfold mergeS step7
  rw [if_neg (by omega), if_pos ⟨h0, h1⟩]
theorem add_comm7 (s r : Sp) : s.add r = r.add s := by
  obtain ⟨n, u, d, m, p, a⟩ := s
  obtain ⟨n', u', d', m', p', a'⟩ := r
  unfold Sp.add
  simp only [Sp.mk.injEq]
  refine ⟨?_, ?_, ?_, ?_, ?_, ?_⟩ <;> omega
/-- One is taken out of a list. -/
theorem out_perm (R : List Nat) (i : Nat) (h : i < R.length) : R.Perm (R.getD i 0 :: (R.take i ++ R.drop (i + 1))) := by
  have e : R = R.take i ++ R.getD i 0 :: R.drop (i + 1) := by
    rw [List.getD_eq_getElem?_getD, List.getElem?_eq_getElem h]
    simp
  exact (List.Perm.of_eq e).trans List.perm_middle
theorem mem_down : ∀ n i, i ∈ down n ↔ i < n
  | 0, i => by simp [down]
  | n + 1, i => by simp only [down, List.mem_cons, mem_down n i]; omega
/-- What was put, what is left: together all. -/
structure Pm (n : Nat) (A C R : List Nat) : Prop where
  perm : (A ++ C ++ R).Perm (down n)
theorem Pm.len {n : Nat} {A C R : List Nat} (h : Pm n A C R) : A.length + C.length + R.length = n := by
  have := h.perm.length_eq
  simp only [List.length_append, down_len] at this
  omega
theorem Pm.lt {n : Nat} {A C R : List Nat} (h : Pm n A C R) (i : Nat) (hi : i < R.length) : R.getD i 0 < n := by
  rw [← mem_down n, ← h.perm.mem_iff]
  rw [List.getD_eq_getElem?_getD, List.getElem?_eq_getElem hi]
  simp
theorem Pm.left {n : Nat} {A C R : List Nat} (h : Pm n A C R) (i : Nat) (hi : i < R.length) : Pm n (R.getD i 0 :: A) C (R.take i ++ R.drop (i + 1)) := by
  refine ⟨List.Perm.trans ?_ h.perm⟩
  refine List.Perm.trans ?_ (((List.Perm.refl (A ++ C)).append (out_perm R i hi)).symm)
  simp only [List.cons_append]
  exact (List.perm_middle).symm
theorem Pm.right {n : Nat} {A C R : List Nat} (h : Pm n A C R) (i : Nat) (hi : i < R.length) : Pm n A (R.getD i 0 :: C) (R.take i ++ R.drop (i + 1)) := by
  refine ⟨List.Perm.trans ?_ h.perm⟩
  refine List.Perm.trans ?_ (((List.Perm.refl (A ++ C)).append (out_perm R i hi)).symm)
  refine List.Perm.trans (l₂ := R.getD i 0 :: (A ++ C ++ (R.take i ++ R.drop (i + 1)))) ?_ (List.perm_middle).symm
  simp only [List.append_assoc, List.cons_append]
  exact List.perm_middle
theorem Pm.all (n : Nat) : Pm n [] [] (upTo n n) := ⟨by simp only [List.nil_append]; rw [upTo_down]; exact List.reverse_perm _⟩
end Go.Proofs.YtmlmgfodkehenaaDoor

/- Merge: all that another one has. -/
namespace Go.Proofs.YtmlmgfodkehenaaDoor
open Go.RowKit
set_option linter.unusedVariables false
set_option maxRecDepth 20000
set_option linter.unusedSimpArgs false

set_option maxHeartbeats 4000000 in
theorem merge_core (g h : Nat) (L O : List Nat) (V T : Int) (s r : Sp) (w : World) (hs : s.ok) (hr : r.ok) (hA : Ac w g L s) (hl : L.length = 133) (hL : Wf L) (hv : (val L : Int) = V % (PB : Int)) (h0 : -(HB : Int) < V) (h1 : V < (HB : Int))
    (hB : Ac w h O r) (ho : O.length = 133) (hO : Wf O) (hvO : (val O : Int) = T % (PB : Int)) (hT0 : -(HB : Int) < T) (hT1 : T < (HB : Int)) :
    Calls Tryd.prog 13 #[.pointer (some ⟨g, 0, none⟩), .pointer (some ⟨h, 0, none⟩)] w (Did g w (mergeS V s T r)) := by
  obtain ⟨t, ht⟩ : ∃ t, t = s.add r := ⟨_, rfl⟩
  obtain ⟨X, hX⟩ : ∃ X, X = mergeS V s T r := ⟨_, rfl⟩
  rw [← hX]
  have HC := hid (fun u : World => together_any s r u hs hr)
  rw [← ht] at HC
  obtain ⟨sn, su, sd, sm, sp, sa⟩ := s
  obtain ⟨rn, ru, rd, rm, rp, ra⟩ := r
  obtain ⟨tn, tu, td, tm, tp, ta⟩ := t
  have hsa := hs.2.2.2.2.2
  have hra := hr.2.2.2.2.2
  have HR : Aside (Ac w g L ⟨sn, su, sd, sm, sp, sa⟩ ∧ L.length = 133 ∧ Wf L ∧ (val L : Int) = V % (PB : Int) ∧ -(HB : Int) < V ∧ V < (HB : Int)) := ⟨hA, hl, hL, hv, h0, h1⟩
  have HO : Aside (Ac w h O ⟨rn, ru, rd, rm, rp, ra⟩ ∧ O.length = 133 ∧ Wf O ∧ (val O : Int) = T % (PB : Int) ∧ -(HB : Int) < T ∧ T < (HB : Int)) := ⟨hB, ho, hO, hvO, hT0, hT1⟩
  have HX : Aside (X = mergeS V ⟨sn, su, sd, sm, sp, sa⟩ T ⟨rn, ru, rd, rm, rp, ra⟩ ∧ ⟨tn, tu, td, tm, tp, ta⟩ = Sp.add ⟨sn, su, sd, sm, sp, sa⟩ ⟨rn, ru, rd, rm, rp, ra⟩) := ⟨hX, ht⟩
  simp only [Sp.agg] at HC
  simp only at hsa hra
  clear hA hl hL hv h0 h1 hB ho hO hvO hT0 hT1 hX ht hs hr
  have a5 := HR.out.1.cell HR.out.2.1 5 _ rfl
  have b5 := HO.out.1.cell HO.out.2.1 5 _ rfl
  go_enter Tryd.func13, Tryd.ntmps13
  go_wp2
  go_region
  clear a5 b5
  by_cases hmax : 1099511627776 < sa + ra
  · go_wp2
    go_ret
    rw [HX.out.1]
    unfold mergeS
    rw [if_pos hmax]
    obtain ⟨hA, hl, hL, hv, h0, h1⟩ := HR.out
    exact ⟨rfl, ⟨L, hl, hL, hv, h0, h1, hA.drew⟩, (But.refl g w).drew⟩
  have HP : Aside (X = step7 V ⟨sn, su, sd, sm, sp, sa⟩ T ⟨tn, tu, td, tm, tp, ta⟩) := by
    refine Aside.intro ?_; rw [HX.out.1, HX.out.2]; unfold mergeS; rw [if_neg hmax]
  go_wp2
  obtain ⟨w1, hw1⟩ : ∃ w1, w1 = w.drew := ⟨_, rfl⟩
  rw [← hw1]
  have H1 : Aside (Below w.heap.size w w1) := by subst hw1; exact (Below.refl _ _).drew
  clear hw1 hmax
  have hu := Tryd.desc_words
  have hsz : (Tryd.prog.info? 57).map (·.size) = some (L.map U).length := by rw [Tryd.size_words, List.length_map, HR.out.2.1]
  have A0 := Aside.intro (HR.out.1.below H1.out HR.out.1.lt)
  have B0 := Aside.intro (HO.out.1.below H1.out HO.out.1.lt)
  have BB : Aside (Below w1.heap.size w1 w1.drew) := (Below.refl _ _).drew
  have kS := Aside.intro (And.intro (A0.out.drew.range) (And.intro (A0.out.drew.cell HR.out.2.1 0 _ rfl) (And.intro (A0.out.drew.cell HR.out.2.1 1 _ rfl) (And.intro (A0.out.drew.cell HR.out.2.1 2 _ rfl) (And.intro (A0.out.drew.cell HR.out.2.1 3 _ rfl) (And.intro (A0.out.drew.cell HR.out.2.1 4 _ rfl) (And.intro (A0.out.drew.cell HR.out.2.1 5 _ rfl) (And.intro (B0.out.drew.cell HO.out.2.1 0 _ rfl) (And.intro (B0.out.drew.cell HO.out.2.1 1 _ rfl) (And.intro (B0.out.drew.cell HO.out.2.1 2 _ rfl) (And.intro (B0.out.drew.cell HO.out.2.1 3 _ rfl) (And.intro (B0.out.drew.cell HO.out.2.1 4 _ rfl) (B0.out.drew.cell HO.out.2.1 5 _ rfl)))))))))))))
  have HW := hid (fun (u : World) (hb : Below w1.heap.size w1 u) => merged_any L O h u HR.out.2.1 HR.out.2.2.1 ((B0.out.below hb B0.out.lt).hd) HO.out.2.1 HO.out.2.2.1)
  refine until_region (fun w' => w'.rangeAt g 0 (L.map U) ∧ w'.cell? ⟨g, 133, none⟩ = some (.int .i64 sn) ∧ w'.cell? ⟨g, 134, none⟩ = some (.int .i64 su) ∧ w'.cell? ⟨g, 135, none⟩ = some (.int .i64 sd) ∧ w'.cell? ⟨g, 136, none⟩ = some (.int .i64 sm) ∧ w'.cell? ⟨g, 137, none⟩ = some (.int .i64 sp) ∧ w'.cell? ⟨g, 138, none⟩ = some (.int .i64 sa) ∧ w'.cell? ⟨h, 133, none⟩ = some (.int .i64 rn) ∧ w'.cell? ⟨h, 134, none⟩ = some (.int .i64 ru) ∧ w'.cell? ⟨h, 135, none⟩ = some (.int .i64 rd) ∧ w'.cell? ⟨h, 136, none⟩ = some (.int .i64 rm) ∧ w'.cell? ⟨h, 137, none⟩ = some (.int .i64 rp) ∧ w'.cell? ⟨h, 138, none⟩ = some (.int .i64 ra)) 18 (by kernel_rfl) ?_
  refine until_take (i := 0) [] (v := ?_) rfl (by kernel_rfl) (by kernel_rfl) (by kernel_rfl) (by kernel_rfl) (by kernel_rfl) (fun _ _ _ h => h) (Or.inl ⟨by rfl, ?_⟩) kS.out ?_
  rotate_left
  · intro u hSu
    try dsimp only at hSu
    first | (go_simp; done) | (go_simp; with_reducible rfl)
  try simp only [Act.put, List.setIfInBounds_toArray, List.set_cons_zero, List.set_cons_succ]
  refine until_take (i := 1) [2, 3, 4, 8] (v := ?_) rfl (by kernel_rfl) (by kernel_rfl) (by kernel_rfl) (by kernel_rfl) (by kernel_rfl) (fun _ _ _ h => h) (Or.inl ⟨by rfl, ?_⟩) kS.out ?_
  rotate_left
  · intro u hSu
    try dsimp only at hSu
    first | (go_simp; done) | (go_simp; with_reducible rfl)
  try simp only [Act.put, List.setIfInBounds_toArray, List.set_cons_zero, List.set_cons_succ]
  refine until_take (i := 2) [3, 4, 8] (v := ?_) rfl (by kernel_rfl) (by kernel_rfl) (by kernel_rfl) (by kernel_rfl) (by kernel_rfl) (fun _ _ _ h => h) (Or.inl ⟨by rfl, ?_⟩) kS.out ?_
  rotate_left
  · intro u hSu
    try dsimp only at hSu
    first | (go_simp; done) | (go_simp; with_reducible rfl)
  try simp only [Act.put, List.setIfInBounds_toArray, List.set_cons_zero, List.set_cons_succ]
  refine until_take (i := 3) [4, 8] (v := ?_) rfl (by kernel_rfl) (by kernel_rfl) (by kernel_rfl) (by kernel_rfl) (by kernel_rfl) (fun _ _ _ h => h) (Or.inl ⟨by rfl, ?_⟩) kS.out ?_
  rotate_left
  · intro u hSu
    try dsimp only at hSu
    first | (go_simp; done) | (go_simp; with_reducible rfl)
  try simp only [Act.put, List.setIfInBounds_toArray, List.set_cons_zero, List.set_cons_succ]
  refine until_take (i := 4) [8] rfl (by kernel_rfl) (by kernel_rfl) (by kernel_rfl) (by kernel_rfl) (by kernel_rfl) (fun _ _ _ h => h) (yieldsIf_load_mid (by rfl) _ _ rfl g 0 rfl (L.map U) _ (fun u h => h.1) hu rfl hsz) kS.out ?_
  try simp only [Act.put, List.setIfInBounds_toArray, List.set_cons_zero, List.set_cons_succ]
  refine until_take (i := 5) [6, 7, 8] (v := ?_) rfl (by kernel_rfl) (by kernel_rfl) (by kernel_rfl) (by kernel_rfl) (by kernel_rfl) (fun _ _ _ h => h) (Or.inl ⟨by rfl, ?_⟩) kS.out ?_
  rotate_left
  · intro u hSu
    try dsimp only at hSu
    first | (go_simp; done) | (go_simp; with_reducible rfl)
  try simp only [Act.put, List.setIfInBounds_toArray, List.set_cons_zero, List.set_cons_succ]
  refine until_take (i := 6) [7, 8] (v := ?_) rfl (by kernel_rfl) (by kernel_rfl) (by kernel_rfl) (by kernel_rfl) (by kernel_rfl) (fun _ _ _ h => h) (Or.inl ⟨by rfl, ?_⟩) kS.out ?_
  rotate_left
  · intro u hSu
    try dsimp only at hSu
    first | (go_simp; done) | (go_simp; with_reducible rfl)
  try simp only [Act.put, List.setIfInBounds_toArray, List.set_cons_zero, List.set_cons_succ]
  refine until_take (i := 7) [8] (v := ?_) rfl (by kernel_rfl) (by kernel_rfl) (by kernel_rfl) (by kernel_rfl) (by kernel_rfl) (fun _ _ _ h => h) (Or.inl ⟨by rfl, ?_⟩) kS.out ?_
  rotate_left
  · intro u hSu
    try dsimp only at hSu
    first | (go_simp; done) | (go_simp; with_reducible rfl)
  try simp only [Act.put, List.setIfInBounds_toArray, List.set_cons_zero, List.set_cons_succ]
  refine until_take (i := 9) [10, 11, 12, 17] (v := ?_) rfl (by kernel_rfl) (by kernel_rfl) (by kernel_rfl) (by kernel_rfl) (by kernel_rfl) (fun _ _ _ h => h) (Or.inl ⟨by rfl, ?_⟩) kS.out ?_
  rotate_left
  · intro u hSu
    try dsimp only at hSu
    first | (go_simp; done) | (go_simp; with_reducible rfl)
  try simp only [Act.put, List.setIfInBounds_toArray, List.set_cons_zero, List.set_cons_succ]
  refine until_take (i := 10) [11, 12, 17] (v := ?_) rfl (by kernel_rfl) (by kernel_rfl) (by kernel_rfl) (by kernel_rfl) (by kernel_rfl) (fun _ _ _ h => h) (Or.inl ⟨by rfl, ?_⟩) kS.out ?_
  rotate_left
  · intro u hSu
    try dsimp only at hSu
    first | (go_simp; done) | (go_simp; with_reducible rfl)
  try simp only [Act.put, List.setIfInBounds_toArray, List.set_cons_zero, List.set_cons_succ]
  refine until_take (i := 11) [12, 17] (v := ?_) rfl (by kernel_rfl) (by kernel_rfl) (by kernel_rfl) (by kernel_rfl) (by kernel_rfl) (fun _ _ _ h => h) (Or.inl ⟨by rfl, ?_⟩) kS.out ?_
  rotate_left
  · intro u hSu
    try dsimp only at hSu
    first | (go_simp; done) | (go_simp; with_reducible rfl)
  try simp only [Act.put, List.setIfInBounds_toArray, List.set_cons_zero, List.set_cons_succ]
  refine until_take (i := 12) [17] (v := ?_) rfl (by kernel_rfl) (by kernel_rfl) (by kernel_rfl) (by kernel_rfl) (by kernel_rfl) (fun _ _ _ h => h) (Or.inl ⟨by rfl, ?_⟩) kS.out ?_
  rotate_left
  · intro u hSu
    try dsimp only at hSu
    first | (go_simp; done) | (go_simp; with_reducible rfl)
  try simp only [Act.put, List.setIfInBounds_toArray, List.set_cons_zero, List.set_cons_succ]
  refine until_take (i := 13) [14, 15, 16, 17] (v := ?_) rfl (by kernel_rfl) (by kernel_rfl) (by kernel_rfl) (by kernel_rfl) (by kernel_rfl) (fun _ _ _ h => h) (Or.inl ⟨by rfl, ?_⟩) kS.out ?_
  rotate_left
  · intro u hSu
    try dsimp only at hSu
    first | (go_simp; done) | (go_simp; with_reducible rfl)
  try simp only [Act.put, List.setIfInBounds_toArray, List.set_cons_zero, List.set_cons_succ]
  refine until_take (i := 14) [15, 16, 17] (v := ?_) rfl (by kernel_rfl) (by kernel_rfl) (by kernel_rfl) (by kernel_rfl) (by kernel_rfl) (fun _ _ _ h => h) (Or.inl ⟨by rfl, ?_⟩) kS.out ?_
  rotate_left
  · intro u hSu
    try dsimp only at hSu
    first | (go_simp; done) | (go_simp; with_reducible rfl)
  try simp only [Act.put, List.setIfInBounds_toArray, List.set_cons_zero, List.set_cons_succ]
  refine until_take (i := 15) [16, 17] (v := ?_) rfl (by kernel_rfl) (by kernel_rfl) (by kernel_rfl) (by kernel_rfl) (by kernel_rfl) (fun _ _ _ h => h) (Or.inl ⟨by rfl, ?_⟩) kS.out ?_
  rotate_left
  · intro u hSu
    try dsimp only at hSu
    first | (go_simp; done) | (go_simp; with_reducible rfl)
  try simp only [Act.put, List.setIfInBounds_toArray, List.set_cons_zero, List.set_cons_succ]
  refine until_take (i := 16) [17] (v := ?_) rfl (by kernel_rfl) (by kernel_rfl) (by kernel_rfl) (by kernel_rfl) (by kernel_rfl) (fun _ _ _ h => h) (Or.inl ⟨by rfl, ?_⟩) kS.out ?_
  rotate_left
  · intro u hSu
    try dsimp only at hSu
    first | (go_simp; done) | (go_simp; with_reducible rfl)
  try simp only [Act.put, List.setIfInBounds_toArray, List.set_cons_zero, List.set_cons_succ]
  refine until_one (i := 8) (by kernel_rfl) rfl (fun K' hK => ?_)
  go_simp
  refine (HW.out _ BB.out).mono ?_
  rintro r u1 ⟨M, rfl, hMl, hMw, hMv, hb⟩
  have HM := Aside.intro (And.intro hMl (And.intro hMw hMv))
  have BB := Aside.intro (BB.out.trans (hb.mono BB.out.size))
  have A1 := A0.out.below BB.out A0.out.lt
  have Z1 := B0.out.below BB.out B0.out.lt
  have kS := Aside.intro (And.intro (A1.range) (And.intro (A1.cell HR.out.2.1 0 _ rfl) (And.intro (A1.cell HR.out.2.1 1 _ rfl) (And.intro (A1.cell HR.out.2.1 2 _ rfl) (And.intro (A1.cell HR.out.2.1 3 _ rfl) (And.intro (A1.cell HR.out.2.1 4 _ rfl) (And.intro (A1.cell HR.out.2.1 5 _ rfl) (And.intro (Z1.cell HO.out.2.1 0 _ rfl) (And.intro (Z1.cell HO.out.2.1 1 _ rfl) (And.intro (Z1.cell HO.out.2.1 2 _ rfl) (And.intro (Z1.cell HO.out.2.1 3 _ rfl) (And.intro (Z1.cell HO.out.2.1 4 _ rfl) (Z1.cell HO.out.2.1 5 _ rfl)))))))))))))
  clear hb A1 Z1 hMl hMw hMv
  dsimp only
  refine hK.out _ _ (fun _ => kS.out) ?_
  clear hK K'
  try simp only [Act.put, List.setIfInBounds_toArray, List.set_cons_zero, List.set_cons_succ]
  refine until_one (i := 17) (by kernel_rfl) rfl (fun K' hK => ?_)
  go_simp
  refine (HC.out _).mono ?_
  rintro r u2 ⟨rfl, hb⟩
  have BB := Aside.intro (BB.out.trans (hb.mono BB.out.size))
  have A1 := A0.out.below BB.out A0.out.lt
  have Z1 := B0.out.below BB.out B0.out.lt
  have kS := Aside.intro (And.intro (A1.range) (And.intro (A1.cell HR.out.2.1 0 _ rfl) (And.intro (A1.cell HR.out.2.1 1 _ rfl) (And.intro (A1.cell HR.out.2.1 2 _ rfl) (And.intro (A1.cell HR.out.2.1 3 _ rfl) (And.intro (A1.cell HR.out.2.1 4 _ rfl) (And.intro (A1.cell HR.out.2.1 5 _ rfl) (And.intro (Z1.cell HO.out.2.1 0 _ rfl) (And.intro (Z1.cell HO.out.2.1 1 _ rfl) (And.intro (Z1.cell HO.out.2.1 2 _ rfl) (And.intro (Z1.cell HO.out.2.1 3 _ rfl) (And.intro (Z1.cell HO.out.2.1 4 _ rfl) (Z1.cell HO.out.2.1 5 _ rfl)))))))))))))
  clear hb A1 Z1
  dsimp only
  refine hK.out _ _ (fun _ => kS.out) ?_
  clear hK K'
  try simp only [Act.put, List.setIfInBounds_toArray, List.set_cons_zero, List.set_cons_succ]
  refine until_one (i := 18) (by kernel_rfl) rfl (fun K' hK => ?_)
  go_simp
  have CB := become_any g L M V T ⟨sn, su, sd, sm, sp, sa⟩ ⟨tn, tu, td, tm, tp, ta⟩ u2 (A0.out.below BB.out A0.out.lt) HR.out.2.1 HR.out.2.2.1 HR.out.2.2.2.1 HR.out.2.2.2.2.1 HR.out.2.2.2.2.2 HM.out.2.1 HM.out.1 (by rw [HM.out.2.2, Int.natCast_emod, Int.natCast_add, HR.out.2.2.2.1, HO.out.2.2.2.1, ← Int.add_emod]) HO.out.2.2.2.2.1 HO.out.2.2.2.2.2
  rw [← HP.out] at CB
  simp only [Sp.agg] at CB
  refine CB.mono ?_
  rintro r u3 hD
  have HD3 := Aside.intro hD
  obtain ⟨rfl, _, _⟩ := hD
  clear CB
  dsimp only
  refine hK.out _ _ (fun h => absurd h (by decide)) ?_
  clear hK K'
  try simp only [Act.put, List.setIfInBounds_toArray, List.set_cons_zero, List.set_cons_succ]
  refine until_one (i := 19) (by kernel_rfl) rfl (fun K' hK => ?_)
  go_simp
  refine hK.out _ _ (fun h => absurd h (by decide)) ?_
  clear hK K'
  refine until_done (by kernel_rfl) ?_ _
  clear kS
  go_wp2
  go_ret
  obtain ⟨h1, h2, h3⟩ := HD3.out
  exact ⟨rfl, h2, ((But.refl g w).of_bel H1.out).trans (((But.refl g w1).of_bel BB.out).trans h3)⟩

theorem Merge7 (g h : Nat) (V T : Int) (s r : Sp) (w : World) (hA : Acc7 w g V s) (hB : Acc7 w h T r) (hs : s.ok) (hr : r.ok) :
    Calls Tryd.prog 13 #[.pointer (some ⟨g, 0, none⟩), .pointer (some ⟨h, 0, none⟩)] w (Did g w (mergeS V s T r)) := by
  obtain ⟨L, a1, a2, a3, a4, a5, a6⟩ := hA
  obtain ⟨O, b1, b2, b3, b4, b5, b6⟩ := hB
  exact merge_core g h L O V T s r w hs hr a6 a1 a2 a3 a4 a5 b6 b1 b2 b3 b4 b5
end Go.Proofs.YtmlmgfodkehenaaDoor

/- Rows of whole numbers, pick, exact. -/
namespace Go.Proofs.YtmlmgfodkehenaaDoor
open Go.RowKit
set_option linter.unusedVariables false
set_option maxRecDepth 20000
set_option linter.unusedSimpArgs false

def I7 (n : Nat) : Value := .int .i64 (n : Int)
theorem Tryd.info_int : (Tryd.prog.info? 3).map (fun i => (i.zero, i.size, i.bytes)) = some (some (.int .i64 0), 1, 8) := by kernel_rfl
theorem Tryd.desc_ints : Tryd.prog.underlying 34 = some (.slice 3) := by kernel_rfl
/-- A row of one's own. -/
def Ri (lo : Nat) (w : World) (v : Value) (R : List Nat) : Prop := w.ownsRow lo 3 1 v R.length (R.map I7)
theorem Ri.nil (lo : Nat) (w : World) : Ri lo w (.slice none 0 0) [] := World.ownsRow_nil w lo 3 1
theorem Ri.but {lo g : Nat} {w w' : World} {v : Value} {R : List Nat} (h : Ri lo w v R) (hb : But g w w') (hg : g < lo) : Ri lo w' v R := by
  refine ⟨h.1, ?_⟩
  rcases h.2 with hn | ⟨g', cap, cur, rfl, hlo, hgc, rest⟩
  · exact .inl hn
  · exact .inr ⟨g', cap, cur, rfl, hlo, (hb.block g' (Array.getElem?_eq_some_iff.1 hgc).1 (by omega)).trans hgc, rest⟩
theorem Ri.drew {lo : Nat} {w : World} {v : Value} {R : List Nat} (h : Ri lo w v R) : Ri lo w.drew v R := h
theorem Ri.alloc {lo : Nat} {w : World} {v : Value} {R : List Nat} (h : Ri lo w v R) (o : Obj) : Ri lo (w.alloc o) v R := World.ownsRow.alloc h o
theorem Ri.shape {lo : Nat} {w : World} {v : Value} {R : List Nat} (h : Ri lo w v R) (hR : 0 < R.length) : ∃ g cap, v = .slice (some ⟨g, 0, none⟩) R.length cap ∧ lo ≤ g ∧ g < w.heap.size ∧ R.length ≤ cap ∧ cap ≤ maxLen ∧ ∀ i, i < R.length → w.cell? ⟨g, i, none⟩ = some (.int .i64 ((R.getD i 0 : Nat) : Int)) := by
  have h' := h
  rcases h.2 with ⟨_, h0⟩ | ⟨g, cap, cur, rfl, hlo, hg, hn, hm, hs, ht⟩
  · omega
  · refine ⟨g, cap, rfl, hlo, (Array.getElem?_eq_some_iff.1 hg).1, hn, hm, fun i hi => ?_⟩
    have := World.ownsRow.cellAt h' i (by omega)
    rw [this, List.getElem?_map, List.getElem?_eq_getElem hi, List.getD_eq_getElem?_getD, List.getElem?_eq_getElem hi]
    rfl
/-- More put behind a row. -/
theorem append_ints (w : World) (lo : Nat) (v : Value) (xs src : List Nat) (ao : Option Addr) (m c : Nat) (ty : TypeId) (hown : Ri lo w v xs) (hm : m = src.length)
    (hR : src ≠ [] → ∃ b off, ao = some ⟨b, off, none⟩ ∧ ∀ i, i < src.length → w.cell? ⟨b, off + i, none⟩ = some (.int .i64 ((src.getD i 0 : Nat) : Int)))
    (hnn : ao ≠ none) (hbig : xs.length + m ≤ 100000) (hlo : lo ≤ w.heap.size) :
    ∃ v' w', (Builtin.append_ #[34, 34] ty #[v, .slice ao m c]).run Tryd.prog w = .ok v' w' ∧ Ri lo w' v' (xs ++ src) ∧ w.grownBy w' v.ownBlock := by
  obtain ⟨i0, hi, hz0, hz1, hz2⟩ := info_parts Tryd.info_int
  subst hm
  obtain ⟨a, rfl⟩ : ∃ a, ao = some a := by cases ao; exact absurd rfl hnn; exact ⟨_, rfl⟩
  obtain ⟨v', w', h1, h2, h3, _⟩ := run_append_own (P := Tryd.prog) w lo 34 ty 3 i0 (.int .i64 0) 1 8 Tryd.desc_ints hi hz0 hz1 hz2 rfl (by decide) v xs.length (xs.map I7) hown a src.length c (src.map I7) (by simp) (by
      intro j u hj
      have hj2 : j < src.length := by have := (List.getElem?_eq_some_iff.1 hj).1; simpa using this
      obtain ⟨b, off, e, hc⟩ := hR (by intro e; subst e; simp at hj2)
      cases e
      have hadd : (⟨b, off, none⟩ : Addr).add j = ⟨b, off + j, none⟩ := by unfold Addr.add; split <;> simp_all
      rw [hadd, hc j hj2]
      rw [List.getElem?_map, List.getElem?_eq_getElem hj2] at hj
      rw [List.getD_eq_getElem?_getD, List.getElem?_eq_getElem hj2]
      exact hj) (by
      intro u hu
      obtain ⟨x, _, rfl⟩ := List.mem_map.1 hu
      rfl) (by unfold maxLen; omega) (by omega) hlo
  exact ⟨v', w', h1, by unfold Ri; rw [List.map_append, List.length_append]; exact h2, h3⟩
theorem wpList_append_int {w : World} {ops : Array Oper} {rest : List Oper} {o : Oper} {a : Act} {Q : Exit → Act → World → Prop} (hgd : o.guard = none) (s x : Operand)
    (ho : o.op = .call { callee := .builtin .append, args := #[s, x], argTypes := #[34, 34] }) (v u : Value) (hs : a.eval s = v) (hx : a.eval x = u) (v' : Value) (w' : World)
    (hrun : (Builtin.append_ #[34, 34] o.type #[v, u]).run Tryd.prog w = .ok v' w') (h : wpList Tryd.prog ops Q rest (a.put o.dst v') w') : wpList Tryd.prog ops Q (o :: rest) a w := by
  refine wpList_plain hgd fun K hK => ?_
  unfold Oper.wp
  simp [execOp, ho, resolve, invoke, builtin, hs, hx, hrun, Result.andThen]
  exact hK _ _ h
theorem wp_append_int {w : World} {o : Oper} {a : Act} {K : Act → World → Prop} {Q : Exit → Act → World → Prop} (s x : Operand)
    (ho : o.op = .call { callee := .builtin .append, args := #[s, x], argTypes := #[34, 34] }) (v u : Value) (hs : a.eval s = v) (hx : a.eval x = u) (v' : Value) (w' : World)
    (hrun : (Builtin.append_ #[34, 34] o.type #[v, u]).run Tryd.prog w = .ok v' w') (h : K (a.put o.dst v') w') : Oper.wp Tryd.prog o a w K Q := by
  unfold Oper.wp
  simp [execOp, ho, resolve, invoke, builtin, hs, hx, hrun, Result.andThen]
  exact h
theorem Acc7.grown {w w' : World} {g : Nat} {V : Int} {s : Sp} {row : Option Nat} (h : Acc7 w g V s) (hg : w.grownBy w' row) (hne : some g ≠ row) : Acc7 w' g V s := by
  obtain ⟨L, h1, h2, h3, h4, h5, h6⟩ := h
  refine ⟨L, h1, h2, h3, h4, h5, ?_⟩
  unfold Ac Bl at h6 ⊢
  rw [hg.block g (Array.getElem?_eq_some_iff.1 h6).1 hne]; exact h6
theorem Acc7.drew7 {w : World} {g : Nat} {V : Int} {s : Sp} (h : Acc7 w g V s) : Acc7 w.drew g V s := by
  obtain ⟨L, h1, h2, h3, h4, h5, h6⟩ := h; exact ⟨L, h1, h2, h3, h4, h5, h6.drew⟩

set_option maxHeartbeats 1000000 in
theorem pick7 (c : Int) (m : Nat) (w : World) (h0 : -9223372036854775808 ≤ c) (h1 : c ≤ 9223372036854775807) (hm : 0 < m) (hm2 : m ≤ 1000000) :
    Calls Tryd.prog 12 #[.int .i64 c, .int .i64 (m : Nat)] w fun r w' => ∃ p : Nat, r = .returned (.int .i64 (p : Nat)) ∧ p < m ∧ w' = w := by
  by_cases h : c < 0
  · go_enter Tryd.func12, Tryd.ntmps12
    go_wp2
    have e1 : (-(c + 1)).tmod (m : Int) = -(c + 1) % (m : Int) := Int.tmod_eq_emod_of_nonneg (by omega)
    rw [Int.neg_tmod] at e1
    have e2 := Int.emod_nonneg (-(c + 1)) (b := (m : Int)) (by omega)
    have e3 := Int.emod_lt_of_pos (-(c + 1)) (b := (m : Int)) (by omega)
    obtain ⟨p, hp⟩ : ∃ p : Nat, (p : Int) = -(c + 1) % (m : Int) := ⟨(-(c + 1) % (m : Int)).toNat, by omega⟩
    rw [e1, ← hp]
    exact bodyPost_ret (v := .int .i64 (p : Nat)) (by simp [results, Tryd.results12, go_sem]) rfl ⟨p, rfl, by omega, rfl⟩
  · go_enter Tryd.func12, Tryd.ntmps12
    go_wp2
    have e2 := Int.emod_nonneg c (b := (m : Int)) (by omega)
    have e3 := Int.emod_lt_of_pos c (b := (m : Int)) (by omega)
    obtain ⟨p, hp⟩ : ∃ p : Nat, (p : Int) = c % (m : Int) := ⟨(c % (m : Int)).toNat, by omega⟩
    rw [← hp]
    exact bodyPost_ret (v := .int .i64 (p : Nat)) (by simp [results, Tryd.results12, go_sem]) rfl ⟨p, rfl, by omega, rfl⟩
section
attribute [local go_sem] B.f64bits B.f64frombits
set_option maxHeartbeats 1000000 in
theorem exact7 (x : Nat) (w : World) : Calls Tryd.prog 16 #[.float .f64 x, .float .f64 x] w fun r w' => r = .returned (.bool true) ∧ w' = w := by
  go_enter Tryd.func16, Tryd.ntmps16
  go_wp2
  go_ret
  exact ⟨rfl, rfl⟩
end
/-- Whole numbers that lie in memory below B. -/
def Is7 (B : Nat) (w : World) (ao : Option Addr) (xs : List Int) : Prop :=
  xs ≠ [] → ∃ b off, b < B ∧ ao = some ⟨b, off, none⟩ ∧ ∀ i, i < xs.length → w.cell? ⟨b, off + i, none⟩ = some (.int .i64 (xs.getD i 0))
theorem Is7.at {B : Nat} {w w' : World} {ao : Option Addr} {xs : List Int} (h : Is7 B w ao xs) (hb : Below B w w') (i : Nat) (hi : i < xs.length) : ∃ b off, ao = some ⟨b, off, none⟩ ∧ w'.cell? ⟨b, off + i, none⟩ = some (.int .i64 (xs.getD i 0)) := by
  obtain ⟨b, off, h1, h2, h3⟩ := h (by intro e; subst e; simp at hi)
  exact ⟨b, off, h2, (hb.cell (p := ⟨b, off + i, none⟩) h1).trans (h3 i hi)⟩
def I64 (xs : List Int) : Prop := ∀ i, -9223372036854775808 ≤ xs.getD i 0 ∧ xs.getD i 0 ≤ 9223372036854775807
theorem range_down : ∀ n, (List.range n).Perm (down n)
  | 0 => List.Perm.refl _
  | n + 1 => by
    rw [List.range_succ]
    exact (List.perm_append_comm).trans (by simp only [List.cons_append, List.nil_append, down]; exact (range_down n).cons n)
theorem Pm.start (n : Nat) : Pm n [] [] (List.range n) := ⟨by simp only [List.nil_append]; exact range_down n⟩
end Go.Proofs.YtmlmgfodkehenaaDoor

