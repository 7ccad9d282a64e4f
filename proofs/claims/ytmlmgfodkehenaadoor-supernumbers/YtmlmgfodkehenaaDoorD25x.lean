/- dyad's Round: what it answers. -/
import Derived.Test.YtmlmgfodkehenaaDoorD19x
import Derived.Test.YtmlmgfodkehenaaDoorS9x
import Derived.Test.YtmlmgfodkehenaaDoorP1x
import Derived.Test.YtmlmgfodkehenaaDoorBIeeex
namespace Go.Proofs.YtmlmgfodkehenaaDoor
open Go.RowKit
set_option linter.unusedVariables false
set_option maxRecDepth 20000
set_option linter.unusedSimpArgs false

/-- The bits without a sign. -/
def rndK (mode : Int) (n : Bool) (X : Nat) (e : Int) : Nat :=
  let p := plc 53 (-1074) 1024 X e
  (p.2.1 + 1074).toNat * 4503599627370496 + (if p.2.2.1 then p.1 else if outS mode p.1 p.2.2.2 n then p.1 + 1 else p.1)
def rndS (o : Option (Bool × Nat × Int)) (mode : Int) : Nat × Int :=
  if mode < 0 ∨ 4 < mode then (0, 1)
  else match o with
    | none => (0, 2)
    | some (n, X, e) => if X = 0 then (0, 0) else (rndK mode n X e + (if n then 9223372036854775808 else 0), 0)

theorem plc_mid (X : Nat) (e : Int) : (plc 53 (-1074) 1024 X e).2.2.2 = -1 ∨ (plc 53 (-1074) 1024 X e).2.2.2 = 0 ∨ (plc 53 (-1074) 1024 X e).2.2.2 = 1 := by
  unfold plc
  split
  · simp
  · simp only
    split
    · simp
    · simp only
      split
      · simp
      · split <;> simp

theorem ldexp_word (F : Nat) (ex : Int) (hF : F ≤ 9007199254740992) (h0 : -1074 ≤ ex) (h1 : ex ≤ 971) (hn : ex = -1074 ∨ 4503599627370496 ≤ F) :
    ∃ cw, floatOfInt .f64 (F : Int) = cw ∧ ∀ u, Calls Tryd.prog 24 #[.float .f64 cw, .int .i64 ex] u fun r w' => r = .returned (.float .f64 ((ex + 1074).toNat * 4503599627370496 + F)) ∧ w' = u := by
  by_cases hz : F = 0
  · subst hz
    obtain rfl : ex = -1074 := by omega
    exact ⟨0, by decide, fun u => B.Ldexp_nought _ u⟩
  · obtain ⟨e, g, hw⟩ := B.whole_of F (by omega) hF
    exact ⟨_, B.ofInt_whole F e g hw, fun u => B.Ldexp_any F e g ex u hw (by omega) hF h0 h1 hn⟩

theorem copy_word (K : Nat) (hK : K ≤ 9218868437227405312) (u : World) : Calls Tryd.prog 71 #[.float .f64 K, .float .f64 13830554455654793216] u fun r w' => r = .returned (.float .f64 (K + 9223372036854775808)) ∧ w' = u := by
  have h := B.copysign_neg (K / 4503599627370496) (K % 4503599627370496) (by omega) (by omega) u
  have e1 : B.bw false (K / 4503599627370496) (K % 4503599627370496) = K := by unfold B.bw; simp; omega
  have e2 : B.bw true (K / 4503599627370496) (K % 4503599627370496) = K + 9223372036854775808 := by unfold B.bw; simp; omega
  rw [e1, e2] at h
  exact h

theorem round_any {w : World} {a : Option Addr} {l c : Nat} {xs : List Nat} (hA : Arg w a l c xs) (hT : Tab w) (n : Bool) (e mode : Int) (he0 : -9223372036854775808 ≤ e) (he1 : e ≤ 9223372036854775807) :
    Calls Tryd.prog 63 #[.agg #[.bool n, .slice a l c, .int .i64 e], .int .i64 mode, .agg #[.int .i64 53, .int .i64 (-1074), .int .i64 1024]] w fun r w' => r = .returned (.tuple #[.float .f64 (rndS (mkS n (val xs) e) mode).1, .int .i64 (rndS (mkS n (val xs) e) mode).2]) ∧ Below w.heap.size w w' := by
  unfold rndS
  by_cases hm : mode < 0 ∨ 4 < mode
  · rw [if_pos hm]; exact round_mode n a l c e mode w hm
  · rw [if_neg hm]
    have HF : Hid (∀ u, Below w.heap.size w u → Calls Tryd.prog 83 #[.agg #[.bool n, .slice a l c, .int .i64 e]] u fun r w' => DAns u.heap.size w' r (mkS n (val xs) e) ∧ Below u.heap.size u w') := fun u hu => form_any (hA.below hu) (hT.belows hu) n e he0 he1
    cases ho : mkS n (val xs) e with
    | none =>
      rw [ho] at HF
      exact round_err n e mode false 0 0 2 (by rw [ws_zero]; simp) (by omega) (by omega) rfl HF
    | some d =>
      obtain ⟨n1, X, e1⟩ := d
      rw [ho] at HF
      have FX := mkS_frm ho
      simp only
      by_cases hX : X = 0
      · rw [if_pos hX]
        exact round_none n e mode n1 X e1 ((ws_len_zero X).2 hX) (by omega) (by omega) HF
      · rw [if_neg hX]
        have pf := plc_facts X e1 hX FX.down FX.up
        have pm := plc_mid X e1
        have HP : ∀ (u : World) (p : Option Addr) (q : Nat), Arg u p (ws X).length q (ws X) → Calls Tryd.prog 84 #[.agg #[.bool n1, .slice p (ws X).length q, .int .i64 e1], .agg #[.int .i64 53, .int .i64 (-1074), .int .i64 1024]] u fun r w' => r = .returned (.agg #[.int .u64 ((plc 53 (-1074) 1024 X e1).1 : Nat), .int .i64 (plc 53 (-1074) 1024 X e1).2.1, .bool (plc 53 (-1074) 1024 X e1).2.2.1, .int .i64 (plc 53 (-1074) 1024 X e1).2.2.2]) ∧ Below u.heap.size u w' := fun u p q hA => placed_any hA n1 e1 FX.down FX.up hX FX.size
        unfold rndK
        simp only
        generalize plc 53 (-1074) 1024 X e1 = P at pf pm HP ⊢
        obtain ⟨F, ex, t, mid⟩ := P
        simp only at pf pm HP ⊢
        obtain ⟨p1, p2, p3, p4⟩ := pf
        have HG : ∀ u, Calls Tryd.prog 85 #[.agg #[.int .u64 (F : Nat), .int .i64 ex, .bool false, .int .i64 mid], .int .i64 mode, .bool n1] u fun r w' => r = .returned (.bool (outS mode F mid n1)) ∧ Below u.heap.size u w' := fun u => goesOut_any F ex false mid mode n1 u (by omega) pm (by omega) (by omega)
        have lX := frm_len FX
        cases t with
        | true =>
          simp only [if_true]
          obtain ⟨cw, ecv, HD⟩ := ldexp_word F ex (by omega) p2 p3 p4
          cases n1 with
          | false =>
            simp only [Bool.false_eq_true, if_false, Nat.add_zero]
            exact round_tf n e mode X e1 lX (len_ne hX) (by omega) (by omega) F cw _ 0 ex mid p1 ecv HF (hid HP) (hid HD)
          | true =>
            simp only [if_true]
            exact round_tt n e mode X e1 lX (len_ne hX) (by omega) (by omega) F cw _ _ ex mid p1 ecv HF (hid HP) (hid HD) (hid fun u => copy_word _ (by omega) u)
        | false =>
          simp only [Bool.false_eq_true, if_false]
          cases hob : outS mode F mid n1 with
          | false =>
            rw [hob] at HG
            simp only [Bool.false_eq_true, if_false]
            obtain ⟨cw, ecv, HD⟩ := ldexp_word F ex (by omega) p2 p3 p4
            cases n1 with
            | false =>
              simp only [Bool.false_eq_true, if_false, Nat.add_zero]
              exact round_fff n e mode X e1 lX (len_ne hX) (by omega) (by omega) F cw _ 0 ex mid p1 ecv HF (hid HP) (hid HG) (hid HD)
            | true =>
              simp only [if_true]
              exact round_fft n e mode X e1 lX (len_ne hX) (by omega) (by omega) F cw _ _ ex mid p1 ecv HF (hid HP) (hid HG) (hid HD) (hid fun u => copy_word _ (by omega) u)
          | true =>
            rw [hob] at HG
            simp only [if_true]
            obtain ⟨cw, ecv, HD⟩ := ldexp_word (F + 1) ex (by omega) p2 p3 (by omega)
            cases n1 with
            | false =>
              simp only [Bool.false_eq_true, if_false, Nat.add_zero]
              exact round_ftf n e mode X e1 lX (len_ne hX) (by omega) (by omega) F cw _ 0 ex mid p1 (by simpa using ecv) HF (hid HP) (hid HG) (hid HD)
            | true =>
              simp only [if_true]
              exact round_ftt n e mode X e1 lX (len_ne hX) (by omega) (by omega) F cw _ _ ex mid p1 (by simpa using ecv) HF (hid HP) (hid HG) (hid HD) (hid fun u => copy_word _ (by omega) u)

set_option maxHeartbeats 1000000 in
theorem Round_any {w : World} {a : Option Addr} {l c : Nat} {xs : List Nat} (hA : Arg w a l c xs) (hT : Tab w) (n : Bool) (e mode : Int) (he0 : -9223372036854775808 ≤ e) (he1 : e ≤ 9223372036854775807) :
    Calls Tryd.prog 34 #[.agg #[.bool n, .slice a l c, .int .i64 e], .int .i64 mode] w fun r w' => r = .returned (.tuple #[.float .f64 (rndS (mkS n (val xs) e) mode).1, .int .i64 (rndS (mkS n (val xs) e) mode).2]) ∧ Below w.heap.size w w' := by
  have hb0 := below_alloc w (.cells #[.bool n, .slice a l c, .int .i64 e] 28)
  have H := hid (round_any (hA.below hb0) (hT.belows hb0) n e mode he0 he1)
  have S0 := Aside.intro hb0
  obtain ⟨⟨K, er⟩, hK⟩ : ∃ K, rndS (mkS n (val xs) e) mode = K := ⟨_, rfl⟩
  rw [hK] at H ⊢
  simp only at H ⊢
  clear hA hT hb0 hK
  go_enter Tryd.func34, Tryd.ntmps34
  go_wp2_with fail
  refine (Calls.mono H.out) ?_
  rintro r u1 ⟨rfl, hb⟩
  have S1 := Aside.intro hb
  clear hb
  go_wp2
  go_ret2
  exact ⟨rfl, S0.out.trans (S1.out.mono (by simp))⟩
end Go.Proofs.YtmlmgfodkehenaaDoor

/- Round. -/
namespace Go.Proofs.YtmlmgfodkehenaaDoor
open Go.RowKit
set_option linter.unusedVariables false
set_option maxRecDepth 20000
set_option linter.unusedSimpArgs false

/-- What Round answers, where nothing is refused. -/
def rd7 (V : Int) (s : Sp) (mode a b : Int) : Nat × Int :=
  if (ahd V s mode a b).2.1 then ((ahd V s mode a b).1, 0) else rndS (mkS (dN (exV V)) (dX (exV V)) (dE (exV V))) mode
theorem ahd_er (V : Int) (s : Sp) (mode a b : Int) : (ahd V s mode a b).2.2 = 0 := by
  unfold ahd
  split
  · rfl
  · split <;> rfl
theorem dX_small {V : Int} (h0 : -(HB : Int) < V) (h1 : V < (HB : Int)) : (ws (dX (exV V))).length ≤ 133 := by
  refine (ws_len_le _ 133).2 ?_
  have e : pw 133 = PB := by unfold PB; rfl
  rw [e]
  have hp := PB_HB
  have hq := HB_pos
  refine Nat.lt_of_le_of_lt (m := V.natAbs) ?_ (by omega)
  unfold exV mkS dX
  split
  · exact Nat.zero_le _
  · split
    · exact Nat.zero_le _
    · exact Nat.div_le_self _ _
theorem dE_small (V : Int) : -9223372036854775808 ≤ dE (exV V) ∧ dE (exV V) ≤ 9223372036854775807 := by
  unfold exV mkS dE
  split
  · simp
  · split
    · simp
    · next h => simp only [Option.getD_some]; omega

set_option maxHeartbeats 2000000 in
theorem Round7 (g : Nat) (V : Int) (s : Sp) (mode a b : Int) (w : World) (hA : Acc7 w g V s) (hs : s.ok) (hT : Tab w) (hm0 : 0 ≤ mode) (hm1 : mode ≤ 4) (hab : may a b = true) (ha : a ≠ 2) (hb : b ≠ 2) :
    Calls Tryd.prog 15 #[.pointer (some ⟨g, 0, none⟩), .int .i64 mode, .agg #[.int .i64 a, .int .i64 b]] w fun r w' => r = .returned (.tuple #[.float .f64 (rd7 V s mode a b).1, .int .i64 (rd7 V s mode a b).2]) ∧ Below w.heap.size w w' := by
  obtain ⟨⟨X, er⟩, hX⟩ : ∃ X, X = rd7 V s mode a b := ⟨_, rfl⟩
  rw [← hX]
  simp only
  have hb0 := bel_alloc w (Obj.cells #[.int .i64 a, .int .i64 b] 44)
  have HH := hid (ahead7 g V s mode a b _ (hA.bel hb0) hs hm0 hm1 hab ha hb)
  have her := ahd_er V s mode a b
  unfold rd7 at hX
  obtain ⟨⟨ax, at', ae⟩, hAh⟩ : ∃ Y, Y = ahd V s mode a b := ⟨_, rfl⟩
  rw [← hAh] at HH her hX
  simp only at HH her hX
  subst her
  have HX := Aside.intro hX
  have HA := Aside.intro (And.intro hA (And.intro hT hb0))
  clear hA hT hb0 hX hAh hs hab ha hb
  go_enter Tryd.func15, Tryd.ntmps15
  go_wp2_with fail
  refine HH.out.mono ?_
  rintro r w1 ⟨rfl, hb1⟩
  have B1 := Aside.intro (HA.out.2.2.trans (hb1.mono HA.out.2.2.size))
  clear hb1
  cases at'
  · go_wp2_with fail
    refine (Exact7 g V s w1 (HA.out.1.bel B1.out) (HA.out.2.1.belows B1.out)).mono ?_
    rintro r w2 ⟨v, rfl, hN, hb2⟩
    obtain ⟨L, _, _, _, h0, h1, _⟩ := HA.out.1
    obtain ⟨ad, c, rfl, AV⟩ := hN.arg (Nat.le_trans (dX_small h0 h1) (by decide))
    have HR := hid (Round_any AV (HA.out.2.1.belows (B1.out.trans (hb2.mono B1.out.size))) (dN (exV V)) (dE (exV V)) mode (dE_small V).1 (dE_small V).2)
    rw [val_ws] at HR
    have HX2 := HX.out
    rw [if_neg (by decide)] at HX2
    rw [← HX2] at HR
    simp only at HR
    have B2 := Aside.intro (B1.out.trans (hb2.mono B1.out.size))
    clear hN hb2 AV h0 h1 HX2
    go_wp2_with fail
    refine HR.out.mono ?_
    rintro r w3 ⟨rfl, hb3⟩
    have B3 := Aside.intro hb3
    clear hb3
    go_wp2
    refine bodyPost_ret (v := .tuple #[.float .f64 X, .int .i64 er]) (by simp [results, Tryd.results15, go_sem]) rfl ?_
    exact ⟨rfl, B2.out.trans (B3.out.mono B2.out.size)⟩
  · go_wp2
    have HX2 := HX.out
    rw [if_pos trivial] at HX2
    cases HX2
    refine bodyPost_ret (v := .tuple #[.float .f64 X, .int .i64 0]) (by simp [results, Tryd.results15, go_sem]) rfl ?_
    exact ⟨rfl, B1.out⟩
end Go.Proofs.YtmlmgfodkehenaaDoor

/- New, Specials, Copy, Exact. -/
namespace Go.Proofs.YtmlmgfodkehenaaDoor
open Go.RowKit
set_option linter.unusedVariables false
set_option maxRecDepth 20000
set_option linter.unusedSimpArgs false

theorem Tryd.zero_acc : Tryd.zeroCells59 = ((List.replicate 133 0).map U ++ Sp.cells ⟨0, 0, 0, 0, 0, 0⟩).toArray := by kernel_rfl
theorem Tryd.size_acc : (Tryd.prog.info? 59).map (·.size) = some 139 := by kernel_rfl
theorem zero_acc7 {w : World} {g : Nat} (h : Bl w g 59 ((List.replicate 133 0).map U ++ Sp.cells ⟨0, 0, 0, 0, 0, 0⟩)) : Acc7 w g 0 ⟨0, 0, 0, 0, 0, 0⟩ :=
  ⟨List.replicate 133 0, by simp, Wf.zeros 133, by rw [val_zeros]; simp, by have := HB_pos; omega, by have := HB_pos; omega, h⟩

set_option maxHeartbeats 1000000 in
theorem New7 (w : World) : Calls Tryd.prog 8 #[] w fun r w' => r = .returned (.pointer (some ⟨w.heap.size, 0, none⟩)) ∧ Acc7 w' w.heap.size 0 ⟨0, 0, 0, 0, 0, 0⟩ ∧ Below w.heap.size w w' := by
  go_enter Tryd.func8, Tryd.ntmps8
  go_wp2
  go_ret
  refine ⟨rfl, ?_, bel_alloc _ _⟩
  rw [Tryd.zero_acc]
  exact zero_acc7 (Bl.new _ _ _)

set_option maxHeartbeats 1000000 in
theorem Specials7 (g : Nat) (V : Int) (s : Sp) (w : World) (hA : Acc7 w g V s) : Calls Tryd.prog 10 #[.pointer (some ⟨g, 0, none⟩)] w fun r w' => r = .returned s.agg ∧ Below w.heap.size w w' := by
  obtain ⟨L, a1, _, _, _, _, a6⟩ := hA
  obtain ⟨sn, su, sd, sm, sp, sa⟩ := s
  have hlt := a6.lt
  have hne : g ≠ w.heap.size := Nat.ne_of_lt hlt
  have c0 := a6.cell a1 0 _ rfl
  have c1 := a6.cell a1 1 _ rfl
  have c2 := a6.cell a1 2 _ rfl
  have c3 := a6.cell a1 3 _ rfl
  have c4 := a6.cell a1 4 _ rfl
  have c5 := a6.cell a1 5 _ rfl
  clear a1 a6
  go_enter Tryd.func10, Tryd.ntmps10
  go_wp2
  exact bodyPost_ret (v := Sp.agg ⟨sn, su, sd, sm, sp, sa⟩) (by simp [results, Tryd.results10, go_sem, Sp.agg]) rfl ⟨rfl, bel_alloc _ _⟩

set_option maxHeartbeats 1000000 in
theorem Copy7 (g : Nat) (V : Int) (s : Sp) (w : World) (hA : Acc7 w g V s) : Calls Tryd.prog 18 #[.pointer (some ⟨g, 0, none⟩)] w fun r w' => r = .returned (.pointer (some ⟨w.heap.size, 0, none⟩)) ∧ Acc7 w' w.heap.size V s ∧ Below w.heap.size w w' := by
  obtain ⟨L, a1, a2, a3, a4, a5, a6⟩ := hA
  have HA := Aside.intro (And.intro a1 (And.intro a2 (And.intro a3 (And.intro a4 (And.intro a5 a6)))))
  have HO : Aside ((L.map U ++ s.cells).toArray.all (·.oneCell') = true ∧ (L.map U ++ s.cells).length = 139) := by
    refine ⟨all_oneCell_toArray fun v hv => ?_, by simp [a1, Sp.cells]⟩
    rcases List.mem_append.1 hv with h | h
    · exact oneCell_Ul L v h
    · simp only [Sp.cells, List.mem_cons, List.not_mem_nil, or_false] at h
      rcases h with rfl | rfl | rfl | rfl | rfl | rfl <;> rfl
  obtain ⟨fs, hfs⟩ : ∃ d : TypeDesc, Tryd.prog.underlying 59 = some d ∧ d.isRow = true := by
    have h : (Tryd.prog.underlying 59).any (·.isRow) = true := by kernel_rfl
    obtain ⟨d, h1, h2⟩ := (Option.any_eq_true _ _).1 h
    exact ⟨d, h1, h2⟩
  have HF := Aside.intro hfs
  have HG : Aside (w.rangeAt g 0 (L.map U ++ s.cells)) := Bl.range a6 0 _ (fun j v hv => by rw [Nat.zero_add]; exact hv)
  have HS : Aside ((Tryd.prog.info? 59).map (·.size) = some (L.map U ++ s.cells).length) := by refine Aside.intro ?_; rw [Tryd.size_acc, HO.out.2]
  have HS2 : Aside ((Tryd.prog.info? 59).map (·.size) = some (L.map U ++ s.cells).toArray.size) := by refine Aside.intro ?_; rw [Tryd.size_acc, List.size_toArray, HO.out.2]
  have Z : Aside (Bl (w.alloc (Obj.cells Tryd.zeroCells59 59)) w.heap.size 59 ((List.replicate 133 0).map U ++ Sp.cells ⟨0, 0, 0, 0, 0, 0⟩)) := by
    rw [Tryd.zero_acc]; exact Bl.new _ _ _
  clear a1 a2 a3 a4 a5 a6 hfs
  go_enter Tryd.func18, Tryd.ntmps18
  go_wp2_with (first
    | ((with_reducible refine wpList_load_mid (P := Tryd.prog) rfl 59 (.tmp 5) rfl g 0 rfl (L.map U ++ s.cells) fs HG.out HF.out.1 HF.out.2 HS.out ?_))
    | (with_reducible refine wpList_store_mid (P := Tryd.prog) rfl 59 (.tmp 3) (.tmp 6) rfl w.heap.size 0 (L.map U ++ s.cells).toArray rfl rfl (Z.out.there 0 _ (by rw [List.size_toArray, HO.out.2]; simp [Sp.cells])) HS2.out HO.out.1 ?_))
  go_ret
  obtain ⟨a1, a2, a3, a4, a5, a6⟩ := HA.out
  have hz := Z.out.setAll (vs := L.map U ++ s.cells) (by rw [HO.out.2]; simp [Sp.cells])
  exact ⟨rfl, ⟨L, a1, a2, a3, a4, a5, hz⟩, But.below (bel_alloc w _) (But.setCells _ _ (But.refl _ _)) (by simp) (Nat.le_refl _)⟩
end Go.Proofs.YtmlmgfodkehenaaDoor

/- live: the law's first look. -/
namespace Go.Proofs.YtmlmgfodkehenaaDoor
open Go.RowKit
open Go.Proofs.YtmlmgfodkehenaaDoor.B (bw)
set_option linter.unusedVariables false
set_option maxRecDepth 20000
set_option linter.unusedSimpArgs false

theorem ldexp_pow (e E : Nat) (x : Int) (w : World) (he0 : 0 < e) (he1 : e < 2047) (hE0 : 0 < E) (hE : E < 2047) (hx0 : -3000 ≤ x) (hx1 : x ≤ 3000) (hxE : (E : Int) = x + e) :
    Calls Tryd.prog 49 #[.float .f64 (B.bw false e 0), .int .i64 x] w fun r w' => r = .returned (.float .f64 (B.bw false E 0)) ∧ w' = w := by
  have hb : B.bw false e 0 = e * 4503599627370496 + 0 := by unfold B.bw; simp
  have hd : B.bw false E 0 = E * 4503599627370496 + 0 := by unfold B.bw; simp
  exact B.ldexp_norm (B.bw false e 0) e 0 (B.bw false E 0) x (x + ((e : Int) - 1023)) ((E : Int) * 4503599627370496) w (by rw [hb]; omega) hx0 hx1 he0 he1 (by omega)
    (by rw [B.eq_zero false e 0 (by omega) (by omega)]; simp; omega) (hid fun u => B.isInf0 e 0 (by omega) (by omega) u) (hid fun u => B.nan_no e 0 (by omega) (by omega) u) (hid fun u => B.normalize_any e 0 he0 (by omega) (by omega) u)
    (B.bw_exp false e 0 (by omega) (by omega)) (B.mask_clear e 0 (by omega) (by omega)) rfl (by omega) (by omega) (by omega) (by omega) (by omega) (B.join_exp E 0 (by omega) (by omega)) (B.mul_one _ (by rw [hd]; omega) (by rw [hd]; omega) _)
set_option maxHeartbeats 1000000 in
theorem Ldexp1000 (w : World) : Calls Tryd.prog 24 #[.float .f64 4607182418800017408, .int .i64 1000] w fun r w' => r = .returned (.float .f64 9110782046170513408) ∧ w' = w := by
  have H := hid (ldexp_pow 1023 2023 1000 w (by decide) (by decide) (by decide) (by decide) (by decide) (by decide) (by decide))
  rw [show B.bw false 1023 0 = 4607182418800017408 by decide, show B.bw false 2023 0 = 9110782046170513408 by decide] at H
  go_enter Tryd.func24, Tryd.ntmps24
  go_wp2_with fail
  refine H.out.mono ?_
  rintro r w1 ⟨rfl, rfl⟩
  go_wp2
  go_ret
  exact ⟨rfl, rfl⟩

theorem pK_one : pK 4607182418800017408 4607182418800017408 = 0 := by decide
theorem pK_up : pK 9110782046170513408 4607182418800017408 = 0 := by decide
theorem pK_dn : pK 18334154083025289216 4607182418800017408 = 0 := by decide
theorem pT_pow (x : Nat) (ng : Bool) (j k : Nat) (h : pK x 4607182418800017408 = 0) (hf : frW x = 2 ^ 52) (hn : (!ngW x == ngW 4607182418800017408) = ng) (hj : (xpW x + xpW 4607182418800017408 + 2148).toNat = j) (hk : k = 104 + j) : pT x 4607182418800017408 = sgn ng (2 ^ k) := by
  unfold pT
  rw [pv7_yes h, hf, show frW 4607182418800017408 = 2 ^ 52 by decide, hn, hj, hk, ← Nat.pow_add, ← Nat.pow_add]
theorem pT_one (k : Nat) (hk : k = 2148) : pT 4607182418800017408 4607182418800017408 = ((2 ^ k : Nat) : Int) := by
  obtain ⟨j, hj⟩ : ∃ j, j = 2044 := ⟨_, rfl⟩
  rw [pT_pow 4607182418800017408 false j k pK_one (by decide) (by decide) (by rw [hj]; decide) (by omega)]
  rfl
theorem pT_up (k : Nat) (hk : k = 3148) : pT 9110782046170513408 4607182418800017408 = ((2 ^ k : Nat) : Int) := by
  obtain ⟨j, hj⟩ : ∃ j, j = 3044 := ⟨_, rfl⟩
  rw [pT_pow 9110782046170513408 false j k pK_up (by decide) (by decide) (by rw [hj]; decide) (by omega)]
  rfl
theorem pT_dn (k : Nat) (hk : k = 3148) : pT 18334154083025289216 4607182418800017408 = -((2 ^ k : Nat) : Int) := by
  obtain ⟨j, hj⟩ : ∃ j, j = 3044 := ⟨_, rfl⟩
  rw [pT_pow 18334154083025289216 true j k pK_dn (by decide) (by decide) (by rw [hj]; decide) (by omega)]
  rfl
theorem pow_HB (k : Nat) (hk : k < 4237) : ((2 ^ k : Nat) : Int) * 4 ≤ (HB : Int) := by
  obtain ⟨j, hj⟩ : ∃ j, j = 4238 := ⟨_, rfl⟩
  rw [HB_two j hj]
  have h : 2 ^ (k + 2) ≤ 2 ^ j := Nat.pow_le_pow_right (by decide) (by omega)
  rw [Nat.pow_succ, Nat.pow_succ] at h
  omega
theorem bl_double (X : Nat) (h : X ≠ 0) : bl (2 * X) = bl X + 1 := by
  have := bl_mul_pow 1 X h
  rw [Nat.pow_one] at this
  omega
theorem lo_double (X : Nat) (h : X ≠ 0) : lo (2 * X) = lo X + 1 := by
  obtain ⟨m, hm⟩ := lo_form X h
  obtain ⟨k, hk⟩ : ∃ k, lo X = k := ⟨_, rfl⟩
  rw [hk] at hm ⊢
  have e : 2 * X = 2 ^ (k + 1) * (2 * m + 1) := by rw [hm, Nat.pow_succ]; grind
  rw [e]
  exact lo_eq (k + 1) m
theorem mkS_double (n : Bool) (X : Nat) (e : Int) : mkS n (2 * X) e = mkS n X (e + 1) := by
  unfold mkS
  by_cases h : X = 0
  · subst h; simp
  · rw [if_neg (by omega), if_neg h, lo_double X h, bl_double X h]
    have e1 : 2 * X / 2 ^ (lo X + 1) = X / 2 ^ lo X := by
      rw [Nat.pow_succ, Nat.mul_comm (2 ^ lo X) 2, Nat.mul_div_mul_left _ _ (by omega)]
    rw [e1]
    have e2 : (262144 < bl X + 1 - (lo X + 1) ∨ 1048576 - ((lo X + 1 : Nat) : Int) < e ∨ e < -1048576 - ((lo X + 1 : Nat) : Int)) ↔ (262144 < bl X - lo X ∨ 1048576 - (lo X : Int) < e + 1 ∨ e + 1 < -1048576 - (lo X : Int)) := by omega
    by_cases h2 : 262144 < bl X - lo X ∨ 1048576 - (lo X : Int) < e + 1 ∨ e + 1 < -1048576 - (lo X : Int)
    · rw [if_pos h2, if_pos (e2.2 h2)]
    · rw [if_neg h2, if_neg (fun h3 => h2 (e2.1 h3))]
      congr 3
      omega
theorem mkS_pow (n : Bool) (k : Nat) : ∀ e : Int, mkS n (2 ^ k) e = mkS n 1 (e + k) := by
  induction k with
  | zero => intro e; simp
  | succ k ih => intro e; rw [Nat.pow_succ, Nat.mul_comm, mkS_double, ih]; congr 1; omega
theorem exV_one (k : Nat) (hk : k = 2148) : exV ((2 ^ k : Nat) : Int) = some (false, 1, 0) := by
  unfold exV
  rw [decide_eq_false (Int.not_lt.mpr (Int.natCast_nonneg _)), Int.natAbs_natCast, mkS_pow, hk]
  kernel_rfl
theorem rd7_one (k : Nat) (hk : k = 2148) : rd7 ((2 ^ k : Nat) : Int) ⟨0, 0, 0, 0, 0, 3⟩ 0 0 0 = (4607182418800017408, 0) := by
  have h0 : ((2 ^ k : Nat) : Int) ≠ 0 := by have := Nat.two_pow_pos k; omega
  have e : ahd ((2 ^ k : Nat) : Int) ⟨0, 0, 0, 0, 0, 3⟩ 0 0 0 = (0, false, 0) := by
    unfold ahd
    rw [if_neg (by decide), if_neg h0]
  have e2 : rndS (mkS (dN (some (false, 1, 0))) (dX (some (false, 1, 0))) (dE (some (false, 1, 0)))) 0 = (4607182418800017408, 0) := by kernel_rfl
  unfold rd7
  rw [e, exV_one k hk, e2]
  rfl
theorem put_steps (k j : Nat) (hk : k = 2148) (hj : j = 3148) :
    putS 0 ⟨0, 0, 0, 0, 0, 0⟩ (pK 9110782046170513408 4607182418800017408) (pT 9110782046170513408 4607182418800017408) = (0, ((2 ^ j : Nat) : Int), ⟨0, 0, 0, 0, 0, 1⟩) ∧
    putS ((2 ^ j : Nat) : Int) ⟨0, 0, 0, 0, 0, 1⟩ (pK 4607182418800017408 4607182418800017408) (pT 4607182418800017408 4607182418800017408) = (0, ((2 ^ j : Nat) : Int) + ((2 ^ k : Nat) : Int), ⟨0, 0, 0, 0, 0, 2⟩) ∧
    putS (((2 ^ j : Nat) : Int) + ((2 ^ k : Nat) : Int)) ⟨0, 0, 0, 0, 0, 2⟩ (pK 18334154083025289216 4607182418800017408) (pT 18334154083025289216 4607182418800017408) = (0, ((2 ^ k : Nat) : Int), ⟨0, 0, 0, 0, 0, 3⟩) := by
  have a1 := pow_HB k (by omega)
  have a2 := pow_HB j (by omega)
  have p1 := Nat.two_pow_pos k
  have p2 := Nat.two_pow_pos j
  rw [pK_up, pK_one, pK_dn, pT_up j hj, pT_one k hk, pT_dn j hj]
  generalize (2 ^ k : Nat) = A at *
  generalize (2 ^ j : Nat) = C at *
  have hb := HB_pos
  refine ⟨?_, ?_, ?_⟩
  · unfold putS step7
    rw [if_neg (by decide), if_pos (by omega), Int.zero_add]
    rfl
  · unfold putS step7
    rw [if_neg (by decide), if_pos (by omega)]
    rfl
  · unfold putS step7
    rw [if_neg (by decide), if_pos (by omega)]
    rw [show (C : Int) + A + -C = A by omega]
    rfl

set_option maxHeartbeats 2000000 in
theorem live7 (w : World) (hT : Tab w) : Calls Tryd.prog 7 #[] w fun r w' => r = .returned (.bool true) ∧ Below w.heap.size w w' := by
  obtain ⟨k, hk⟩ : ∃ k, k = 2148 := ⟨_, rfl⟩
  obtain ⟨j, hj⟩ : ∃ j, j = 3148 := ⟨_, rfl⟩
  obtain ⟨q1, q2, q3⟩ := put_steps k j hk hj
  have q4 := rd7_one k hk
  have HQ := Aside.intro (And.intro q1 (And.intro q2 (And.intro q3 (And.intro q4 hT))))
  have HL := hid (fun u : World => Ldexp1000 u)
  have hneg : ∀ u : World, Sem.run Tryd.prog (Op.unary UnOp.neg (Value.float FloatKind.f64 9110782046170513408)) u = .ok (.float .f64 18334154083025289216) u := fun u => by kernel_rfl
  clear q1 q2 q3 q4 hT hk hj
  go_enter Tryd.func7, Tryd.ntmps7
  go_wp2_with fail
  refine (New7 w).mono ?_
  rintro r w1 ⟨rfl, hA, hb⟩
  have S1 := Aside.intro (And.intro hA hb)
  clear hA hb
  go_wp2_with fail
  refine (HL.out _).mono ?_
  rintro r u ⟨rfl, rfl⟩
  go_wp2_with fail
  have C1 := Add7 w.heap.size 0 ⟨0, 0, 0, 0, 0, 0⟩ 9110782046170513408 u S1.out.1 (by unfold Sp.ok; decide) (by decide)
  rw [HQ.out.1] at C1
  refine C1.mono ?_
  rintro r w2 ⟨rfl, hA, hbut⟩
  have S2 := Aside.intro (And.intro hA (But.below S1.out.2 hbut S1.out.2.size (Nat.le_refl _)))
  clear hA hbut C1
  go_wp2_with fail
  have C2 := Add7 w.heap.size _ ⟨0, 0, 0, 0, 0, 1⟩ 4607182418800017408 w2 S2.out.1 (by unfold Sp.ok; decide) (by decide)
  rw [HQ.out.2.1] at C2
  refine C2.mono ?_
  rintro r w3 ⟨rfl, hA, hbut⟩
  have S3 := Aside.intro (And.intro hA (But.below S2.out.2 hbut S2.out.2.size (Nat.le_refl _)))
  clear hA hbut C2
  go_wp2_with fail
  refine (HL.out _).mono ?_
  rintro r u3 ⟨rfl, rfl⟩
  go_wp2_with fail
  have C3 := Add7 w.heap.size _ ⟨0, 0, 0, 0, 0, 2⟩ 18334154083025289216 u3 S3.out.1 (by unfold Sp.ok; decide) (by decide)
  rw [HQ.out.2.2.1] at C3
  refine C3.mono ?_
  rintro r w4 ⟨rfl, hA, hbut⟩
  have S4 := Aside.intro (And.intro hA (But.below S3.out.2 hbut S3.out.2.size (Nat.le_refl _)))
  clear hA hbut C3
  go_wp2_with fail
  have C4 := Round7 w.heap.size _ ⟨0, 0, 0, 0, 0, 3⟩ 0 0 0 w4 S4.out.1 (by unfold Sp.ok; decide) (HQ.out.2.2.2.2.belows S4.out.2) (by decide) (by decide) (by decide) (by decide) (by decide)
  rw [HQ.out.2.2.2.1] at C4
  refine C4.mono ?_
  rintro r w5 ⟨rfl, hb⟩
  have S5 := Aside.intro (S4.out.2.trans (hb.mono S4.out.2.size))
  clear hb C4
  have heq : (FloatKind.f64.format.order 4607182418800017408 4607182418800017408 == some .eq) = true := by kernel_rfl
  go_wp2
  go_ret
  exact ⟨rfl, S5.out⟩
end Go.Proofs.YtmlmgfodkehenaaDoor

/- SuperNumbers: errors, the limit; a new one. -/
namespace Go.Proofs.YtmlmgfodkehenaaDoor
open Go.RowKit
set_option linter.unusedVariables false
set_option maxRecDepth 20000
set_option linter.unusedSimpArgs false

theorem exV_zero : exV 0 = some (false, 0, 0) := by unfold exV; rw [Int.natAbs_zero, mkS_zero]
set_option maxHeartbeats 2000000 in
theorem walk_SuperNumbers (w : World) (hT : Tab w) : Calls Tryd.prog 3 #[] w fun r w' => r = .returned (.bool true) ∧ Below w.heap.size w w' := by
  have HT := Aside.intro hT
  clear hT
  go_enter Tryd.func3, Tryd.ntmps3
  go_wp2_with fail
  refine (live7 w HT.out).mono ?_
  rintro r w1 ⟨rfl, hb⟩
  have B1 := Aside.intro hb
  clear hb
  go_wp2_with fail
  refine (New7 w1).mono ?_
  rintro r w2 ⟨rfl, hA, hb⟩
  have S2 := Aside.intro (And.intro hA (B1.out.trans (hb.mono B1.out.size)))
  clear hA hb
  go_wp2_with fail
  have CE := Exact7 w1.heap.size 0 _ w2 S2.out.1 (HT.out.belows S2.out.2)
  rw [exV_zero] at CE
  refine CE.mono ?_
  rintro r w3 ⟨v, rfl, hN, hb⟩
  obtain ⟨a, c, rfl, _⟩ := hN.arg (by simp [dX, ws_zero])
  have S3 := Aside.intro (And.intro (S2.out.1.bel hb) (S2.out.2.trans (hb.mono S2.out.2.size)))
  clear hN hb CE
  have hw0 : (ws (dX (some (false, 0, 0)))).length = 0 := by simp [dX, ws_zero]
  rw [hw0]
  simp only [dN, dE, Option.getD_some]
  clear hw0
  go_wp2_with fail
  have CS := Specials7 w1.heap.size 0 _ (w3.alloc (Obj.cells #[.bool false, .slice a 0 c, .int .i64 0] 28)) (S3.out.1.bel (bel_alloc _ _))
  simp only [Sp.agg] at CS
  refine CS.mono ?_
  rintro r w4 ⟨rfl, hb⟩
  have S4 := Aside.intro (S3.out.2.trans (((bel_alloc _ _).mono S3.out.2.size).trans (hb.mono (by have := S3.out.2.size; simp; omega))))
  clear hb CS
  go_wp2
  go_ret
  exact ⟨rfl, S4.out⟩
end Go.Proofs.YtmlmgfodkehenaaDoor

