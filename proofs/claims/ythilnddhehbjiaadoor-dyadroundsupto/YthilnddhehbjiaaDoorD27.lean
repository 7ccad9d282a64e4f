/- The law's awake (layer 3). -/
import Derived.Test.YthilnddhehbjiaaDoorD26
import Derived.Deep.RegionHeld3
import Derived.Deep.CutRange
namespace Go.Proofs.YthilnddhehbjiaaDoor
open Go.RowKit
set_option linter.unusedVariables false
set_option maxRecDepth 20000
set_option linter.unusedSimpArgs false
attribute [local go_sem] B.f64bits

theorem ws_lone (x : Nat) (h0 : x ≠ 0) (h : x < 4294967296) : ws x = [x] := by
  rw [ws_pos x h0, Nat.mod_eq_of_lt h, Nat.div_eq_of_lt h, ws_zero]
theorem Nt.argk {lo : Nat} {w : World} {v : Value} {X k : Nat} (h : Nt lo w v X) (hk : (ws X).length = k) (hs : k ≤ 35184372088832) : ∃ a c, v = .slice a k c ∧ Nt lo w (.slice a k c) X ∧ Arg w a k c (ws X) := by
  obtain ⟨a, c, rfl, A⟩ := h.arg (by omega)
  rw [hk] at A h
  exact ⟨a, c, by rw [hk], h, A⟩
theorem Nt.argk' {lo : Nat} {w : World} {a : Option Addr} {c X k : Nat} (h : Nt lo w (.slice a k c) X) (hk : (ws X).length = k) (hs : k ≤ 35184372088832) : Arg w a k c (ws X) := by
  obtain ⟨a', c', e, _, A⟩ := h.argk hk hs
  cases e
  exact A
theorem len3 : (ws 3).length = 1 := by rw [ws_lone 3 (by omega) (by omega)]; rfl
theorem len1 : (ws 1).length = 1 := by rw [ws_lone 1 (by omega) (by omega)]; rfl
theorem len19 : (ws 19).length = 1 := by rw [ws_lone 19 (by omega) (by omega)]; rfl
theorem len0 : (ws 0).length = 0 := by rw [ws_zero]; rfl

theorem rel_new {w u3 : World} {m c3 : Nat} {a3 : Option Addr} (hB : Below w.heap.size w u3) (hs : w.heap.size ≤ u3.heap.size) (hN : Nt m u3 (.slice a3 1 c3) 19) (hm : w.heap.size ≤ m) :
    ∃ g a c, Value.pointer (some ⟨u3.heap.size, 0, none⟩) = .pointer (some ⟨g, 0, none⟩) ∧ Value.int .i64 0 = .int .i64 0 ∧ Aside (Below w.heap.size w (u3.alloc (.cells #[.bool false, .slice a3 1 c3, .int .i64 (-2)] 39)) ∧ w.heap.size ≤ g ∧ Dk (u3.alloc (.cells #[.bool false, .slice a3 1 c3, .int .i64 (-2)] 39)) g false (.slice a 1 c) (-2) ∧ Nt w.heap.size (u3.alloc (.cells #[.bool false, .slice a3 1 c3, .int .i64 (-2)] 39)) (.slice a 1 c) 19) :=
  ⟨_, a3, c3, rfl, rfl, hB.alloc hs _, hs, Dk.new u3 _ _ _, (hN.mono hm).allocC _⟩
theorem rel_set {w u3 : World} {g m c3 : Nat} {a3 : Option Addr} (E : Dk u3 g false (.slice none 0 0) 0) (hB : Below w.heap.size w u3) (hs : w.heap.size ≤ u3.heap.size) (hg : w.heap.size ≤ g) (hgm : g < m) (hN : Nt m u3 (.slice a3 1 c3) 19) :
    ∃ g' a c, Value.pointer (some ⟨g, 0, none⟩) = .pointer (some ⟨g', 0, none⟩) ∧ Value.int .i64 0 = .int .i64 0 ∧ Aside (Below w.heap.size w (st3 u3 g (.bool false) (.slice a3 1 c3) (.int .i64 (-2))) ∧ w.heap.size ≤ g' ∧ Dk (st3 u3 g (.bool false) (.slice a3 1 c3) (.int .i64 (-2))) g' false (.slice a 1 c) (-2) ∧ Nt w.heap.size (st3 u3 g (.bool false) (.slice a3 1 c3) (.int .i64 (-2))) (.slice a 1 c) 19) :=
  ⟨g, a3, c3, rfl, rfl, But.below hB (set3_but _ _ _ _ _) hs hg, hg, E.set _ _ _, (hN.but (set3_but _ _ _ _ _) hgm).mono (by omega)⟩
theorem Dk.drew {w : World} {g : Nat} {n : Bool} {v : Value} {e : Int} (h : Dk w g n v e) : Dk w.drew g n v e := h
theorem rel_drew {w u : World} {p : Value} (h : ∃ g a c, p = .pointer (some ⟨g, 0, none⟩) ∧ Value.int .i64 0 = .int .i64 0 ∧ Aside (Below w.heap.size w u ∧ w.heap.size ≤ g ∧ Dk u g false (.slice a 1 c) (-2) ∧ Nt w.heap.size u (.slice a 1 c) 19)) :
    ∃ g a c, p = .pointer (some ⟨g, 0, none⟩) ∧ Value.int .i64 0 = .int .i64 0 ∧ Aside (Below w.heap.size w u.drew ∧ w.heap.size ≤ g ∧ Dk u.drew g false (.slice a 1 c) (-2) ∧ Nt w.heap.size u.drew (.slice a 1 c) 19) := by
  obtain ⟨g, a, c, h1, h2, h3, h4, h5, h6⟩ := h
  exact ⟨g, a, c, h1, h2, h3.drew, h4, h5, h6.below ((Below.refl _ u).drew)⟩

set_option maxHeartbeats 8000000 in
set_option maxRecDepth 100000 in
theorem awake3_any (w : World) (hT : Tab w) : Calls Tryd.prog 19 #[] w fun r w' => r = .returned (.bool true) ∧ Below w.heap.size w w' := by
  have q1 := aw_eq1
  have q2 := aw_eq2
  have HOF := Of_any false 1022 2251799813685248 (by omega) (by omega) w hT
  rw [aw_three] at HOF
  simp only [OAns, dN, dX, dE, ofE, Option.getD, show (if (1022 : Nat) = 2047 then (30 : Int) else 0) = 0 from rfl, show B.bw false 1022 2251799813685248 = 4604930618986332160 from rfl] at HOF
  have H1 := hid HOF
  have HI : Hid (∀ u, Below w.heap.size w u → Calls Tryd.prog 24 #[.int .i64 4] u fun r w' => (∃ v, r = .returned (.agg #[.bool false, v, .int .i64 2]) ∧ Nt u.heap.size w' v 1) ∧ Below u.heap.size u w') := by
    intro u hu
    have := Int_any 4 u (hT.belows hu) (by omega) (by omega)
    rw [aw_four] at this
    exact this
  have HA : Hid (∀ (u : World) (a b : Option Addr) (c d : Nat), Below w.heap.size w u → Arg u a 1 c (ws 3) → Arg u b 1 d (ws 1) → Calls Tryd.prog 28 #[.agg #[.bool false, .slice a 1 c, .int .i64 (-2)], .agg #[.bool false, .slice b 1 d, .int .i64 2]] u fun r w' => (∃ v, r = .returned (.tuple #[.agg #[.bool false, v, .int .i64 (-2)], .int .i64 0]) ∧ Nt u.heap.size w' v 19) ∧ Below u.heap.size u w') := by
    intro u a b c d hu h1 h2
    have := Add_any3 h1 h2 (hT.belows hu) false false (-2) 2 (by omega) (by omega) (by omega) (by omega)
    rw [val_ws, val_ws, mkS_three, mkS_one2, aw_sum] at this
    exact this
  have HO2 : Hid (∀ u, Below w.heap.size w u → Calls Tryd.prog 20 #[.float .f64 9218868437227405312] u fun r w' => (∃ v, r = .returned (.tuple #[.agg #[.bool false, v, .int .i64 0], .int .i64 30]) ∧ Nt u.heap.size w' v 0) ∧ Below u.heap.size u w') := by
    intro u hu
    exact Of_any false 2047 0 (by omega) (by omega) u (hT.belows hu)
  have HR1 : Hid (∀ (u : World) (a : Option Addr) (m : Int) (K : Nat), Below w.heap.size w u → Arg u a 2 2 [1, 2097152] → rndS (mkS false (val [1, 2097152]) 0) m = (K, 0) → Calls Tryd.prog 41 #[.agg #[.bool false, .slice a 2 2, .int .i64 0], .int .i64 m] u fun r w' => r = .returned (.tuple #[.float .f64 K, .int .i64 0]) ∧ Below u.heap.size u w') := by
    intro u a m K hu hA hK
    have := Round_any hA (hT.belows hu) false 0 m (by omega) (by omega)
    rw [hK] at this
    exact this
  have HR2 : Hid (∀ (u : World) (a : Option Addr), Below w.heap.size w u → Arg u a 1 1 [1] → Calls Tryd.prog 41 #[.agg #[.bool true, .slice a 1 1, .int .i64 (-1075)], .int .i64 0] u fun r w' => r = .returned (.tuple #[.float .f64 9223372036854775808, .int .i64 0]) ∧ Below u.heap.size u w') := by
    intro u a hu hA
    have := Round_any hA (hT.belows hu) true (-1075) 0 (by omega) (by omega)
    rw [aw_neg] at this
    exact this
  clear HOF hT
  go_enter Tryd.func19, Tryd.ntmps19
  go_wp2_with fail
  refine (Calls.mono H1.out) ?_
  rintro r u1 ⟨⟨v, rfl, hN⟩, hb⟩
  obtain ⟨a1, c1, rfl, hN, _⟩ := hN.argk len3 (by omega)
  obtain ⟨W2, hW2⟩ : ∃ W, W = u1.alloc (.cells #[.bool false, .slice a1 1 c1, .int .i64 (-2)] 39) := ⟨_, rfl⟩
  have hbW : Below u1.heap.size u1 W2 := by rw [hW2]; exact below_alloc u1 _
  have D2 : Dk W2 u1.heap.size false (.slice a1 1 c1) (-2) := by rw [hW2]; exact Dk.new u1 _ _ _
  have hB2 : Below w.heap.size w W2 := hb.trans (hbW.mono hb.size)
  have hz1 := hb.size
  obtain ⟨x0, x1, x2, xf0, xf1, xf2⟩ := D2.facts
  have hz2 := D2.lt
  have S2 := (Aside.intro (And.intro hB2 (And.intro D2 (hN.below hbW))))
  clear hN hb H1 hbW D2 hB2
  go_upto_region 2 with fail
  rw [← hW2]
  clear hW2
  go_cut [3, 4] from 18 to 23 (fun p q wx => ∃ g a3 c3, p = .pointer (some ⟨g, 0, none⟩) ∧ q = .int .i64 0 ∧ Aside (Below w.heap.size w wx ∧ w.heap.size ≤ g ∧ Dk wx g false (.slice a3 1 c3) (-2) ∧ Nt w.heap.size wx (.slice a3 1 c3) 19))
  case first =>
    go_region_with (first
      | (go_at_call 24
         refine (HI.out _ (by first | exact S2.out.1 | exact S2.out.1.drew)).mono ?_
         rintro r u2 ⟨⟨v, rfl, hN⟩, hb⟩
         obtain ⟨a2, c2, rfl, hN, _⟩ := hN.argk len1 (by omega)
         have hb2 : Below W2.heap.size W2 u2 := by first | exact hb | exact ((Below.refl _ W2).drew).trans (hb.mono (Nat.le_refl _))
         have D3 := S2.out.2.1.below hb2
         obtain ⟨y0, y1, y2, yf0, yf1, yf2⟩ := D3.facts
         have hB3 : Below w.heap.size w u2 := S2.out.1.trans (hb2.mono (by omega))
         have hz3 := hb2.size
         have hz3' : u1.heap.size < u2.heap.size := by omega
         have hN' : Nt W2.heap.size u2 (.slice a2 1 c2) 1 := hN
         have S3 := (Aside.intro (And.intro hB3 (And.intro D3 (And.intro (S2.out.2.2.below hb2) hN'))))
         clear hN hb hb2 D3 hB3 hN')
      | (go_at_call 24
         refine (HI.out _ (by first | exact S2.out.1.alloc (by omega) _ | exact (S2.out.1.alloc (by omega) _).drew | exact (S2.out.1.drew).alloc (by simp; omega) _)).mono ?_
         rintro r u2 ⟨⟨v, rfl, hN⟩, hb⟩
         obtain ⟨a2, c2, rfl, hN, _⟩ := hN.argk len1 (by omega)
         have hx : Below W2.heap.size W2 (W2.alloc (.cells #[.bool false, .slice none 0 0, .int .i64 0] 39)) := below_alloc W2 _
         have hb1 : Below (W2.alloc (.cells #[.bool false, .slice none 0 0, .int .i64 0] 39)).heap.size (W2.alloc (.cells #[.bool false, .slice none 0 0, .int .i64 0] 39)) u2 := by first | exact hb | exact ((Below.refl _ _).drew).trans (hb.mono (Nat.le_refl _))
         have hb2 : Below W2.heap.size W2 u2 := hx.trans (hb1.mono (by simp))
         have D3 := S2.out.2.1.below hb2
         have E3 : Dk u2 W2.heap.size false (.slice none 0 0) 0 := (Dk.new W2 false (.slice none 0 0) 0).below hb1
         obtain ⟨y0, y1, y2, yf0, yf1, yf2⟩ := D3.facts
         obtain ⟨e0, e1, e2, ef0, ef1, ef2⟩ := E3.facts
         have hB3 : Below w.heap.size w u2 := S2.out.1.trans (hb2.mono (by omega))
         have hz3 := hb2.size
         have hz3' : u1.heap.size < u2.heap.size := by omega
         have hN' : Nt W2.heap.size u2 (.slice a2 1 c2) 1 := hN.mono (by simp)
         have S3 := (Aside.intro (And.intro hB3 (And.intro D3 (And.intro (S2.out.2.2.below hb2) hN'))))
         have T3 := Aside.intro E3
         clear hN hb hb1 hb2 D3 hB3 hN' hx E3)
      | (go_at_call 28
         refine (HA.out _ a1 a2 c1 c2 (by first | exact S3.out.1 | exact S3.out.1.drew) (by first | exact S3.out.2.2.1.argk' len3 (by omega) | exact Arg.drew' (S3.out.2.2.1.argk' len3 (by omega))) (by first | exact S3.out.2.2.2.argk' len1 (by omega) | exact Arg.drew' (S3.out.2.2.2.argk' len1 (by omega)))).mono ?_
         rintro r u3 ⟨⟨v, rfl, hN⟩, hb⟩
         obtain ⟨a3, c3, rfl, hN, _⟩ := hN.argk len19 (by omega)
         have hb3 : Below u2.heap.size u2 u3 := by first | exact hb | exact ((Below.refl _ u2).drew).trans (hb.mono (Nat.le_refl _))
         have D4 := S3.out.2.1.below hb3
         obtain ⟨z0, z1, z2, zf0, zf1, zf2⟩ := D4.facts
         have hB4 : Below w.heap.size w u3 := S3.out.1.trans (hb3.mono (by omega))
         have hz4 := hb3.size
         have hz4' : u1.heap.size < u3.heap.size := by omega
         have hz4w : W2.heap.size ≤ u3.heap.size := by omega
         have hN' : Nt u2.heap.size u3 (.slice a3 1 c3) 19 := hN
         have S4 := (Aside.intro (And.intro hB4 (And.intro hN' hb3)))
         first | (have E4 := T3.out.below hb3; obtain ⟨m0, m1, m2, mf0, mf1, mf2⟩ := E4.facts; have T4 := Aside.intro E4; have hgl := T3.out.lt; clear E4) | skip
         clear hN hb hb3 D4 hB4 hN')
      | (go_at_call 28
         refine (HA.out _ a1 a2 c1 c2 (by first | exact S3.out.1.alloc (by omega) _ | exact (S3.out.1.alloc (by omega) _).drew) (by first | exact (S3.out.2.2.1.argk' len3 (by omega)).below (below_alloc u2 _) | exact Arg.drew' ((S3.out.2.2.1.argk' len3 (by omega)).below (below_alloc u2 _))) (by first | exact (S3.out.2.2.2.argk' len1 (by omega)).below (below_alloc u2 _) | exact Arg.drew' ((S3.out.2.2.2.argk' len1 (by omega)).below (below_alloc u2 _)))).mono ?_
         rintro r u3 ⟨⟨v, rfl, hN⟩, hb⟩
         obtain ⟨a3, c3, rfl, hN, _⟩ := hN.argk len19 (by omega)
         have hb1 : Below (u2.alloc (.cells #[.bool false, .slice none 0 0, .int .i64 0] 39)).heap.size (u2.alloc (.cells #[.bool false, .slice none 0 0, .int .i64 0] 39)) u3 := by first | exact hb | exact ((Below.refl _ _).drew).trans (hb.mono (Nat.le_refl _))
         have hb3 : Below u2.heap.size u2 u3 := (below_alloc u2 _).trans (hb1.mono (by simp))
         have D4 := S3.out.2.1.below hb3
         obtain ⟨z0, z1, z2, zf0, zf1, zf2⟩ := D4.facts
         have E4 : Dk u3 u2.heap.size false (.slice none 0 0) 0 := (Dk.new u2 false (.slice none 0 0) 0).below hb1
         obtain ⟨m0, m1, m2, mf0, mf1, mf2⟩ := E4.facts
         have hB4 : Below w.heap.size w u3 := S3.out.1.trans (hb3.mono (by omega))
         have hz4 := E4.lt
         have hN' : Nt (u2.heap.size + 1) u3 (.slice a3 1 c3) 19 := by simpa using hN
         have S4 := (Aside.intro (And.intro hB4 (And.intro hN' hb3)))
         have T5 := Aside.intro E4
         clear hN hb hb1 hb3 D4 hB4 hN' E4))
    all_goals (
      go_wp2_with fail
      go_meet
      case rel =>
        try with_reducible refine rel_drew ?_
        first
          | with_reducible exact rel_new S4.out.1 (by omega) S4.out.2.1 (by omega)
          | with_reducible exact rel_set T5.out S4.out.1 (by omega) (by omega) (by omega) S4.out.2.1
          | with_reducible exact rel_set T4.out S4.out.1 (by omega) (by omega) (by omega) S4.out.2.1)
  case rest =>
    clear x0 x1 x2 xf0 xf1 xf2 S2 HI HA
    obtain ⟨g, a3, c3, rfl, rfl, HC⟩ := hcut
    go_wp2_with fail
    refine (Calls.mono (B.inf_any _)) ?_
    rintro r ww ⟨rfl, hw⟩
    rw [hw]
    clear hw ww
    have H2 := hid (HO2.out wc HC.out.1)
    go_wp2_with fail
    refine (Calls.mono H2.out) ?_
    rintro r u4 ⟨⟨v, rfl, hN⟩, hb⟩
    obtain ⟨a4, c4, rfl, _, _⟩ := hN.argk len0 (by omega)
    obtain ⟨W5, hW5⟩ : ∃ W, W = ((u4.alloc (.cells #[.bool false, .slice a4 0 c4, .int .i64 0] 39)).alloc (.cells #[.int .u32 1, .int .u32 2097152] 61)).alloc (.cells #[.bool false, .slice (some ⟨u4.heap.size + 1, 0, none⟩) 2 2, .int .i64 0] 39) := ⟨_, rfl⟩
    have hb0 : Below w.heap.size w u4 := HC.out.1.trans (hb.mono HC.out.1.size)
    have hs0 := hb0.size
    have hbW : Below u4.heap.size u4 W5 := by rw [hW5]; exact ((below_alloc u4 _).alloc (by simp) _).alloc (by simp; omega) _
    have hB5 : Below w.heap.size w W5 := hb0.trans (hbW.mono hs0)
    have DG := (HC.out.2.2.1.below hb).below hbW
    have NG := (HC.out.2.2.2.below hb).below hbW
    have DT : Dk W5 (u4.heap.size + 1 + 1) false (.slice (some ⟨u4.heap.size + 1, 0, none⟩) 2 2) 0 := by
      rw [hW5]
      have := Dk.new ((u4.alloc (.cells #[.bool false, .slice a4 0 c4, .int .i64 0] 39)).alloc (.cells #[.int .u32 1, .int .u32 2097152] 61)) false (.slice (some ⟨u4.heap.size + 1, 0, none⟩) 2 2) 0
      simpa using this
    have AT : Arg W5 (some ⟨u4.heap.size + 1, 0, none⟩) 2 2 [1, 2097152] := by
      rw [hW5]
      have := (lit_arg2 (u4.alloc (.cells #[.bool false, .slice a4 0 c4, .int .i64 0] 39)) 1 2097152 (by omega) (by omega)).below (below_alloc _ (.cells #[.bool false, .slice (some ⟨u4.heap.size + 1, 0, none⟩) 2 2, .int .i64 0] 39))
      simpa using this
    have H3 := hid (HR1.out W5 _ 2 4845873199050653697 hB5 AT aw_up)
    obtain ⟨p0, p1, p2, pf0, pf1, pf2⟩ := DT.facts
    have S5 := (Aside.intro (And.intro hB5 (And.intro DG (And.intro NG (And.intro DT AT)))))
    have hs5 := hB5.size
    clear H2 hN hb HC hb0 hbW hB5 DG NG DT AT
    go_upto_region 5 with fail
    rw [← hW5]
    clear hW5
    go_wp2_with fail
    refine (Calls.mono H3.out) ?_
    rintro r u5 ⟨rfl, hb⟩
    obtain ⟨hB5, DG, NG, DT, AT⟩ := S5.out
    have hB6 : Below w.heap.size w u5 := hB5.trans (hb.mono hs5)
    have H4 := hid (HR1.out u5 _ 0 4845873199050653696 hB6 (AT.below hb) aw_even)
    obtain ⟨r0, r1, r2, rf0, rf1, rf2⟩ := (DT.below hb).facts
    have S6 := (Aside.intro (And.intro hB6 (And.intro (DG.below hb) (NG.below hb))))
    have hs6 := hB6.size
    clear H3 hb hB5 DG NG DT AT S5 hB6 p0 p1 p2 pf0 pf1 pf2
    go_wp2_with fail
    refine (Calls.mono H4.out) ?_
    rintro r u6 ⟨rfl, hb⟩
    obtain ⟨hB6, DG, NG⟩ := S6.out
    have hB7 : Below w.heap.size w u6 := hB6.trans (hb.mono hs6)
    have hs7 := hB7.size
    have hbA := below_alloc u6 (.cells #[.int .u32 ((1 : Nat) : Int)] 61)
    have H5 := hid (HR2.out (u6.alloc (.cells #[.int .u32 ((1 : Nat) : Int)] 61)) (some ⟨u6.heap.size, 0, none⟩) (hB7.trans (hbA.mono hs7)) (lit_arg u6 1 (by omega)))
    have DG7 := (DG.below hb).below hbA
    have NG7 := (NG.below hb).below hbA
    have S7 := (Aside.intro (And.intro (hB7.trans (hbA.mono hs7)) (And.intro DG7 NG7)))
    clear H4 hb hB6 DG NG DG7 NG7 S6 hB7 hbA r0 r1 r2 rf0 rf1 rf2
    go_wp2_with fail
    refine (Calls.mono H5.out) ?_
    rintro r u7 ⟨rfl, hb⟩
    obtain ⟨hB8, DG, NG⟩ := S7.out
    have DF := DG.below hb
    have NF := NG.below hb
    have hB9 := hB8.trans (hb.mono (by simp; omega))
    obtain ⟨x0, x1, x2, xf0, xf1, xf2⟩ := DF.facts
    obtain ⟨bk, off, _, rfl, hcell⟩ := (NF.argk' len19 (by omega)).rd (by rw [ws_lone 19 (by omega) (by omega)]; simp)
    have hc0 := hcell 0 (by rw [len19]; omega)
    rw [ws_lone 19 (by omega) (by omega)] at hc0
    simp at hc0
    have S8 := Aside.intro hB9
    clear H5 hb hB8 DG NG DF NF S7 hB9 hcell
    go_wp2
    go_ret
    exact ⟨rfl, S8.out⟩
end Go.Proofs.YthilnddhehbjiaaDoor
