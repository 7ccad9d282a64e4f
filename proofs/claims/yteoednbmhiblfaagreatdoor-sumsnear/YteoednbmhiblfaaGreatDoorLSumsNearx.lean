/- SumsNear: the law's walk. -/
import Derived.Test.YteoednbmhiblfaaGreatDoorJ14x
import Derived.Test.YteoednbmhiblfaaGreatDoorH11x
import Derived.Test.YteoednbmhiblfaaGreatDoorH21x
import Derived.Deep.RegionHeld3
namespace Go.Proofs.YteoednbmhiblfaaGreatDoor
open Go.RowKit J
set_option linter.unusedVariables false
set_option maxRecDepth 20000
set_option linter.unusedSimpArgs false

set_option maxHeartbeats 8000000 in
theorem near_small (a : Option Addr) (n c : Nat) (xs : List Nat) (size : Int) (w : World) (hT : Tab w) (hC : CameF w a n c xs) (hn : n ≤ 300) :
    Calls Tryz.prog 5 #[.slice a n c, .int .i64 size] w fun r w' => r = .returned (.bool true) ∧ Below w.heap.size w w' := by
  obtain ⟨hlen, hcap, hW, hF, _⟩ := hC
  have HL := hid (live10 w hT)
  have HT := Aside.intro hT
  have HX : Aside (xs.length = n ∧ Fs w.heap.size w a xs ∧ W64 xs) := ⟨hlen.symm, hF, hW⟩
  have hd : decide ((300 : Int) < (n : Int)) = false := by simp; omega
  clear hlen hW hF hT
  go_enter Tryz.func5, Tryz.ntmps5
  go_wp2_with fail
  refine HL.out.mono ?_
  rintro r u0 ⟨rfl, hb⟩
  have B0 := Aside.intro hb
  clear hb HL
  obtain ⟨m, hm⟩ : ∃ m, m = 2200 := ⟨_, rfl⟩
  obtain ⟨W, hW⟩ : ∃ W, W = (u0.alloc (Obj.cells #[.bool false, .slice none 0 0, .int .i64 0] 37)).alloc (Obj.cells #[.bool false, .slice none 0 0, .int .i64 0] 37) := ⟨_, rfl⟩
  have H0 : Aside (Lv10 W u0.heap.size (sV (xs.take 0)) ∧ Lv10 W (u0.heap.size + 1) (aV (xs.take 0)) ∧ Below w.heap.size w W) := by
    rw [hW]
    have h2 := Lv10.zero (u0.alloc (Obj.cells #[.bool false, .slice none 0 0, .int .i64 0] 37))
    rw [World.size_alloc] at h2
    exact ⟨(Lv10.zero u0).below (below_alloc _ _), h2, (B0.out.trans ((below_alloc _ _).mono B0.out.size)).trans ((below_alloc _ _).mono (Nat.le_trans B0.out.size (by simp)))⟩
  have HG : Aside (w.heap.size ≤ u0.heap.size) := B0.out.size
  have hne : u0.heap.size ≠ u0.heap.size + 1 := by omega
  go_wp2_with fail
  rw [← hW]
  clear hW
  go_loopg [8] n (fun gk iv wr => ∃ i : Nat, gk + i = n ∧ iv = .int .i64 (i : Nat) ∧ Aside (Lv10 wr u0.heap.size (sV (xs.take i)) ∧ Lv10 wr (u0.heap.size + 1) (aV (xs.take i)) ∧ Below w.heap.size w wr ∧ ∀ x ∈ xs.take i, x < 18446744073709551616 ∧ finW x))
  case atStart => exact ⟨0, by omega, by simp, H0.out.1, H0.out.2.1, H0.out.2.2, fun x hx => by simp at hx⟩
  case round =>
    clear H0
    obtain ⟨i, hgi, rfl, HW⟩ := hrel
    by_cases hi : i < n
    · obtain ⟨b, off, rfl, hc⟩ := HX.out.2.1.at HW.out.2.2.1 i (by rw [HX.out.1]; exact hi)
      obtain ⟨y, hy⟩ : ∃ y, y = xs.getD i 0 := ⟨_, rfl⟩
      rw [← hy] at hc
      have hyw : y < 18446744073709551616 := by rw [hy]; exact HX.out.2.2.get i
      have hib : i < 4611686018427387904 := by omega
      by_cases hf : finW y
      · have hin : ∀ x ∈ xs.take (i + 1), x < 18446744073709551616 ∧ finW x := fun x hx => by
          rw [take_snoc10 _ i (by rw [HX.out.1]; exact hi)] at hx
          rcases List.mem_append.1 hx with h | h
          · exact HW.out.2.2.2 x h
          · have : x = y := by rw [hy]; simpa using h
            rw [this]; exact ⟨hyw, hf⟩
        have b0 := bd10 (xs.take i) HW.out.2.2.2 (by rw [List.length_take]; omega) m hm
        have b1 := bd10 (xs.take (i + 1)) hin (by rw [List.length_take]; omega) m hm
        have est := sV_take xs i (by rw [HX.out.1]; exact hi)
        rw [← hy] at est
        obtain ⟨V, hV⟩ : ∃ V, V = fvW y := ⟨_, rfl⟩
        have hVb : V.natAbs < 2 ^ m := by
          obtain ⟨z, hz⟩ : ∃ z, z = 2098 := ⟨_, rfl⟩
          rw [hV]
          exact Nat.lt_of_lt_of_le (top_fv hyw hf z hz) (Nat.pow_le_pow_right (by decide) (by omega))
        have HO := hid (of_any8 y ⟨hyw, hf⟩ wr (HT.out.belows HW.out.2.2.1))
        rw [← hV] at HO est
        obtain ⟨Z, hZ⟩ : ∃ Z, Z = sV (xs.take i) := ⟨_, rfl⟩
        obtain ⟨Y, hY⟩ : ∃ Y, Y = aV (xs.take i) := ⟨_, rfl⟩
        have HN := Aside.intro (And.intro est (And.intro hin (And.intro hZ hY)))
        have HWL : Aside (Lv10 wr u0.heap.size Z ∧ Lv10 wr (u0.heap.size + 1) Y ∧ Below w.heap.size w wr) := by rw [hZ, hY]; exact ⟨HW.out.1, HW.out.2.1, HW.out.2.2.1⟩
        rw [← hZ, ← hY] at b0
        rw [est.1, est.2, ← hZ, ← hY] at b1
        have HB := Aside.intro (And.intro b0 (And.intro b1 hVb))
        have lV := fo8_len V m (by omega) hVb
        have HLV := Aside.intro lV
        clear hy hZ hY hV b0 b1 est hin HW lV hf hyw hVb
        go_wp2_with fail
        with_reducible refine HO.out.mono ?_
        rintro r u ⟨⟨v1, rfl, hN1⟩, hb1⟩
        obtain ⟨a1, c1, rfl, _⟩ := hN1.arg (Nat.le_trans HLV.out.1 (by decide))
        obtain ⟨U, hU⟩ : ∃ U, U = u.alloc (Obj.cells #[.bool (dN (fo8 V)), .slice a1 (ws (dX (fo8 V))).length c1, .int .i64 (dE (fo8 V))] 37) := ⟨_, rfl⟩
        have bU : Below wr.heap.size wr U := by rw [hU]; exact hb1.trans ((below_alloc _ _).mono hb1.size)
        have HU : Aside (Lv10 U u0.heap.size Z ∧ Lv10 U (u0.heap.size + 1) Y ∧ Lv10 U u.heap.size V ∧ Below w.heap.size w U ∧ u0.heap.size + 1 < u.heap.size) := by
          refine ⟨HWL.out.1.below bU, HWL.out.2.1.below bU, ?_, HWL.out.2.2.trans (bU.mono HWL.out.2.2.size), ?_⟩
          · rw [hU]; exact Lv10.new (hN1.mono (Nat.zero_le _))
          · have := HWL.out.2.1.lt; have := hb1.size; omega
        have HUU := Aside.intro hU
        clear hU hN1 hb1 bU hc HO HWL
        go_upto_region 12 with fail
        rw [← HUU.out]
        clear HUU
        obtain ⟨a0, c0, D0, N0⟩ := HU.out.1
        obtain ⟨ad, cd, Dd, Nd⟩ := HU.out.2.2.1
        obtain ⟨x0, x1, x2, xf0, xf1, xf2⟩ := D0.facts
        obtain ⟨y0, y1, y2, yf0, yf1, yf2⟩ := Dd.facts
        have lZ := fo8_len Z m (by omega) HB.out.1.1
        have HAd := hid (add_any8 Z V m (by omega) HB.out.1.1 HB.out.2.2 (dE (fo8 V)) HLV.out.2.1 HLV.out.2.2.1 (dN (fo8 V)) (dX (fo8 V)) (fo8_self V m (by omega) HB.out.2.2) U a0 ad c0 cd (HT.out.belows HU.out.2.2.2.1) (N0.arg' (Nat.le_trans lZ.1 (by decide))).2 (Nd.arg' (Nat.le_trans HLV.out.1 (by decide))).2)
        clear D0 N0 Dd Nd lZ
        go_wp2_with fail
        with_reducible refine HAd.out.mono ?_
        rintro r u2 ⟨⟨v2, rfl, hN2⟩, hb2⟩
        obtain ⟨Z2, hZ2⟩ : ∃ Z2, Z2 = Z + V := ⟨_, rfl⟩
        rw [← hZ2] at hN2 HB ⊢
        have HZ2 := Aside.intro hZ2
        obtain ⟨a2, c2, rfl, _⟩ := hN2.arg (Nat.le_trans (fo8_len Z2 m (by omega) HB.out.2.1.1).1 (by decide))
        obtain ⟨U2, hU2⟩ : ∃ U2, U2 = st3 u2 u0.heap.size (.bool (dN (fo8 Z2))) (.slice a2 (ws (dX (fo8 Z2))).length c2) (.int .i64 (dE (fo8 Z2))) := ⟨_, rfl⟩
        have s1 := HU.out.1.below hb2
        have s2 := HU.out.2.1.below hb2
        have s3 := HU.out.2.2.1.below hb2
        have b2 := HU.out.2.2.2.1.trans (hb2.mono HU.out.2.2.2.1.size)
        have K2 : Aside (Lv10 U2 u0.heap.size Z2 ∧ Lv10 U2 (u0.heap.size + 1) Y ∧ Lv10 U2 u.heap.size V ∧ Below w.heap.size w U2 ∧ u0.heap.size + 1 < u.heap.size) := by
          rw [hU2]
          have h5 := HU.out.2.2.2.2
          exact ⟨s1.set (hN2.mono (Nat.zero_le _)), s2.other s1 (by omega) _ _ _, s3.other s1 (by omega) _ _ _, st3_bel b2 b2.size HG.out _ _ _, h5⟩
        obtain ⟨a3, c3, D3, N3⟩ := s1
        obtain ⟨z0, z1, z2, zf0, zf1, zf2⟩ := D3.facts
        unfold st3 at hU2
        have HU2 := Aside.intro hU2
        clear D3 N3 hN2 hb2 HAd HU x0 x1 x2 xf0 xf1 xf2 y0 y1 y2 yf0 yf1 yf2 s2 s3 b2 hU2 hZ2
        go_upto_region 13 with fail
        rw [← HU2.out]
        clear HU2 z0 z1 z2 zf0 zf1 zf2
        obtain ⟨ad, cd, Dd, Nd⟩ := K2.out.2.2.1
        obtain ⟨y0, y1, y2, yf0, yf1, yf2⟩ := Dd.facts
        have HSg := hid (Sign_any3 (Nd.arg' (Nat.le_trans HLV.out.1 (by decide))).2 (dN (fo8 V)) (dE (fo8 V)))
        rw [val_ws] at HSg
        obtain ⟨sg, hsg⟩ : ∃ sg, sg = sgn (dN (fo8 V)) (dX (fo8 V)) := ⟨_, rfl⟩
        rw [← hsg] at HSg
        have hsd := sgn_neg10 V m (by omega) HB.out.2.2
        rw [← hsg] at hsd
        clear Dd Nd hsg
        go_wp2_with fail
        with_reducible refine HSg.out.mono ?_
        rintro r u3 ⟨rfl, hb3⟩
        have K3 := Aside.intro (And.intro (K2.out.1.below hb3) (And.intro (K2.out.2.1.below hb3) (And.intro (K2.out.2.2.1.below hb3) (And.intro (K2.out.2.2.2.1.trans (hb3.mono K2.out.2.2.2.1.size)) K2.out.2.2.2.2))))
        clear hb3 HSg K2 y0 y1 y2 yf0 yf1 yf2
        by_cases hneg : V < 0
        · rw [decide_eq_true hneg] at hsd
          obtain ⟨Q, hQ⟩ : ∃ Q, Q = -V := ⟨_, rfl⟩
          have HQ := Aside.intro (show Q = (V.natAbs : Int) by omega)
          obtain ⟨ad, cd, Dd, Nd⟩ := K3.out.2.2.1
          obtain ⟨y0, y1, y2, yf0, yf1, yf2⟩ := Dd.facts
          have HNg := Neg_any (Nd.arg' (Nat.le_trans HLV.out.1 (by decide))).2 (HT.out.belows K3.out.2.2.2.1) (dN (fo8 V)) (dE (fo8 V)) HLV.out.2.1 HLV.out.2.2.1
          rw [val_ws, fo8_neg V m (by omega) HB.out.2.2, ← hQ] at HNg
          have HNg := hid HNg
          have HQL : Aside ((ws (dX (fo8 Q))).length ≤ 8192) := (fo8_len Q m (by omega) (by rw [HQ.out, Int.natAbs_natCast]; exact HB.out.2.2)).1
          clear Dd Nd hQ hneg
          go_wp2_with fail
          with_reducible refine HNg.out.mono ?_
          rintro r u4 ⟨⟨v3, rfl, hN3⟩, hb4⟩
          obtain ⟨a3', c3', rfl, _⟩ := hN3.arg (Nat.le_trans HQL.out (by decide))
          obtain ⟨U4, hU4⟩ : ∃ U4, U4 = st3 u4 u.heap.size (.bool (dN (fo8 Q))) (.slice a3' (ws (dX (fo8 Q))).length c3') (.int .i64 (dE (fo8 Q))) := ⟨_, rfl⟩
          have s1 := K3.out.1.below hb4
          have s2 := K3.out.2.1.below hb4
          have s3 := K3.out.2.2.1.below hb4
          have b4 := K3.out.2.2.2.1.trans (hb4.mono K3.out.2.2.2.1.size)
          have K4 : Aside (Lv10 U4 u0.heap.size Z2 ∧ Lv10 U4 (u0.heap.size + 1) Y ∧ Lv10 U4 u.heap.size Q ∧ Below w.heap.size w U4 ∧ u0.heap.size + 1 < u.heap.size) := by
            rw [hU4]
            have h5 := K3.out.2.2.2.2
            exact ⟨s1.other s3 (by omega) _ _ _, s2.other s3 (by omega) _ _ _, s3.set (hN3.mono (Nat.zero_le _)), st3_bel b4 b4.size (by have := HG.out; omega) _ _ _, h5⟩
          obtain ⟨a6, c6, D6, N6⟩ := s3
          obtain ⟨z0, z1, z2, zf0, zf1, zf2⟩ := D6.facts
          unfold st3 at hU4
          have HU4 := Aside.intro hU4
          clear D6 N6 hN3 hb4 HNg y0 y1 y2 yf0 yf1 yf2 s1 s2 b4 hU4 K3
          go_upto_region 15 with fail
          rw [← HU4.out]
          clear HU4 z0 z1 z2 zf0 zf1 zf2
          obtain ⟨aB, cB, DB, NB⟩ := K4.out.2.1
          obtain ⟨ad, cd, Dd, Nd⟩ := K4.out.2.2.1
          obtain ⟨x0, x1, x2, xf0, xf1, xf2⟩ := DB.facts
          obtain ⟨y0, y1, y2, yf0, yf1, yf2⟩ := Dd.facts
          have lY := fo8_len Y m (by omega) HB.out.1.2
          have hQb : Q.natAbs < 2 ^ m := by rw [HQ.out, Int.natAbs_natCast]; exact HB.out.2.2
          have lQ := fo8_len Q m (by omega) hQb
          have HAd := hid (add_any8 Y Q m (by omega) HB.out.1.2 hQb (dE (fo8 Q)) lQ.2.1 lQ.2.2.1 (dN (fo8 Q)) (dX (fo8 Q)) (fo8_self Q m (by omega) hQb) U4 aB ad cB cd (HT.out.belows K4.out.2.2.2.1) (NB.arg' (Nat.le_trans lY.1 (by decide))).2 (Nd.arg' (Nat.le_trans lQ.1 (by decide))).2)
          obtain ⟨Y2, hY2⟩ : ∃ Y2, Y2 = Y + Q := ⟨_, rfl⟩
          rw [← hY2] at HAd
          have hY2b : Y2.natAbs < 2 ^ m := by rw [hY2, HQ.out]; exact HB.out.2.1.2
          have HY2 := Aside.intro (And.intro hY2 hY2b)
          clear DB NB Dd Nd lY lQ hQb hY2 hY2b
          go_wp2_with fail
          with_reducible refine HAd.out.mono ?_
          rintro r u5 ⟨⟨v5, rfl, hN5⟩, hb5⟩
          obtain ⟨a5, c5, rfl, _⟩ := hN5.arg (Nat.le_trans (fo8_len Y2 m (by omega) HY2.out.2).1 (by decide))
          have s1 := K4.out.1.below hb5
          have s2 := K4.out.2.1.below hb5
          have b5 := K4.out.2.2.2.1.trans (hb5.mono K4.out.2.2.2.1.size)
          have K5 : Aside (Lv10 (st3 u5 (u0.heap.size + 1) (.bool (dN (fo8 Y2))) (.slice a5 (ws (dX (fo8 Y2))).length c5) (.int .i64 (dE (fo8 Y2)))) u0.heap.size Z2 ∧ Lv10 (st3 u5 (u0.heap.size + 1) (.bool (dN (fo8 Y2))) (.slice a5 (ws (dX (fo8 Y2))).length c5) (.int .i64 (dE (fo8 Y2)))) (u0.heap.size + 1) Y2 ∧ Below w.heap.size w (st3 u5 (u0.heap.size + 1) (.bool (dN (fo8 Y2))) (.slice a5 (ws (dX (fo8 Y2))).length c5) (.int .i64 (dE (fo8 Y2))))) :=
            ⟨s1.other s2 (by omega) _ _ _, s2.set (hN5.mono (Nat.zero_le _)), st3_bel b5 b5.size (by have := HG.out; omega) _ _ _⟩
          obtain ⟨a6, c6, D6, N6⟩ := s2
          obtain ⟨z0, z1, z2, zf0, zf1, zf2⟩ := D6.facts
          unfold st3 at K5
          clear D6 N6 hN5 hb5 HAd x0 x1 x2 xf0 xf1 xf2 y0 y1 y2 yf0 yf1 yf2 s1 b5 K4
          go_wp2
          go_roundg (gk - 1)
          case measure => omega
          case rel =>
            obtain ⟨est, hin, hZ, hY⟩ := HN.out
            have q1 : sV (xs.take (i + 1)) = Z2 := by rw [est.1, HZ2.out, hZ]
            have q2 : aV (xs.take (i + 1)) = Y2 := by rw [est.2, HY2.out.1, hY, HQ.out]
            exact ⟨i + 1, by omega, by first | rfl | simp, by rw [q1]; exact K5.out.1, by rw [q2]; exact K5.out.2.1, K5.out.2.2, hin⟩
        · rw [decide_eq_false hneg] at hsd
          obtain ⟨Q, hQ⟩ : ∃ Q, Q = V := ⟨_, rfl⟩
          have HQ := Aside.intro (show Q = (V.natAbs : Int) by omega)
          have K4 : Aside (Lv10 u3 u0.heap.size Z2 ∧ Lv10 u3 (u0.heap.size + 1) Y ∧ Lv10 u3 u.heap.size Q ∧ Below w.heap.size w u3 ∧ u0.heap.size + 1 < u.heap.size) := by rw [hQ]; exact K3.out
          clear hQ hneg K3
          go_upto_region 15 with fail
          obtain ⟨aB, cB, DB, NB⟩ := K4.out.2.1
          obtain ⟨ad, cd, Dd, Nd⟩ := K4.out.2.2.1
          obtain ⟨x0, x1, x2, xf0, xf1, xf2⟩ := DB.facts
          obtain ⟨y0, y1, y2, yf0, yf1, yf2⟩ := Dd.facts
          have lY := fo8_len Y m (by omega) HB.out.1.2
          have hQb : Q.natAbs < 2 ^ m := by rw [HQ.out, Int.natAbs_natCast]; exact HB.out.2.2
          have lQ := fo8_len Q m (by omega) hQb
          have HAd := hid (add_any8 Y Q m (by omega) HB.out.1.2 hQb (dE (fo8 Q)) lQ.2.1 lQ.2.2.1 (dN (fo8 Q)) (dX (fo8 Q)) (fo8_self Q m (by omega) hQb) u3 aB ad cB cd (HT.out.belows K4.out.2.2.2.1) (NB.arg' (Nat.le_trans lY.1 (by decide))).2 (Nd.arg' (Nat.le_trans lQ.1 (by decide))).2)
          obtain ⟨Y2, hY2⟩ : ∃ Y2, Y2 = Y + Q := ⟨_, rfl⟩
          rw [← hY2] at HAd
          have hY2b : Y2.natAbs < 2 ^ m := by rw [hY2, HQ.out]; exact HB.out.2.1.2
          have HY2 := Aside.intro (And.intro hY2 hY2b)
          clear DB NB Dd Nd lY lQ hQb hY2 hY2b
          go_wp2_with fail
          with_reducible refine HAd.out.mono ?_
          rintro r u5 ⟨⟨v5, rfl, hN5⟩, hb5⟩
          obtain ⟨a5, c5, rfl, _⟩ := hN5.arg (Nat.le_trans (fo8_len Y2 m (by omega) HY2.out.2).1 (by decide))
          have s1 := K4.out.1.below hb5
          have s2 := K4.out.2.1.below hb5
          have b5 := K4.out.2.2.2.1.trans (hb5.mono K4.out.2.2.2.1.size)
          have K5 : Aside (Lv10 (st3 u5 (u0.heap.size + 1) (.bool (dN (fo8 Y2))) (.slice a5 (ws (dX (fo8 Y2))).length c5) (.int .i64 (dE (fo8 Y2)))) u0.heap.size Z2 ∧ Lv10 (st3 u5 (u0.heap.size + 1) (.bool (dN (fo8 Y2))) (.slice a5 (ws (dX (fo8 Y2))).length c5) (.int .i64 (dE (fo8 Y2)))) (u0.heap.size + 1) Y2 ∧ Below w.heap.size w (st3 u5 (u0.heap.size + 1) (.bool (dN (fo8 Y2))) (.slice a5 (ws (dX (fo8 Y2))).length c5) (.int .i64 (dE (fo8 Y2))))) :=
            ⟨s1.other s2 (by omega) _ _ _, s2.set (hN5.mono (Nat.zero_le _)), st3_bel b5 b5.size (by have := HG.out; omega) _ _ _⟩
          obtain ⟨a6, c6, D6, N6⟩ := s2
          obtain ⟨z0, z1, z2, zf0, zf1, zf2⟩ := D6.facts
          unfold st3 at K5
          clear D6 N6 hN5 hb5 HAd x0 x1 x2 xf0 xf1 xf2 y0 y1 y2 yf0 yf1 yf2 s1 b5 K4
          go_wp2
          go_roundg (gk - 1)
          case measure => omega
          case rel =>
            obtain ⟨est, hin, hZ, hY⟩ := HN.out
            have q1 : sV (xs.take (i + 1)) = Z2 := by rw [est.1, HZ2.out, hZ]
            have q2 : aV (xs.take (i + 1)) = Y2 := by rw [est.2, HY2.out.1, hY, HQ.out]
            exact ⟨i + 1, by omega, by first | rfl | simp, by rw [q1]; exact K5.out.1, by rw [q2]; exact K5.out.2.1, K5.out.2.2, hin⟩
      · obtain ⟨s, e, f, he, hf2, h1, _⟩ := bwz y hyw
        have he2 : e = 2047 := by
          have : magW y = e * 4503599627370496 + f := by
            rw [h1]
            unfold magW B.bw
            cases s <;> simp <;> omega
          unfold finW at hf
          omega
        have HO := Of_any s e f he hf2 wr (HT.out.belows HW.out.2.2.1)
        rw [← h1, show ofR s e f = none by unfold ofR; rw [if_pos he2], show ofE e = 30 by unfold ofE; rw [if_pos he2]] at HO
        have HO := hid HO
        clear he hf2 h1 he2 hf hy hyw
        go_wp2_with fail
        with_reducible refine HO.out.mono ?_
        rintro r u ⟨⟨v1, rfl, hN1⟩, hb1⟩
        obtain ⟨a1, c1, rfl, _⟩ := hN1.arg (by simp [dX, ws_zero])
        have KB := Aside.intro (HW.out.2.2.1.trans (hb1.mono HW.out.2.2.1.size))
        clear hN1 hb1 HO
        go_wp2
        go_ret
        exact ⟨rfl, KB.out.trans ((below_alloc _ _).mono KB.out.size)⟩
    · have hge : n ≤ i := by omega
      have hie : i = n := by omega
      have etk : xs.take i = xs := by rw [List.take_of_length_le]; rw [HX.out.1]; omega
      obtain ⟨k1, k2, k3, k4⟩ := HW.out
      rw [etk] at k1 k2 k4
      have bb := bd10 xs k4 (by rw [HX.out.1]; omega) m hm
      have K := Aside.intro (And.intro k1 (And.intro k2 k3))
      have HB := Aside.intro bb
      clear k1 k2 k3 k4 bb etk HW hie
      by_cases hz : n = 0
      · subst hz
        go_wp2
        go_ret
        exact ⟨rfl, K.out.2.2⟩
      have hz0 : ((n : Int) == 0) = false := by simp; omega
      have hn1 : 1 ≤ n := by omega
      have hyne : xs ≠ [] := by intro e; have := HX.out.1; rw [e] at this; simp at this; omega
      obtain ⟨S, hS⟩ : ∃ S, S = sV xs := ⟨_, rfl⟩
      obtain ⟨A, hA⟩ : ∃ A, A = aV xs := ⟨_, rfl⟩
      rw [← hS, ← hA] at K HB
      have hNr : ∀ x : Nat, (finW x → Nr xs.length (sV xs) (aV xs) (fvW x)) → (finW x → Nr (n - 1 + 1) S A (fvW x)) := fun x h hf => by
        have := h hf
        rw [HX.out.1, ← hS, ← hA] at this
        rw [show n - 1 + 1 = n by omega]
        exact this
      have hFs : ∀ u : World, Below w.heap.size w u → Fs u.heap.size u a xs := fun u hb => (HX.out.2.1.below hb).mono hb.size
      have key : ∃ (X : Nat) (E : Int), Hid (∀ u : World, Below w.heap.size w u → Calls Tryz.prog 19 #[.slice a n c, .int .i64 size] u fun r w' => r = .returned (.tuple #[.float .f64 X, .int .i64 E]) ∧ Below u.heap.size u w') ∧ X < 18446744073709551616 ∧ (E = 0 → finW X → Nr (n - 1 + 1) S A (fvW X)) ∧ (E = 0 ∨ E = 1) := by
        by_cases h1 : size < 1 ∨ 65536 < size
        · exact ⟨0, 1, fun u _ => Blocked10_arg a n c size u h1, by decide, fun h _ => absurd h (by decide), .inr rfl⟩
        · obtain ⟨s, rfl⟩ : ∃ s : Nat, size = (s : Int) := ⟨size.toNat, by omega⟩
          refine ⟨blF s xs, 0, fun u hb => Blocked10 xs a n c s u HX.out.1.symm (hFs u hb) HX.out.2.2 (by omega) (by omega) (by omega) (by omega), ?_, fun _ => hNr _ (fun hf => bl_near s xs (by omega) HX.out.2.2 hyne hf), .inl rfl⟩
          exact (runF_ok _ (bkL_wf HX.out.2.2 _)).1
      obtain ⟨X, E, HBl, hX, hXN, hE⟩ := key
      have HRn := hid (fun (u : World) (hb : Below w.heap.size w u) => Running10 xs a n c u HX.out.1.symm (hFs u hb) HX.out.2.2 (by omega) (by omega))
      have HHv := hid (fun (u : World) (hb : Below w.heap.size w u) => Halving10 xs a n c u HX.out.1.symm (hFs u hb) HX.out.2.2 (by omega))
      have hcast : ((n - 1 : Nat) : Int) = ((n : Int) - 1) := by omega
      have HOf : ∀ x : Nat, x < 18446744073709551616 → Hid (∀ (u : World) (a0 aB : Option Addr) (c0 cB : Nat), Below w.heap.size w u → Arg u a0 (ws (dX (fo8 S))).length c0 (ws (dX (fo8 S))) → Arg u aB (ws (dX (fo8 A))).length cB (ws (dX (fo8 A))) → Calls Tryz.prog 25 #[.float .f64 x, .agg #[.bool (dN (fo8 S)), .slice a0 (ws (dX (fo8 S))).length c0, .int .i64 (dE (fo8 S))], .int .i64 ((n : Int) - 1), .agg #[.bool (dN (fo8 A)), .slice aB (ws (dX (fo8 A))).length cB, .int .i64 (dE (fo8 A))]] u fun r w' => (∃ b, r = .returned (.bool b) ∧ ((finW x → Nr (n - 1 + 1) S A (fvW x)) → b = true)) ∧ Below u.heap.size u w') := fun x hx u a0 aB c0 cB hb h1 h2 => by
        have := off10 x (n - 1) S A m hm u (HT.out.belows hb) hx (by omega) HB.out.1 HB.out.2 a0 aB c0 cB h1 h2
        rw [hcast] at this
        exact this
      have hT1 : ∀ x : Nat, x < 18446744073709551616 → (finW x → Nr (n - 1 + 1) S A (fvW x)) → Hid (∀ (u : World) (a0 aB : Option Addr) (c0 cB : Nat), Below w.heap.size w u → Arg u a0 (ws (dX (fo8 S))).length c0 (ws (dX (fo8 S))) → Arg u aB (ws (dX (fo8 A))).length cB (ws (dX (fo8 A))) → Calls Tryz.prog 25 #[.float .f64 x, .agg #[.bool (dN (fo8 S)), .slice a0 (ws (dX (fo8 S))).length c0, .int .i64 (dE (fo8 S))], .int .i64 ((n : Int) - 1), .agg #[.bool (dN (fo8 A)), .slice aB (ws (dX (fo8 A))).length cB, .int .i64 (dE (fo8 A))]] u fun r w' => r = .returned (.bool true) ∧ Below u.heap.size u w') := fun x hx hn u a0 aB c0 cB hb h1 h2 => by
        refine ((HOf x hx).out u a0 aB c0 cB hb h1 h2).mono ?_
        rintro r w' ⟨⟨b, rfl, h⟩, hb'⟩
        rw [h hn]
        exact ⟨rfl, hb'⟩
      have HO1 := hT1 (runF xs) (runF_ok _ HX.out.2.2).1 (hNr _ (fun hf => run_near xs HX.out.2.2 hyne hf))
      have HO2 := hT1 (hvF xs) (hv_lt _ HX.out.2.2) (hNr _ (fun hf => hv_near xs.length xs (Nat.le_refl _) HX.out.2.2 hyne hf))
      have HO3 := HOf X hX
      obtain ⟨v1, hv1⟩ : ∃ v, v = runF xs := ⟨_, rfl⟩
      obtain ⟨v2, hv2⟩ : ∃ v, v = hvF xs := ⟨_, rfl⟩
      rw [← hv1] at HO1 HRn
      rw [← hv2] at HO2 HHv
      have lS : Aside ((ws (dX (fo8 S))).length ≤ 8192) := (fo8_len S m (by omega) HB.out.1).1
      have lA : Aside ((ws (dX (fo8 A))).length ≤ 8192) := (fo8_len A m (by omega) HB.out.2).1
      have HE := Aside.intro (And.intro hXN hE)
      have hww : IntKind.i64.wrap ((n : Int) - 1) = (n : Int) - 1 := by rw [IntKind.wrap_i64]; omega
      clear hS hA hNr hFs hX hXN hv1 hv2 HOf hT1 hcast hyne hE HB
      go_wp2_with fail
      with_reducible refine (HBl.out _ K.out.2.2).mono ?_
      rintro r u1 ⟨rfl, hb⟩
      obtain ⟨a0, c0, D0, N0⟩ := K.out.1.below hb
      obtain ⟨aB, cB, DB, NB⟩ := K.out.2.1.below hb
      have HD := Aside.intro (And.intro D0 (And.intro N0 (And.intro DB (And.intro NB (K.out.2.2.trans (hb.mono K.out.2.2.size))))))
      clear D0 N0 DB NB hb HBl K
      go_upto_region 19 with fail
      have hdr := (Below.refl u1.heap.size u1).drew
      have HD := Aside.intro (And.intro (HD.out.1.below hdr) (And.intro (HD.out.2.1.below hdr) (And.intro (HD.out.2.2.1.below hdr) (And.intro (HD.out.2.2.2.1.below hdr) (HD.out.2.2.2.2.trans (hdr.mono HD.out.2.2.2.2.size))))))
      clear hdr
      have kS := Aside.intro (And.intro HD.out.1.facts.1 (And.intro HD.out.1.facts.2.1 (And.intro HD.out.1.facts.2.2.1 (And.intro HD.out.2.2.1.facts.1 (And.intro HD.out.2.2.1.facts.2.1 HD.out.2.2.1.facts.2.2.1)))))
      go_region_held3 (fun w' => w'.cell? ⟨u0.heap.size, 0, none⟩ = some (.bool (dN (fo8 S))) ∧ w'.cell? ⟨u0.heap.size, 1, none⟩ = some (.slice a0 (ws (dX (fo8 S))).length c0) ∧ w'.cell? ⟨u0.heap.size, 2, none⟩ = some (.int .i64 (dE (fo8 S))) ∧ w'.cell? ⟨u0.heap.size + 1, 0, none⟩ = some (.bool (dN (fo8 A))) ∧ w'.cell? ⟨u0.heap.size + 1, 1, none⟩ = some (.slice aB (ws (dX (fo8 A))).length cB) ∧ w'.cell? ⟨u0.heap.size + 1, 2, none⟩ = some (.int .i64 (dE (fo8 A)))) (with_reducible exact kS.out) (first
        | (go_at_call 9
           with_reducible refine (HRn.out _ HD.out.2.2.2.2).mono ?_
           rintro r v ⟨rfl, hb⟩
           have HD := Aside.intro (And.intro (HD.out.1.below hb) (And.intro (HD.out.2.1.below hb) (And.intro (HD.out.2.2.1.below hb) (And.intro (HD.out.2.2.2.1.below hb) (HD.out.2.2.2.2.trans (hb.mono HD.out.2.2.2.2.size))))))
           have kS := Aside.intro (And.intro HD.out.1.facts.1 (And.intro HD.out.1.facts.2.1 (And.intro HD.out.1.facts.2.2.1 (And.intro HD.out.2.2.1.facts.1 (And.intro HD.out.2.2.1.facts.2.1 HD.out.2.2.1.facts.2.2.1)))))
           clear hb)
        | (go_at_call 25
           with_reducible refine (HO1.out _ a0 aB c0 cB HD.out.2.2.2.2 (HD.out.2.1.arg' (Nat.le_trans lS.out (by decide))).2 (HD.out.2.2.2.1.arg' (Nat.le_trans lA.out (by decide))).2).mono ?_
           rintro r v ⟨rfl, hb⟩
           have HD := Aside.intro (And.intro (HD.out.1.below hb) (And.intro (HD.out.2.1.below hb) (And.intro (HD.out.2.2.1.below hb) (And.intro (HD.out.2.2.2.1.below hb) (HD.out.2.2.2.2.trans (hb.mono HD.out.2.2.2.2.size))))))
           have kS := Aside.intro (And.intro HD.out.1.facts.1 (And.intro HD.out.1.facts.2.1 (And.intro HD.out.1.facts.2.2.1 (And.intro HD.out.2.2.1.facts.1 (And.intro HD.out.2.2.1.facts.2.1 HD.out.2.2.1.facts.2.2.1)))))
           clear hb))
      clear kS
      go_upto_region 20 with fail
      have hdr := (Below.refl v.heap.size v).drew
      have HD := Aside.intro (And.intro (HD.out.1.below hdr) (And.intro (HD.out.2.1.below hdr) (And.intro (HD.out.2.2.1.below hdr) (And.intro (HD.out.2.2.2.1.below hdr) (HD.out.2.2.2.2.trans (hdr.mono HD.out.2.2.2.2.size))))))
      clear hdr
      have kS := Aside.intro (And.intro HD.out.1.facts.1 (And.intro HD.out.1.facts.2.1 (And.intro HD.out.1.facts.2.2.1 (And.intro HD.out.2.2.1.facts.1 (And.intro HD.out.2.2.1.facts.2.1 HD.out.2.2.1.facts.2.2.1)))))
      go_region_held3 (fun w' => w'.cell? ⟨u0.heap.size, 0, none⟩ = some (.bool (dN (fo8 S))) ∧ w'.cell? ⟨u0.heap.size, 1, none⟩ = some (.slice a0 (ws (dX (fo8 S))).length c0) ∧ w'.cell? ⟨u0.heap.size, 2, none⟩ = some (.int .i64 (dE (fo8 S))) ∧ w'.cell? ⟨u0.heap.size + 1, 0, none⟩ = some (.bool (dN (fo8 A))) ∧ w'.cell? ⟨u0.heap.size + 1, 1, none⟩ = some (.slice aB (ws (dX (fo8 A))).length cB) ∧ w'.cell? ⟨u0.heap.size + 1, 2, none⟩ = some (.int .i64 (dE (fo8 A)))) (with_reducible exact kS.out) (first
        | (go_at_call 10
           with_reducible refine (HHv.out _ HD.out.2.2.2.2).mono ?_
           rintro r v ⟨rfl, hb⟩
           have HD := Aside.intro (And.intro (HD.out.1.below hb) (And.intro (HD.out.2.1.below hb) (And.intro (HD.out.2.2.1.below hb) (And.intro (HD.out.2.2.2.1.below hb) (HD.out.2.2.2.2.trans (hb.mono HD.out.2.2.2.2.size))))))
           have kS := Aside.intro (And.intro HD.out.1.facts.1 (And.intro HD.out.1.facts.2.1 (And.intro HD.out.1.facts.2.2.1 (And.intro HD.out.2.2.1.facts.1 (And.intro HD.out.2.2.1.facts.2.1 HD.out.2.2.1.facts.2.2.1)))))
           clear hb)
        | (go_at_call 25
           with_reducible refine (HO2.out _ a0 aB c0 cB HD.out.2.2.2.2 (HD.out.2.1.arg' (Nat.le_trans lS.out (by decide))).2 (HD.out.2.2.2.1.arg' (Nat.le_trans lA.out (by decide))).2).mono ?_
           rintro r v ⟨rfl, hb⟩
           have HD := Aside.intro (And.intro (HD.out.1.below hb) (And.intro (HD.out.2.1.below hb) (And.intro (HD.out.2.2.1.below hb) (And.intro (HD.out.2.2.2.1.below hb) (HD.out.2.2.2.2.trans (hb.mono HD.out.2.2.2.2.size))))))
           have kS := Aside.intro (And.intro HD.out.1.facts.1 (And.intro HD.out.1.facts.2.1 (And.intro HD.out.1.facts.2.2.1 (And.intro HD.out.2.2.1.facts.1 (And.intro HD.out.2.2.1.facts.2.1 HD.out.2.2.1.facts.2.2.1)))))
           clear hb))
      clear kS
      obtain ⟨p0, p1, p2, _, _, _⟩ := HD.out.1.facts
      obtain ⟨q0, q1, q2, _, _, _⟩ := HD.out.2.2.1.facts
      go_wp2_with fail
      with_reducible refine (HO3.out _ a0 aB c0 cB HD.out.2.2.2.2 (HD.out.2.1.arg' (Nat.le_trans lS.out (by decide))).2 (HD.out.2.2.2.1.arg' (Nat.le_trans lA.out (by decide))).2).mono ?_
      rintro r v3 ⟨⟨b3, rfl, h3⟩, hb⟩
      have HF := Aside.intro (HD.out.2.2.2.2.trans (hb.mono HD.out.2.2.2.2.size))
      have h3' : b3 = true ∨ E = 1 := by
        rcases HE.out.2 with h | h
        · exact .inl (h3 (HE.out.1 h))
        · exact .inr h
      clear h3 hb p0 p1 p2 q0 q1 q2 HO1 HO2 HO3 HRn HHv HE
      rcases h3' with rfl | rfl
      · go_wp2
        go_ret
        exact ⟨rfl, HF.out⟩
      · cases b3
        · go_wp2
          go_ret
          exact ⟨rfl, HF.out⟩
        · go_wp2
          go_ret
          exact ⟨rfl, HF.out⟩
end Go.Proofs.YteoednbmhiblfaaGreatDoor

/- SumsNear: longer lists. -/
namespace Go.Proofs.YteoednbmhiblfaaGreatDoor
open Go.RowKit J
set_option linter.unusedVariables false
set_option maxRecDepth 20000
set_option linter.unusedSimpArgs false

set_option maxHeartbeats 8000000 in
theorem near_big (a : Option Addr) (n c : Nat) (xs : List Nat) (size : Int) (w : World) (hT : Tab w) (hC : CameF w a n c xs) (hn : 300 < n) :
    Calls Tryz.prog 5 #[.slice a n c, .int .i64 size] w fun r w' => r = .returned (.bool true) ∧ Below w.heap.size w w' := by
  obtain ⟨hlen, hcap, hW, hF, _⟩ := hC
  have HL := hid (live10 w hT)
  have HT := Aside.intro hT
  have HX : Aside ((xs.take 300).length = 300 ∧ Fs w.heap.size w a (xs.take 300) ∧ W64 (xs.take 300)) := by
    refine ⟨by rw [List.length_take]; omega, ?_, fun x hx => hW x (List.mem_of_mem_take hx)⟩
    obtain ⟨b, off, h1, rfl, h3⟩ := hF (by intro e; subst e; simp at hlen; omega)
    have := hF.piece 0 300 (by omega)
    rwa [List.drop_zero, Nat.add_zero] at this
  have hc3 : 300 ≤ c := by omega
  have hd : decide ((300 : Int) < (n : Int)) = true := by simp; omega
  obtain ⟨ys, hys⟩ : ∃ ys, ys = xs.take 300 := ⟨_, rfl⟩
  rw [← hys] at HX
  clear hlen hW hF hys hT
  go_enter Tryz.func5, Tryz.ntmps5
  go_wp2_with fail
  refine HL.out.mono ?_
  rintro r u0 ⟨rfl, hb⟩
  have B0 := Aside.intro hb
  clear hb HL
  obtain ⟨m, hm⟩ : ∃ m, m = 2200 := ⟨_, rfl⟩
  obtain ⟨W, hW⟩ : ∃ W, W = (u0.alloc (Obj.cells #[.bool false, .slice none 0 0, .int .i64 0] 37)).alloc (Obj.cells #[.bool false, .slice none 0 0, .int .i64 0] 37) := ⟨_, rfl⟩
  have H0 : Aside (Lv10 W u0.heap.size (sV (ys.take 0)) ∧ Lv10 W (u0.heap.size + 1) (aV (ys.take 0)) ∧ Below w.heap.size w W) := by
    rw [hW]
    have h2 := Lv10.zero (u0.alloc (Obj.cells #[.bool false, .slice none 0 0, .int .i64 0] 37))
    rw [World.size_alloc] at h2
    exact ⟨(Lv10.zero u0).below (below_alloc _ _), h2, (B0.out.trans ((below_alloc _ _).mono B0.out.size)).trans ((below_alloc _ _).mono (Nat.le_trans B0.out.size (by simp)))⟩
  have HG : Aside (w.heap.size ≤ u0.heap.size) := B0.out.size
  have hne : u0.heap.size ≠ u0.heap.size + 1 := by omega
  go_wp2_with fail
  rw [← hW]
  clear hW
  go_loopg [8] 300 (fun gk iv wr => ∃ i : Nat, gk + i = 300 ∧ iv = .int .i64 (i : Nat) ∧ Aside (Lv10 wr u0.heap.size (sV (ys.take i)) ∧ Lv10 wr (u0.heap.size + 1) (aV (ys.take i)) ∧ Below w.heap.size w wr ∧ ∀ x ∈ ys.take i, x < 18446744073709551616 ∧ finW x))
  case atStart => exact ⟨0, by omega, by simp, H0.out.1, H0.out.2.1, H0.out.2.2, fun x hx => by simp at hx⟩
  case round =>
    clear H0
    obtain ⟨i, hgi, rfl, HW⟩ := hrel
    by_cases hi : i < 300
    · obtain ⟨b, off, rfl, hc⟩ := HX.out.2.1.at HW.out.2.2.1 i (by rw [HX.out.1]; exact hi)
      obtain ⟨y, hy⟩ : ∃ y, y = ys.getD i 0 := ⟨_, rfl⟩
      rw [← hy] at hc
      have hyw : y < 18446744073709551616 := by rw [hy]; exact HX.out.2.2.get i
      have hib : i < 4611686018427387904 := by omega
      by_cases hf : finW y
      · have hin : ∀ x ∈ ys.take (i + 1), x < 18446744073709551616 ∧ finW x := fun x hx => by
          rw [take_snoc10 _ i (by rw [HX.out.1]; exact hi)] at hx
          rcases List.mem_append.1 hx with h | h
          · exact HW.out.2.2.2 x h
          · have : x = y := by rw [hy]; simpa using h
            rw [this]; exact ⟨hyw, hf⟩
        have b0 := bd10 (ys.take i) HW.out.2.2.2 (by rw [List.length_take]; omega) m hm
        have b1 := bd10 (ys.take (i + 1)) hin (by rw [List.length_take]; omega) m hm
        have est := sV_take ys i (by rw [HX.out.1]; exact hi)
        rw [← hy] at est
        obtain ⟨V, hV⟩ : ∃ V, V = fvW y := ⟨_, rfl⟩
        have hVb : V.natAbs < 2 ^ m := by
          obtain ⟨z, hz⟩ : ∃ z, z = 2098 := ⟨_, rfl⟩
          rw [hV]
          exact Nat.lt_of_lt_of_le (top_fv hyw hf z hz) (Nat.pow_le_pow_right (by decide) (by omega))
        have HO := hid (of_any8 y ⟨hyw, hf⟩ wr (HT.out.belows HW.out.2.2.1))
        rw [← hV] at HO est
        obtain ⟨Z, hZ⟩ : ∃ Z, Z = sV (ys.take i) := ⟨_, rfl⟩
        obtain ⟨Y, hY⟩ : ∃ Y, Y = aV (ys.take i) := ⟨_, rfl⟩
        have HN := Aside.intro (And.intro est (And.intro hin (And.intro hZ hY)))
        have HWL : Aside (Lv10 wr u0.heap.size Z ∧ Lv10 wr (u0.heap.size + 1) Y ∧ Below w.heap.size w wr) := by rw [hZ, hY]; exact ⟨HW.out.1, HW.out.2.1, HW.out.2.2.1⟩
        rw [← hZ, ← hY] at b0
        rw [est.1, est.2, ← hZ, ← hY] at b1
        have HB := Aside.intro (And.intro b0 (And.intro b1 hVb))
        have lV := fo8_len V m (by omega) hVb
        have HLV := Aside.intro lV
        clear hy hZ hY hV b0 b1 est hin HW lV hf hyw hVb
        go_wp2_with fail
        with_reducible refine HO.out.mono ?_
        rintro r u ⟨⟨v1, rfl, hN1⟩, hb1⟩
        obtain ⟨a1, c1, rfl, _⟩ := hN1.arg (Nat.le_trans HLV.out.1 (by decide))
        obtain ⟨U, hU⟩ : ∃ U, U = u.alloc (Obj.cells #[.bool (dN (fo8 V)), .slice a1 (ws (dX (fo8 V))).length c1, .int .i64 (dE (fo8 V))] 37) := ⟨_, rfl⟩
        have bU : Below wr.heap.size wr U := by rw [hU]; exact hb1.trans ((below_alloc _ _).mono hb1.size)
        have HU : Aside (Lv10 U u0.heap.size Z ∧ Lv10 U (u0.heap.size + 1) Y ∧ Lv10 U u.heap.size V ∧ Below w.heap.size w U ∧ u0.heap.size + 1 < u.heap.size) := by
          refine ⟨HWL.out.1.below bU, HWL.out.2.1.below bU, ?_, HWL.out.2.2.trans (bU.mono HWL.out.2.2.size), ?_⟩
          · rw [hU]; exact Lv10.new (hN1.mono (Nat.zero_le _))
          · have := HWL.out.2.1.lt; have := hb1.size; omega
        have HUU := Aside.intro hU
        clear hU hN1 hb1 bU hc HO HWL
        go_upto_region 12 with fail
        rw [← HUU.out]
        clear HUU
        obtain ⟨a0, c0, D0, N0⟩ := HU.out.1
        obtain ⟨ad, cd, Dd, Nd⟩ := HU.out.2.2.1
        obtain ⟨x0, x1, x2, xf0, xf1, xf2⟩ := D0.facts
        obtain ⟨y0, y1, y2, yf0, yf1, yf2⟩ := Dd.facts
        have lZ := fo8_len Z m (by omega) HB.out.1.1
        have HAd := hid (add_any8 Z V m (by omega) HB.out.1.1 HB.out.2.2 (dE (fo8 V)) HLV.out.2.1 HLV.out.2.2.1 (dN (fo8 V)) (dX (fo8 V)) (fo8_self V m (by omega) HB.out.2.2) U a0 ad c0 cd (HT.out.belows HU.out.2.2.2.1) (N0.arg' (Nat.le_trans lZ.1 (by decide))).2 (Nd.arg' (Nat.le_trans HLV.out.1 (by decide))).2)
        clear D0 N0 Dd Nd lZ
        go_wp2_with fail
        with_reducible refine HAd.out.mono ?_
        rintro r u2 ⟨⟨v2, rfl, hN2⟩, hb2⟩
        obtain ⟨Z2, hZ2⟩ : ∃ Z2, Z2 = Z + V := ⟨_, rfl⟩
        rw [← hZ2] at hN2 HB ⊢
        have HZ2 := Aside.intro hZ2
        obtain ⟨a2, c2, rfl, _⟩ := hN2.arg (Nat.le_trans (fo8_len Z2 m (by omega) HB.out.2.1.1).1 (by decide))
        obtain ⟨U2, hU2⟩ : ∃ U2, U2 = st3 u2 u0.heap.size (.bool (dN (fo8 Z2))) (.slice a2 (ws (dX (fo8 Z2))).length c2) (.int .i64 (dE (fo8 Z2))) := ⟨_, rfl⟩
        have s1 := HU.out.1.below hb2
        have s2 := HU.out.2.1.below hb2
        have s3 := HU.out.2.2.1.below hb2
        have b2 := HU.out.2.2.2.1.trans (hb2.mono HU.out.2.2.2.1.size)
        have K2 : Aside (Lv10 U2 u0.heap.size Z2 ∧ Lv10 U2 (u0.heap.size + 1) Y ∧ Lv10 U2 u.heap.size V ∧ Below w.heap.size w U2 ∧ u0.heap.size + 1 < u.heap.size) := by
          rw [hU2]
          have h5 := HU.out.2.2.2.2
          exact ⟨s1.set (hN2.mono (Nat.zero_le _)), s2.other s1 (by omega) _ _ _, s3.other s1 (by omega) _ _ _, st3_bel b2 b2.size HG.out _ _ _, h5⟩
        obtain ⟨a3, c3, D3, N3⟩ := s1
        obtain ⟨z0, z1, z2, zf0, zf1, zf2⟩ := D3.facts
        unfold st3 at hU2
        have HU2 := Aside.intro hU2
        clear D3 N3 hN2 hb2 HAd HU x0 x1 x2 xf0 xf1 xf2 y0 y1 y2 yf0 yf1 yf2 s2 s3 b2 hU2 hZ2
        go_upto_region 13 with fail
        rw [← HU2.out]
        clear HU2 z0 z1 z2 zf0 zf1 zf2
        obtain ⟨ad, cd, Dd, Nd⟩ := K2.out.2.2.1
        obtain ⟨y0, y1, y2, yf0, yf1, yf2⟩ := Dd.facts
        have HSg := hid (Sign_any3 (Nd.arg' (Nat.le_trans HLV.out.1 (by decide))).2 (dN (fo8 V)) (dE (fo8 V)))
        rw [val_ws] at HSg
        obtain ⟨sg, hsg⟩ : ∃ sg, sg = sgn (dN (fo8 V)) (dX (fo8 V)) := ⟨_, rfl⟩
        rw [← hsg] at HSg
        have hsd := sgn_neg10 V m (by omega) HB.out.2.2
        rw [← hsg] at hsd
        clear Dd Nd hsg
        go_wp2_with fail
        with_reducible refine HSg.out.mono ?_
        rintro r u3 ⟨rfl, hb3⟩
        have K3 := Aside.intro (And.intro (K2.out.1.below hb3) (And.intro (K2.out.2.1.below hb3) (And.intro (K2.out.2.2.1.below hb3) (And.intro (K2.out.2.2.2.1.trans (hb3.mono K2.out.2.2.2.1.size)) K2.out.2.2.2.2))))
        clear hb3 HSg K2 y0 y1 y2 yf0 yf1 yf2
        by_cases hneg : V < 0
        · rw [decide_eq_true hneg] at hsd
          obtain ⟨Q, hQ⟩ : ∃ Q, Q = -V := ⟨_, rfl⟩
          have HQ := Aside.intro (show Q = (V.natAbs : Int) by omega)
          obtain ⟨ad, cd, Dd, Nd⟩ := K3.out.2.2.1
          obtain ⟨y0, y1, y2, yf0, yf1, yf2⟩ := Dd.facts
          have HNg := Neg_any (Nd.arg' (Nat.le_trans HLV.out.1 (by decide))).2 (HT.out.belows K3.out.2.2.2.1) (dN (fo8 V)) (dE (fo8 V)) HLV.out.2.1 HLV.out.2.2.1
          rw [val_ws, fo8_neg V m (by omega) HB.out.2.2, ← hQ] at HNg
          have HNg := hid HNg
          have HQL : Aside ((ws (dX (fo8 Q))).length ≤ 8192) := (fo8_len Q m (by omega) (by rw [HQ.out, Int.natAbs_natCast]; exact HB.out.2.2)).1
          clear Dd Nd hQ hneg
          go_wp2_with fail
          with_reducible refine HNg.out.mono ?_
          rintro r u4 ⟨⟨v3, rfl, hN3⟩, hb4⟩
          obtain ⟨a3', c3', rfl, _⟩ := hN3.arg (Nat.le_trans HQL.out (by decide))
          obtain ⟨U4, hU4⟩ : ∃ U4, U4 = st3 u4 u.heap.size (.bool (dN (fo8 Q))) (.slice a3' (ws (dX (fo8 Q))).length c3') (.int .i64 (dE (fo8 Q))) := ⟨_, rfl⟩
          have s1 := K3.out.1.below hb4
          have s2 := K3.out.2.1.below hb4
          have s3 := K3.out.2.2.1.below hb4
          have b4 := K3.out.2.2.2.1.trans (hb4.mono K3.out.2.2.2.1.size)
          have K4 : Aside (Lv10 U4 u0.heap.size Z2 ∧ Lv10 U4 (u0.heap.size + 1) Y ∧ Lv10 U4 u.heap.size Q ∧ Below w.heap.size w U4 ∧ u0.heap.size + 1 < u.heap.size) := by
            rw [hU4]
            have h5 := K3.out.2.2.2.2
            exact ⟨s1.other s3 (by omega) _ _ _, s2.other s3 (by omega) _ _ _, s3.set (hN3.mono (Nat.zero_le _)), st3_bel b4 b4.size (by have := HG.out; omega) _ _ _, h5⟩
          obtain ⟨a6, c6, D6, N6⟩ := s3
          obtain ⟨z0, z1, z2, zf0, zf1, zf2⟩ := D6.facts
          unfold st3 at hU4
          have HU4 := Aside.intro hU4
          clear D6 N6 hN3 hb4 HNg y0 y1 y2 yf0 yf1 yf2 s1 s2 b4 hU4 K3
          go_upto_region 15 with fail
          rw [← HU4.out]
          clear HU4 z0 z1 z2 zf0 zf1 zf2
          obtain ⟨aB, cB, DB, NB⟩ := K4.out.2.1
          obtain ⟨ad, cd, Dd, Nd⟩ := K4.out.2.2.1
          obtain ⟨x0, x1, x2, xf0, xf1, xf2⟩ := DB.facts
          obtain ⟨y0, y1, y2, yf0, yf1, yf2⟩ := Dd.facts
          have lY := fo8_len Y m (by omega) HB.out.1.2
          have hQb : Q.natAbs < 2 ^ m := by rw [HQ.out, Int.natAbs_natCast]; exact HB.out.2.2
          have lQ := fo8_len Q m (by omega) hQb
          have HAd := hid (add_any8 Y Q m (by omega) HB.out.1.2 hQb (dE (fo8 Q)) lQ.2.1 lQ.2.2.1 (dN (fo8 Q)) (dX (fo8 Q)) (fo8_self Q m (by omega) hQb) U4 aB ad cB cd (HT.out.belows K4.out.2.2.2.1) (NB.arg' (Nat.le_trans lY.1 (by decide))).2 (Nd.arg' (Nat.le_trans lQ.1 (by decide))).2)
          obtain ⟨Y2, hY2⟩ : ∃ Y2, Y2 = Y + Q := ⟨_, rfl⟩
          rw [← hY2] at HAd
          have hY2b : Y2.natAbs < 2 ^ m := by rw [hY2, HQ.out]; exact HB.out.2.1.2
          have HY2 := Aside.intro (And.intro hY2 hY2b)
          clear DB NB Dd Nd lY lQ hQb hY2 hY2b
          go_wp2_with fail
          with_reducible refine HAd.out.mono ?_
          rintro r u5 ⟨⟨v5, rfl, hN5⟩, hb5⟩
          obtain ⟨a5, c5, rfl, _⟩ := hN5.arg (Nat.le_trans (fo8_len Y2 m (by omega) HY2.out.2).1 (by decide))
          have s1 := K4.out.1.below hb5
          have s2 := K4.out.2.1.below hb5
          have b5 := K4.out.2.2.2.1.trans (hb5.mono K4.out.2.2.2.1.size)
          have K5 : Aside (Lv10 (st3 u5 (u0.heap.size + 1) (.bool (dN (fo8 Y2))) (.slice a5 (ws (dX (fo8 Y2))).length c5) (.int .i64 (dE (fo8 Y2)))) u0.heap.size Z2 ∧ Lv10 (st3 u5 (u0.heap.size + 1) (.bool (dN (fo8 Y2))) (.slice a5 (ws (dX (fo8 Y2))).length c5) (.int .i64 (dE (fo8 Y2)))) (u0.heap.size + 1) Y2 ∧ Below w.heap.size w (st3 u5 (u0.heap.size + 1) (.bool (dN (fo8 Y2))) (.slice a5 (ws (dX (fo8 Y2))).length c5) (.int .i64 (dE (fo8 Y2))))) :=
            ⟨s1.other s2 (by omega) _ _ _, s2.set (hN5.mono (Nat.zero_le _)), st3_bel b5 b5.size (by have := HG.out; omega) _ _ _⟩
          obtain ⟨a6, c6, D6, N6⟩ := s2
          obtain ⟨z0, z1, z2, zf0, zf1, zf2⟩ := D6.facts
          unfold st3 at K5
          clear D6 N6 hN5 hb5 HAd x0 x1 x2 xf0 xf1 xf2 y0 y1 y2 yf0 yf1 yf2 s1 b5 K4
          go_wp2
          go_roundg (gk - 1)
          case measure => omega
          case rel =>
            obtain ⟨est, hin, hZ, hY⟩ := HN.out
            have q1 : sV (ys.take (i + 1)) = Z2 := by rw [est.1, HZ2.out, hZ]
            have q2 : aV (ys.take (i + 1)) = Y2 := by rw [est.2, HY2.out.1, hY, HQ.out]
            exact ⟨i + 1, by omega, by first | rfl | simp, by rw [q1]; exact K5.out.1, by rw [q2]; exact K5.out.2.1, K5.out.2.2, hin⟩
        · rw [decide_eq_false hneg] at hsd
          obtain ⟨Q, hQ⟩ : ∃ Q, Q = V := ⟨_, rfl⟩
          have HQ := Aside.intro (show Q = (V.natAbs : Int) by omega)
          have K4 : Aside (Lv10 u3 u0.heap.size Z2 ∧ Lv10 u3 (u0.heap.size + 1) Y ∧ Lv10 u3 u.heap.size Q ∧ Below w.heap.size w u3 ∧ u0.heap.size + 1 < u.heap.size) := by rw [hQ]; exact K3.out
          clear hQ hneg K3
          go_upto_region 15 with fail
          obtain ⟨aB, cB, DB, NB⟩ := K4.out.2.1
          obtain ⟨ad, cd, Dd, Nd⟩ := K4.out.2.2.1
          obtain ⟨x0, x1, x2, xf0, xf1, xf2⟩ := DB.facts
          obtain ⟨y0, y1, y2, yf0, yf1, yf2⟩ := Dd.facts
          have lY := fo8_len Y m (by omega) HB.out.1.2
          have hQb : Q.natAbs < 2 ^ m := by rw [HQ.out, Int.natAbs_natCast]; exact HB.out.2.2
          have lQ := fo8_len Q m (by omega) hQb
          have HAd := hid (add_any8 Y Q m (by omega) HB.out.1.2 hQb (dE (fo8 Q)) lQ.2.1 lQ.2.2.1 (dN (fo8 Q)) (dX (fo8 Q)) (fo8_self Q m (by omega) hQb) u3 aB ad cB cd (HT.out.belows K4.out.2.2.2.1) (NB.arg' (Nat.le_trans lY.1 (by decide))).2 (Nd.arg' (Nat.le_trans lQ.1 (by decide))).2)
          obtain ⟨Y2, hY2⟩ : ∃ Y2, Y2 = Y + Q := ⟨_, rfl⟩
          rw [← hY2] at HAd
          have hY2b : Y2.natAbs < 2 ^ m := by rw [hY2, HQ.out]; exact HB.out.2.1.2
          have HY2 := Aside.intro (And.intro hY2 hY2b)
          clear DB NB Dd Nd lY lQ hQb hY2 hY2b
          go_wp2_with fail
          with_reducible refine HAd.out.mono ?_
          rintro r u5 ⟨⟨v5, rfl, hN5⟩, hb5⟩
          obtain ⟨a5, c5, rfl, _⟩ := hN5.arg (Nat.le_trans (fo8_len Y2 m (by omega) HY2.out.2).1 (by decide))
          have s1 := K4.out.1.below hb5
          have s2 := K4.out.2.1.below hb5
          have b5 := K4.out.2.2.2.1.trans (hb5.mono K4.out.2.2.2.1.size)
          have K5 : Aside (Lv10 (st3 u5 (u0.heap.size + 1) (.bool (dN (fo8 Y2))) (.slice a5 (ws (dX (fo8 Y2))).length c5) (.int .i64 (dE (fo8 Y2)))) u0.heap.size Z2 ∧ Lv10 (st3 u5 (u0.heap.size + 1) (.bool (dN (fo8 Y2))) (.slice a5 (ws (dX (fo8 Y2))).length c5) (.int .i64 (dE (fo8 Y2)))) (u0.heap.size + 1) Y2 ∧ Below w.heap.size w (st3 u5 (u0.heap.size + 1) (.bool (dN (fo8 Y2))) (.slice a5 (ws (dX (fo8 Y2))).length c5) (.int .i64 (dE (fo8 Y2))))) :=
            ⟨s1.other s2 (by omega) _ _ _, s2.set (hN5.mono (Nat.zero_le _)), st3_bel b5 b5.size (by have := HG.out; omega) _ _ _⟩
          obtain ⟨a6, c6, D6, N6⟩ := s2
          obtain ⟨z0, z1, z2, zf0, zf1, zf2⟩ := D6.facts
          unfold st3 at K5
          clear D6 N6 hN5 hb5 HAd x0 x1 x2 xf0 xf1 xf2 y0 y1 y2 yf0 yf1 yf2 s1 b5 K4
          go_wp2
          go_roundg (gk - 1)
          case measure => omega
          case rel =>
            obtain ⟨est, hin, hZ, hY⟩ := HN.out
            have q1 : sV (ys.take (i + 1)) = Z2 := by rw [est.1, HZ2.out, hZ]
            have q2 : aV (ys.take (i + 1)) = Y2 := by rw [est.2, HY2.out.1, hY, HQ.out]
            exact ⟨i + 1, by omega, by first | rfl | simp, by rw [q1]; exact K5.out.1, by rw [q2]; exact K5.out.2.1, K5.out.2.2, hin⟩
      · obtain ⟨s, e, f, he, hf2, h1, _⟩ := bwz y hyw
        have he2 : e = 2047 := by
          have : magW y = e * 4503599627370496 + f := by
            rw [h1]
            unfold magW B.bw
            cases s <;> simp <;> omega
          unfold finW at hf
          omega
        have HO := Of_any s e f he hf2 wr (HT.out.belows HW.out.2.2.1)
        rw [← h1, show ofR s e f = none by unfold ofR; rw [if_pos he2], show ofE e = 30 by unfold ofE; rw [if_pos he2]] at HO
        have HO := hid HO
        clear he hf2 h1 he2 hf hy hyw
        go_wp2_with fail
        with_reducible refine HO.out.mono ?_
        rintro r u ⟨⟨v1, rfl, hN1⟩, hb1⟩
        obtain ⟨a1, c1, rfl, _⟩ := hN1.arg (by simp [dX, ws_zero])
        have KB := Aside.intro (HW.out.2.2.1.trans (hb1.mono HW.out.2.2.1.size))
        clear hN1 hb1 HO
        go_wp2
        go_ret
        exact ⟨rfl, KB.out.trans ((below_alloc _ _).mono KB.out.size)⟩
    · have hge : 300 ≤ i := by omega
      have hie : i = 300 := by omega
      have etk : ys.take i = ys := by rw [List.take_of_length_le]; rw [HX.out.1]; omega
      obtain ⟨k1, k2, k3, k4⟩ := HW.out
      rw [etk] at k1 k2 k4
      have bb := bd10 ys k4 (by rw [HX.out.1]; omega) m hm
      have K := Aside.intro (And.intro k1 (And.intro k2 k3))
      have HB := Aside.intro bb
      clear k1 k2 k3 k4 bb etk HW hie

      have hyne : ys ≠ [] := by intro e; have := HX.out.1; rw [e] at this; simp at this
      obtain ⟨S, hS⟩ : ∃ S, S = sV ys := ⟨_, rfl⟩
      obtain ⟨A, hA⟩ : ∃ A, A = aV ys := ⟨_, rfl⟩
      rw [← hS, ← hA] at K HB
      have hNr : ∀ x : Nat, (finW x → Nr ys.length (sV ys) (aV ys) (fvW x)) → (finW x → Nr (300 - 1 + 1) S A (fvW x)) := fun x h hf => by
        have := h hf
        rw [HX.out.1, ← hS, ← hA] at this
        rw [show 300 - 1 + 1 = 300 by omega]
        exact this
      have hFs : ∀ u : World, Below w.heap.size w u → Fs u.heap.size u a ys := fun u hb => (HX.out.2.1.below hb).mono hb.size
      have key : ∃ (X : Nat) (E : Int), Hid (∀ u : World, Below w.heap.size w u → Calls Tryz.prog 19 #[.slice a 300 c, .int .i64 size] u fun r w' => r = .returned (.tuple #[.float .f64 X, .int .i64 E]) ∧ Below u.heap.size u w') ∧ X < 18446744073709551616 ∧ (E = 0 → finW X → Nr (300 - 1 + 1) S A (fvW X)) ∧ (E = 0 ∨ E = 1) := by
        by_cases h1 : size < 1 ∨ 65536 < size
        · exact ⟨0, 1, fun u _ => Blocked10_arg a 300 c size u h1, by decide, fun h _ => absurd h (by decide), .inr rfl⟩
        · obtain ⟨s, rfl⟩ : ∃ s : Nat, size = (s : Int) := ⟨size.toNat, by omega⟩
          refine ⟨blF s ys, 0, fun u hb => Blocked10 ys a 300 c s u HX.out.1.symm (hFs u hb) HX.out.2.2 (by omega) (by omega) (by omega) (by omega), ?_, fun _ => hNr _ (fun hf => bl_near s ys (by omega) HX.out.2.2 hyne hf), .inl rfl⟩
          exact (runF_ok _ (bkL_wf HX.out.2.2 _)).1
      obtain ⟨X, E, HBl, hX, hXN, hE⟩ := key
      have HRn := hid (fun (u : World) (hb : Below w.heap.size w u) => Running10 ys a 300 c u HX.out.1.symm (hFs u hb) HX.out.2.2 (by omega) (by omega))
      have HHv := hid (fun (u : World) (hb : Below w.heap.size w u) => Halving10 ys a 300 c u HX.out.1.symm (hFs u hb) HX.out.2.2 (by omega))
      have hcast : ((300 - 1 : Nat) : Int) = (299 : Int) := by omega
      have HOf : ∀ x : Nat, x < 18446744073709551616 → Hid (∀ (u : World) (a0 aB : Option Addr) (c0 cB : Nat), Below w.heap.size w u → Arg u a0 (ws (dX (fo8 S))).length c0 (ws (dX (fo8 S))) → Arg u aB (ws (dX (fo8 A))).length cB (ws (dX (fo8 A))) → Calls Tryz.prog 25 #[.float .f64 x, .agg #[.bool (dN (fo8 S)), .slice a0 (ws (dX (fo8 S))).length c0, .int .i64 (dE (fo8 S))], .int .i64 (299 : Int), .agg #[.bool (dN (fo8 A)), .slice aB (ws (dX (fo8 A))).length cB, .int .i64 (dE (fo8 A))]] u fun r w' => (∃ b, r = .returned (.bool b) ∧ ((finW x → Nr (300 - 1 + 1) S A (fvW x)) → b = true)) ∧ Below u.heap.size u w') := fun x hx u a0 aB c0 cB hb h1 h2 => by
        have := off10 x (300 - 1) S A m hm u (HT.out.belows hb) hx (by omega) HB.out.1 HB.out.2 a0 aB c0 cB h1 h2
        rw [hcast] at this
        exact this
      have hT1 : ∀ x : Nat, x < 18446744073709551616 → (finW x → Nr (300 - 1 + 1) S A (fvW x)) → Hid (∀ (u : World) (a0 aB : Option Addr) (c0 cB : Nat), Below w.heap.size w u → Arg u a0 (ws (dX (fo8 S))).length c0 (ws (dX (fo8 S))) → Arg u aB (ws (dX (fo8 A))).length cB (ws (dX (fo8 A))) → Calls Tryz.prog 25 #[.float .f64 x, .agg #[.bool (dN (fo8 S)), .slice a0 (ws (dX (fo8 S))).length c0, .int .i64 (dE (fo8 S))], .int .i64 (299 : Int), .agg #[.bool (dN (fo8 A)), .slice aB (ws (dX (fo8 A))).length cB, .int .i64 (dE (fo8 A))]] u fun r w' => r = .returned (.bool true) ∧ Below u.heap.size u w') := fun x hx hn u a0 aB c0 cB hb h1 h2 => by
        refine ((HOf x hx).out u a0 aB c0 cB hb h1 h2).mono ?_
        rintro r w' ⟨⟨b, rfl, h⟩, hb'⟩
        rw [h hn]
        exact ⟨rfl, hb'⟩
      have HO1 := hT1 (runF ys) (runF_ok _ HX.out.2.2).1 (hNr _ (fun hf => run_near ys HX.out.2.2 hyne hf))
      have HO2 := hT1 (hvF ys) (hv_lt _ HX.out.2.2) (hNr _ (fun hf => hv_near ys.length ys (Nat.le_refl _) HX.out.2.2 hyne hf))
      have HO3 := HOf X hX
      obtain ⟨v1, hv1⟩ : ∃ v, v = runF ys := ⟨_, rfl⟩
      obtain ⟨v2, hv2⟩ : ∃ v, v = hvF ys := ⟨_, rfl⟩
      rw [← hv1] at HO1 HRn
      rw [← hv2] at HO2 HHv
      have lS : Aside ((ws (dX (fo8 S))).length ≤ 8192) := (fo8_len S m (by omega) HB.out.1).1
      have lA : Aside ((ws (dX (fo8 A))).length ≤ 8192) := (fo8_len A m (by omega) HB.out.2).1
      have HE := Aside.intro (And.intro hXN hE)
      have hww : IntKind.i64.wrap ((300 : Int) - 1) = 299 := by decide
      have hww2 : IntKind.i64.wrap (299 : Int) = 299 := by decide
      have hww3 : IntKind.i64.wrap (((300 : Nat) : Int) - 1) = 299 := by decide
      clear hS hA hNr hFs hX hXN hv1 hv2 HOf hT1 hcast hyne hE HB
      go_wp2_with fail
      with_reducible refine (HBl.out _ K.out.2.2).mono ?_
      rintro r u1 ⟨rfl, hb⟩
      obtain ⟨a0, c0, D0, N0⟩ := K.out.1.below hb
      obtain ⟨aB, cB, DB, NB⟩ := K.out.2.1.below hb
      have HD := Aside.intro (And.intro D0 (And.intro N0 (And.intro DB (And.intro NB (K.out.2.2.trans (hb.mono K.out.2.2.size))))))
      clear D0 N0 DB NB hb HBl K
      go_upto_region 19 with fail
      have hdr := (Below.refl u1.heap.size u1).drew
      have HD := Aside.intro (And.intro (HD.out.1.below hdr) (And.intro (HD.out.2.1.below hdr) (And.intro (HD.out.2.2.1.below hdr) (And.intro (HD.out.2.2.2.1.below hdr) (HD.out.2.2.2.2.trans (hdr.mono HD.out.2.2.2.2.size))))))
      clear hdr
      have kS := Aside.intro (And.intro HD.out.1.facts.1 (And.intro HD.out.1.facts.2.1 (And.intro HD.out.1.facts.2.2.1 (And.intro HD.out.2.2.1.facts.1 (And.intro HD.out.2.2.1.facts.2.1 HD.out.2.2.1.facts.2.2.1)))))
      go_region_held3 (fun w' => w'.cell? ⟨u0.heap.size, 0, none⟩ = some (.bool (dN (fo8 S))) ∧ w'.cell? ⟨u0.heap.size, 1, none⟩ = some (.slice a0 (ws (dX (fo8 S))).length c0) ∧ w'.cell? ⟨u0.heap.size, 2, none⟩ = some (.int .i64 (dE (fo8 S))) ∧ w'.cell? ⟨u0.heap.size + 1, 0, none⟩ = some (.bool (dN (fo8 A))) ∧ w'.cell? ⟨u0.heap.size + 1, 1, none⟩ = some (.slice aB (ws (dX (fo8 A))).length cB) ∧ w'.cell? ⟨u0.heap.size + 1, 2, none⟩ = some (.int .i64 (dE (fo8 A)))) (with_reducible exact kS.out) (first
        | (go_at_call 9
           with_reducible refine (HRn.out _ HD.out.2.2.2.2).mono ?_
           rintro r v ⟨rfl, hb⟩
           have HD := Aside.intro (And.intro (HD.out.1.below hb) (And.intro (HD.out.2.1.below hb) (And.intro (HD.out.2.2.1.below hb) (And.intro (HD.out.2.2.2.1.below hb) (HD.out.2.2.2.2.trans (hb.mono HD.out.2.2.2.2.size))))))
           have kS := Aside.intro (And.intro HD.out.1.facts.1 (And.intro HD.out.1.facts.2.1 (And.intro HD.out.1.facts.2.2.1 (And.intro HD.out.2.2.1.facts.1 (And.intro HD.out.2.2.1.facts.2.1 HD.out.2.2.1.facts.2.2.1)))))
           clear hb)
        | (go_at_call 25
           with_reducible refine (HO1.out _ a0 aB c0 cB HD.out.2.2.2.2 (HD.out.2.1.arg' (Nat.le_trans lS.out (by decide))).2 (HD.out.2.2.2.1.arg' (Nat.le_trans lA.out (by decide))).2).mono ?_
           rintro r v ⟨rfl, hb⟩
           have HD := Aside.intro (And.intro (HD.out.1.below hb) (And.intro (HD.out.2.1.below hb) (And.intro (HD.out.2.2.1.below hb) (And.intro (HD.out.2.2.2.1.below hb) (HD.out.2.2.2.2.trans (hb.mono HD.out.2.2.2.2.size))))))
           have kS := Aside.intro (And.intro HD.out.1.facts.1 (And.intro HD.out.1.facts.2.1 (And.intro HD.out.1.facts.2.2.1 (And.intro HD.out.2.2.1.facts.1 (And.intro HD.out.2.2.1.facts.2.1 HD.out.2.2.1.facts.2.2.1)))))
           clear hb))
      clear kS
      go_upto_region 20 with fail
      have hdr := (Below.refl v.heap.size v).drew
      have HD := Aside.intro (And.intro (HD.out.1.below hdr) (And.intro (HD.out.2.1.below hdr) (And.intro (HD.out.2.2.1.below hdr) (And.intro (HD.out.2.2.2.1.below hdr) (HD.out.2.2.2.2.trans (hdr.mono HD.out.2.2.2.2.size))))))
      clear hdr
      have kS := Aside.intro (And.intro HD.out.1.facts.1 (And.intro HD.out.1.facts.2.1 (And.intro HD.out.1.facts.2.2.1 (And.intro HD.out.2.2.1.facts.1 (And.intro HD.out.2.2.1.facts.2.1 HD.out.2.2.1.facts.2.2.1)))))
      go_region_held3 (fun w' => w'.cell? ⟨u0.heap.size, 0, none⟩ = some (.bool (dN (fo8 S))) ∧ w'.cell? ⟨u0.heap.size, 1, none⟩ = some (.slice a0 (ws (dX (fo8 S))).length c0) ∧ w'.cell? ⟨u0.heap.size, 2, none⟩ = some (.int .i64 (dE (fo8 S))) ∧ w'.cell? ⟨u0.heap.size + 1, 0, none⟩ = some (.bool (dN (fo8 A))) ∧ w'.cell? ⟨u0.heap.size + 1, 1, none⟩ = some (.slice aB (ws (dX (fo8 A))).length cB) ∧ w'.cell? ⟨u0.heap.size + 1, 2, none⟩ = some (.int .i64 (dE (fo8 A)))) (with_reducible exact kS.out) (first
        | (go_at_call 10
           with_reducible refine (HHv.out _ HD.out.2.2.2.2).mono ?_
           rintro r v ⟨rfl, hb⟩
           have HD := Aside.intro (And.intro (HD.out.1.below hb) (And.intro (HD.out.2.1.below hb) (And.intro (HD.out.2.2.1.below hb) (And.intro (HD.out.2.2.2.1.below hb) (HD.out.2.2.2.2.trans (hb.mono HD.out.2.2.2.2.size))))))
           have kS := Aside.intro (And.intro HD.out.1.facts.1 (And.intro HD.out.1.facts.2.1 (And.intro HD.out.1.facts.2.2.1 (And.intro HD.out.2.2.1.facts.1 (And.intro HD.out.2.2.1.facts.2.1 HD.out.2.2.1.facts.2.2.1)))))
           clear hb)
        | (go_at_call 25
           with_reducible refine (HO2.out _ a0 aB c0 cB HD.out.2.2.2.2 (HD.out.2.1.arg' (Nat.le_trans lS.out (by decide))).2 (HD.out.2.2.2.1.arg' (Nat.le_trans lA.out (by decide))).2).mono ?_
           rintro r v ⟨rfl, hb⟩
           have HD := Aside.intro (And.intro (HD.out.1.below hb) (And.intro (HD.out.2.1.below hb) (And.intro (HD.out.2.2.1.below hb) (And.intro (HD.out.2.2.2.1.below hb) (HD.out.2.2.2.2.trans (hb.mono HD.out.2.2.2.2.size))))))
           have kS := Aside.intro (And.intro HD.out.1.facts.1 (And.intro HD.out.1.facts.2.1 (And.intro HD.out.1.facts.2.2.1 (And.intro HD.out.2.2.1.facts.1 (And.intro HD.out.2.2.1.facts.2.1 HD.out.2.2.1.facts.2.2.1)))))
           clear hb))
      clear kS
      obtain ⟨p0, p1, p2, _, _, _⟩ := HD.out.1.facts
      obtain ⟨q0, q1, q2, _, _, _⟩ := HD.out.2.2.1.facts
      go_wp2_with fail
      with_reducible refine (HO3.out _ a0 aB c0 cB HD.out.2.2.2.2 (HD.out.2.1.arg' (Nat.le_trans lS.out (by decide))).2 (HD.out.2.2.2.1.arg' (Nat.le_trans lA.out (by decide))).2).mono ?_
      rintro r v3 ⟨⟨b3, rfl, h3⟩, hb⟩
      have HF := Aside.intro (HD.out.2.2.2.2.trans (hb.mono HD.out.2.2.2.2.size))
      have h3' : b3 = true ∨ E = 1 := by
        rcases HE.out.2 with h | h
        · exact .inl (h3 (HE.out.1 h))
        · exact .inr h
      clear h3 hb p0 p1 p2 q0 q1 q2 HO1 HO2 HO3 HRn HHv HE
      rcases h3' with rfl | rfl
      · go_wp2
        go_ret
        exact ⟨rfl, HF.out⟩
      · cases b3
        · go_wp2
          go_ret
          exact ⟨rfl, HF.out⟩
        · go_wp2
          go_ret
          exact ⟨rfl, HF.out⟩
theorem walk2_SumsNear (a : Option Addr) (n c : Nat) (xs : List Nat) (size : Int) (w : World) (hT : Tab w) (hC : CameF w a n c xs) (hs : (Lit.int .i64 size).wf = true) (hm : n ≤ 17592186043904) :
    Calls Tryz.prog 5 #[.slice a n c, .int .i64 size] w fun r w' => r = .returned (.bool true) ∧ Below w.heap.size w w' := by
  by_cases h : n ≤ 300
  · exact near_small a n c xs size w hT hC h
  · exact near_big a n c xs size w hT hC (by omega)
end Go.Proofs.YteoednbmhiblfaaGreatDoor

