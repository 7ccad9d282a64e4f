/- SpreadParts: parts are the sum, each the nearest to what is left. -/
import Derived.Test.YtnnlicahgdcbdaaGreatDoorE14x
import Derived.Deep.Cut
namespace Go.Proofs.YtnnlicahgdcbdaaGreatDoor
open Go.RowKit J
set_option linter.unusedVariables false
set_option maxRecDepth 20000
set_option linter.unusedSimpArgs false
attribute [local go_sem] B.f64bits B.f64frombits

theorem FsZ.of_fr {lo : Nat} {w : World} {ao : Option Addr} {n c : Nat} {L : List Nat} (h : Fr lo w (.slice ao n c) L) : Fs w.heap.size w ao L := by
  intro hne
  rcases h.shape with ⟨_, q⟩ | ⟨g, cap, q, _, hg, _, _, hc⟩
  · exact absurd q hne
  · cases q
    exact ⟨g, 0, hg, rfl, fun i hi => by rw [Nat.zero_add]; exact hc i hi⟩
theorem FrZ.len {lo : Nat} {w : World} {ao : Option Addr} {m c : Nat} {L : List Nat} (h : Fr lo w (.slice ao m c) L) : m = L.length := by
  rcases h.shape with ⟨q, q2⟩ | ⟨g, cap, q, _⟩
  · cases q; rw [q2]; rfl
  · cases q; rfl
theorem same_foZ (V : Int) (w : World) (a b : Option Addr) (c d : Nat) (hV : V.natAbs < 2 ^ ET) (h1 : Nt 0 w (.slice a (ws (dX (fo8 V))).length c) (dX (fo8 V))) (h2 : Nt 0 w (.slice b (ws (dX (fo8 V))).length d) (dX (fo8 V))) :
    Calls Tryz.prog 22 #[.agg #[.bool (dN (fo8 V)), .slice a (ws (dX (fo8 V))).length c, .int .i64 (dE (fo8 V))], .agg #[.bool (dN (fo8 V)), .slice b (ws (dX (fo8 V))).length d, .int .i64 (dE (fo8 V))]] w fun r w' => r = .returned (.bool true) ∧ Below w.heap.size w w' := by
  have hl := (fo8_len V ET (Nat.le_trans ET5 (by decide)) hV).1
  have q1 := (h1.arg' (Nat.le_trans hl (by decide))).2
  have q2 := (h2.arg' (Nat.le_trans hl (by decide))).2
  exact rSame3_any (dN (fo8 V)) (dE (fo8 V)) (ws (dX (fo8 V))) a b (ws (dX (fo8 V))).length c d w rfl (Nat.le_trans q1.big (by decide)) q1.rd q2.rd
/-- What stands in the second loop. -/
structure Ls (w9 : World) (gl : Nat) (l : List Nat) (i : Nat) (U : Int) (A : Nat) (wr : World) : Prop where
  left : Lv 0 wr gl U
  tch : Tch (fun k => k = gl) w9 wr
  parts : IsParts U (l.drop i)
  top : U.natAbs < 2 ^ ET
  ahead : A ≤ 9218868437227405311
  size : i < l.length → magW (l.getD i 0) ≤ A
theorem Ls.now {w9 : World} {gl : Nat} {l : List Nat} {i : Nat} {U : Int} {A : Nat} {wr : World} (h : Ls w9 gl l i U A wr) (hi : i < l.length) : U ≠ 0 ∧ l.getD i 0 = nrW U ∧ IsParts (U - fvW (nrW U)) (l.drop (i + 1)) := by
  have := h.parts
  rw [drop_cons8 l i hi] at this
  obtain ⟨h1, h2, h3⟩ := this
  exact ⟨h1, h2, by rw [← h2]; exact h3⟩
theorem Ls.next {w9 : World} {gl : Nat} {l : List Nat} {i : Nat} {U : Int} {A : Nat} {wr w' : World} (h : Ls w9 gl l i U A wr) (hi : i < l.length) (h1 : Lv 0 w' gl (U - fvW (nrW U))) (h2 : Tch (fun k => k = gl) w9 w') :
    Ls w9 gl l (i + 1) (U - fvW (nrW U)) (magW (nrW U)) w' := by
  obtain ⟨q1, q2, q3⟩ := h.now hi
  have hm := Nat.le_trans ET5 (show 100000 ≤ 200000 by decide)
  obtain ⟨f1, _⟩ := nr_any U ET hm h.top q1
  refine ⟨h1, h2, q3, Nat.lt_trans (stp_less U ET hm h.top q1).2 h.top, by have := f1.2; unfold finW at this; omega, fun hj => ?_⟩
  rw [drop_cons8 l (i + 1) hj] at q3
  obtain ⟨p1, p2, _⟩ := q3
  rw [p2]
  exact mag_le (nr_next U ET hm h.top q1 p1)
theorem eq_word {y z : Nat} (hy : Wd y ∧ finW y) (hz : Wd z ∧ finW z) (h0 : 0 < magW z) : (FloatKind.f64.format.order y z == some .eq) = decide (y = z) := by
  have e := eq64 (negW y) (negW z) (magW y) (magW z) (Nat.le_of_lt hy.2) (Nat.le_of_lt hz.2)
  rw [← wd_of y hy.1, ← wd_of z hz.1] at e
  rw [e, decide_eq_decide]
  constructor
  · intro q
    rw [wd_of y hy.1, wd_of z hz.1]
    unfold sK at q
    cases hn : negW y <;> cases hk : negW z <;> rw [hn, hk] at q <;> simp at q <;> unfold wd64 <;> simp <;> omega
  · intro q; rw [q]
theorem fin_maxZ : (Wd 9218868437227405311 ∧ finW 9218868437227405311) ∧ (Wd 18442240474082181119 ∧ finW 18442240474082181119) := ⟨⟨by unfold Wd; decide, by unfold finW magW; decide⟩, ⟨by unfold Wd; decide, by unfold finW magW; decide⟩⟩

set_option maxRecDepth 100000 in
set_option maxHeartbeats 16000000 in
theorem walk_SpreadParts (xs : List Nat) (a1 : Option Addr) (n1 c1 : Nat) (w : World) (hT : Tab w) (e1 : n1 = xs.length) (f1 : Fs w.heap.size w a1 xs) (k1 : W64 xs) (m1 : n1 ≤ 4611686018427387904) :
    Calls Tryz.prog 5 #[.slice a1 n1 c1] w fun r w' => r = .returned (.bool true) ∧ Below w.heap.size w w' := by
  have HR := Aside.intro (And.intro hT (And.intro e1 (And.intro f1 (And.intro k1 m1))))
  clear hT e1 f1 k1 m1
  go_enter Tryz.func5, Tryz.ntmps5
  go_wp2_with fail
  with_reducible refine (awake8 w HR.out.1).mono ?_
  rintro r w1 ⟨rfl, hb⟩
  have B1 := Aside.intro hb
  have HF : Hid (Calls Tryz.prog 18 #[.slice a1 n1 c1] w1 fun r w' => ∃ v L, r = .returned v ∧ FinL L ∧ L.length ≤ 1000 ∧ Fr w1.heap.size w' v L ∧ Below w1.heap.size w1 w') := by
    obtain ⟨q1, q2, q3, q4⟩ := HR.out.2
    refine finite8 w1 a1 n1 c1 xs q1 ?_ q3 q4
    intro hne
    obtain ⟨b, off, h1, h2, h3⟩ := q2 hne
    exact ⟨b, off, Nat.lt_of_lt_of_le h1 hb.size, h2, fun i hi => (hb.cell (p := ⟨b, off + i, none⟩) h1).trans (h3 i hi)⟩
  clear hb
  go_wp2_with fail
  with_reducible refine HF.out.mono ?_
  rintro r w2 ⟨v, L, rfl, hL1, hL2, hL3, hb⟩
  obtain ⟨ao, n, cp, rfl⟩ := hL3.slice
  have hn := FrZ.len hL3
  have hn5 : n ≤ 1000 := by omega
  have B2 := Aside.intro (B1.out.trans (hb.mono B1.out.size))
  have HL := Aside.intro (And.intro hL1 (And.intro hL2 (And.intro hn (FsZ.of_fr hL3))))
  have HA := hid (told8 w2 ao n cp L hn hn5 hL1 (FsZ.of_fr hL3))
  clear hL1 hL2 hL3 hb HF hn
  go_wp2_with fail
  with_reducible refine HA.out.mono ?_
  rintro r w3 ⟨rfl, s1, hb⟩
  have S3 := Aside.intro (And.intro s1 (And.intro hb (B2.out.trans (hb.mono B2.out.size))))
  clear s1 hb HA
  obtain ⟨W, hW⟩ : ∃ W, W = w3.alloc (.cells #[.bool false, .slice none 0 0, .int .i64 0] 33) := ⟨_, rfl⟩
  have H0 : Aside (Lv 0 W w3.heap.size (fvL (L.take 0)) ∧ Below w3.heap.size w3 W) := by
    subst hW
    have z0 : fo8 (fvL (L.take 0)) = some (false, 0, 0) := by rw [fvL_take0]; unfold fo8; exact mkS_zero _ _
    have hw0 : (ws (dX (some (false, 0, 0)))).length = 0 := by simp [dX, ws_zero]
    refine ⟨⟨none, 0, ?_, ?_⟩, below_alloc _ _⟩
    · rw [z0, hw0]; exact Dk.new _ _ _ _
    · rw [z0, hw0]; exact Nt.nil _ _
  have HGL : Aside (w3.heap.size ≤ w3.heap.size) := Nat.le_refl _
  go_wp2_with fail
  rw [← hW]
  clear hW
  go_loopg [7] n (fun gk iv wr => ∃ i : Nat, gk + i = n ∧ iv = .int .i64 (i : Nat) ∧ Aside (Lv 0 wr w3.heap.size (fvL (L.take i)) ∧ Below w3.heap.size w3 wr))
  case atStart => exact ⟨0, by omega, rfl, H0⟩
  case round =>
    clear H0
    obtain ⟨i, hgi, rfl, HW⟩ := hrel
    by_cases hi : i < n
    · have HI : Aside (i < L.length) := by have := HL.out.2.2.1; exact Aside.intro (by omega)
      obtain ⟨b, off, rfl, hc⟩ := HL.out.2.2.2.at (S3.out.2.1.trans (HW.out.2.mono S3.out.2.1.size)) i HI.out
      obtain ⟨y, hy⟩ : ∃ y, y = L.getD i 0 := ⟨_, rfl⟩
      rw [← hy] at hc
      have HY : Aside (Wd y ∧ finW y) := by rw [hy]; exact HL.out.1.get i HI.out
      have HO := hid (rof8 y HY.out wr)
      have HE : Aside (fvL (L.take (i + 1)) = fvL (L.take i) + fvW y) := by rw [fvL_take L i HI.out, hy]; exact Aside.intro rfl
      have HB : Aside ((fvL (L.take i)).natAbs < 2 ^ ET ∧ (fvW y).natAbs < 2 ^ ET ∧ (fvL (L.take (i + 1))).natAbs < 2 ^ ET) := by
        have q := avL_ET L HL.out.1 HL.out.2.1
        have q1 := fv_av (L.take i)
        have q2 := avL_take L i
        have q3 := fv_av (L.take (i + 1))
        have q4 := avL_take L (i + 1)
        exact ⟨by omega, fv_ET HY.out, by omega⟩
      obtain ⟨Z, hZ⟩ : ∃ Z, Z = fvL (L.take i) := ⟨_, rfl⟩
      obtain ⟨Z2, hZ2⟩ : ∃ Z, Z = fvL (L.take (i + 1)) := ⟨_, rfl⟩
      have HWL : Aside (Lv 0 wr w3.heap.size Z) := by rw [hZ]; exact HW.out.1
      rw [← hZ, ← hZ2] at HB HE
      have HZ2 := Aside.intro hZ2
      clear hy hZ hZ2
      go_wp2_with fail
      with_reducible refine HO.out.mono ?_
      rintro r u ⟨⟨v1, rfl, hN1⟩, hb1⟩
      have q1 := fo8_len (fvW y) ET (Nat.le_trans ET5 (by decide)) HB.out.2.1
      obtain ⟨a1', c1', rfl, _⟩ := hN1.arg (Nat.le_trans q1.1 (by decide))
      obtain ⟨U, hU⟩ : ∃ U, U = u.alloc (Obj.cells #[.bool (dN (fo8 (fvW y))), .slice a1' (ws (dX (fo8 (fvW y)))).length c1', .int .i64 (dE (fo8 (fvW y)))] 33) := ⟨_, rfl⟩
      have HU : Aside (Below wr.heap.size wr U ∧ Dk U u.heap.size (dN (fo8 (fvW y))) (.slice a1' (ws (dX (fo8 (fvW y)))).length c1') (dE (fo8 (fvW y))) ∧ Nt 0 U (.slice a1' (ws (dX (fo8 (fvW y)))).length c1') (dX (fo8 (fvW y)))) := by
        subst hU
        exact ⟨hb1.trans ((below_alloc _ _).mono hb1.size), Dk.new _ _ _ _, (hN1.below (below_alloc _ _)).mono (Nat.zero_le _)⟩
      go_upto_region 13 with fail
      rw [← hU]
      clear hU hN1 hb1 hc HO
      have hLv := HWL.out.below HU.out.1
      obtain ⟨a0, c0, D0, N0⟩ := hLv
      obtain ⟨x0, x1, x2, xf0, xf1, xf2⟩ := D0.facts
      obtain ⟨y0, y1, y2, yf0, yf1, yf2⟩ := HU.out.2.1.facts
      have q2 := fo8_len Z ET (Nat.le_trans ET5 (by decide)) HB.out.1
      have HAd := hid (radd8 Z (fvW y) ET ET5 HB.out.1 HB.out.2.1 U a0 a1' c0 c1' (N0.arg' (Nat.le_trans q2.1 (by decide))).2 (HU.out.2.2.arg' (Nat.le_trans q1.1 (by decide))).2)
      rw [← HE.out] at HAd
      have HD := Aside.intro (And.intro (show Lv 0 U w3.heap.size Z from ⟨a0, c0, D0, N0⟩) (HW.out.2.trans (HU.out.1.mono HW.out.2.size)))
      clear D0 N0 q1 q2
      go_wp2_with fail
      with_reducible refine HAd.out.mono ?_
      rintro r u2 ⟨⟨v2, rfl, hN2⟩, hb2⟩
      obtain ⟨a2, c2, rfl, _⟩ := hN2.arg (Nat.le_trans (fo8_len Z2 ET (Nat.le_trans ET5 (by decide)) HB.out.2.2).1 (by decide))
      have hLv2 := HD.out.1.below hb2
      have hlt := hLv2.lt
      have HX : Aside (Lv 0 (((u2.setCell ⟨w3.heap.size, 0, none⟩ (.bool (dN (fo8 Z2)))).setCell ⟨w3.heap.size, 1, none⟩ (.slice a2 (ws (dX (fo8 Z2))).length c2)).setCell ⟨w3.heap.size, 2, none⟩ (.int .i64 (dE (fo8 Z2)))) w3.heap.size (fvL (L.take (i + 1))) ∧ Below w3.heap.size w3 (((u2.setCell ⟨w3.heap.size, 0, none⟩ (.bool (dN (fo8 Z2)))).setCell ⟨w3.heap.size, 1, none⟩ (.slice a2 (ws (dX (fo8 Z2))).length c2)).setCell ⟨w3.heap.size, 2, none⟩ (.int .i64 (dE (fo8 Z2))))) := by
        rw [← HZ2.out]
        have hBB := HD.out.2.trans (hb2.mono HD.out.2.size)
        exact ⟨hLv2.set (hN2.mono (Nat.zero_le _)), But.below hBB (st3_but8 w3.heap.size u2 _ _ _) hBB.size HGL.out⟩
      obtain ⟨a3, c3, D3, N3⟩ := hLv2
      obtain ⟨z0, z1, z2, zf0, zf1, zf2⟩ := D3.facts
      clear D3 N3 hN2 hb2 HAd HD x0 x1 x2 xf0 xf1 xf2 y0 y1 y2 yf0 yf1 yf2
      go_wp2
      go_roundg (gk - 1)
      case measure => omega
      case rel => exact ⟨i + 1, by omega, by simp, HX⟩
    · obtain rfl : i = n := by omega
      obtain rfl : gk = 0 := by omega
      obtain ⟨V, hV⟩ : ∃ V, V = fvL L := ⟨_, rfl⟩
      have hVt : V.natAbs < 2 ^ ET := by
        have q := avL_ET L HL.out.1 HL.out.2.1
        have q1 := fv_av L
        rw [hV]; omega
      have H1 : Aside (Lv 0 wr w3.heap.size V ∧ Below w3.heap.size w3 wr ∧ Sx (fun j => w2.heap.size ≤ j ∧ j < w3.heap.size) w3 w2.heap.size i V (i * i) ∧ V.natAbs < 2 ^ ET ∧ Below w.heap.size w wr) := by
        have q := HW.out
        rw [show L.take i = L by rw [HL.out.2.2.1, List.take_length], ← hV] at q
        exact ⟨q.1, q.2, by rw [hV]; exact S3.out.1, hVt, S3.out.2.2.trans (q.2.mono S3.out.2.2.size)⟩
      have HSX : Aside (∀ W, Below wr.heap.size wr W → Sx (fun j => w2.heap.size ≤ j ∧ j < w3.heap.size) W w2.heap.size i V (i * i) ∧ Tab W) := fun W hW =>
        ⟨H1.out.2.2.1.below (H1.out.2.1.trans (hW.mono H1.out.2.1.size)), HR.out.1.belows (H1.out.2.2.2.2.trans (hW.mono H1.out.2.2.2.2.size))⟩
      have HE2 := hid (fun u (hu : Below wr.heap.size wr u) => exact8 _ u _ _ _ _ (HSX.out u hu).1 (HSX.out u hu).2)
      have HS := hid (fun u a c b d (p1 : Nt 0 u (.slice a (ws (dX (fo8 V))).length c) (dX (fo8 V))) p2 => same_foZ V u a b c d hVt p1 p2)
      have HLn := Aside.intro (fo8_len V ET (Nat.le_trans ET5 (by decide)) hVt).1
      obtain ⟨a0, c0, D0, N0⟩ := H1.out.1
      obtain ⟨x0, x1, x2, xf0, xf1, xf2⟩ := D0.facts
      have HD0 := Aside.intro (And.intro D0 N0)
      have kS : Aside (wr.drew.cell? ⟨w3.heap.size, 0, none⟩ = some (.bool (dN (fo8 V))) ∧ wr.drew.cell? ⟨w3.heap.size, 1, none⟩ = some (.slice a0 (ws (dX (fo8 V))).length c0) ∧ wr.drew.cell? ⟨w3.heap.size, 2, none⟩ = some (.int .i64 (dE (fo8 V)))) := ⟨x0, x1, x2⟩
      clear hV hVt D0 N0 HW
      go_wp2
      go_region_held3 (fun w' => w'.cell? ⟨w3.heap.size, 0, none⟩ = some (.bool (dN (fo8 V))) ∧ w'.cell? ⟨w3.heap.size, 1, none⟩ = some (.slice a0 (ws (dX (fo8 V))).length c0) ∧ w'.cell? ⟨w3.heap.size, 2, none⟩ = some (.int .i64 (dE (fo8 V)))) (with_reducible exact kS.out) (first
        | (go_at_call 23
           with_reducible refine (HE2.out _ (by first | exact (Below.refl _ wr).drew | exact Below.refl _ wr)).mono ?_
           rintro r u ⟨⟨v2, rfl, hN2⟩, hb2⟩
           obtain ⟨a2, c2, rfl, _⟩ := hN2.arg (Nat.le_trans HLn.out (by decide))
           have hbu : Below wr.heap.size wr u := by first | exact ((Below.refl _ wr).drew).trans hb2 | exact hb2
           obtain ⟨z0, z1, z2, _, _, _⟩ := (HD0.out.1.below hbu).facts
           have kS := Aside.intro (And.intro z0 (And.intro z1 z2))
           have H2 := Aside.intro (And.intro (HD0.out.1.below hbu) (And.intro (HD0.out.2.below hbu) (And.intro (hN2.mono (Nat.zero_le _)) hbu)))
           clear hN2 hb2 hbu)
        | (go_at_call 22
           with_reducible refine (HS.out _ a2 c2 a0 c0 H2.out.2.2.1 H2.out.2.1).mono ?_
           rintro r u3 ⟨rfl, hb3⟩
           obtain ⟨z0, z1, z2, _, _, _⟩ := (H2.out.1.below hb3).facts
           have kS := Aside.intro (And.intro z0 (And.intro z1 z2))
           have H3 := Aside.intro (And.intro (H2.out.1.below hb3) (And.intro (H2.out.2.1.below hb3) (H2.out.2.2.2.trans (hb3.mono H2.out.2.2.2.size))))
           clear hb3))
      all_goals (
        clear kS x0 x1 x2 xf0 xf1 xf2 z0 z1 z2 HS HE2
        obtain ⟨sn, A3, A0, A2, hA3, hA0, hA2, r3, r0, r2, o1, o2⟩ := rnd_order V ET (Nat.le_trans ET5 (by decide)) H1.out.2.2.2.1
        have hle1 := le64 sn sn A3 A0 hA3 hA0 o1
        have hle2 := le64 sn sn A0 A2 hA0 hA2 o2
        obtain ⟨y3, hy3⟩ : ∃ y, y = wd64 sn A3 := ⟨_, rfl⟩
        obtain ⟨y0, hy0⟩ : ∃ y, y = wd64 sn A0 := ⟨_, rfl⟩
        obtain ⟨y2, hy2⟩ : ∃ y, y = wd64 sn A2 := ⟨_, rfl⟩
        rw [← hy3, ← hy0] at hle1
        rw [← hy0, ← hy2] at hle2
        rw [← hy3] at r3
        rw [← hy0] at r0
        rw [← hy2] at r2
        have HRR := Aside.intro (And.intro r3 (And.intro r0 r2))
        clear o1 o2 hy3 hy0 hy2 hA3 hA0 hA2 r3 r0 r2
        have h1 := round8 _ u3 _ _ _ _ (HSX.out u3 H3.out.2.2).1 (HSX.out u3 H3.out.2.2).2 0
        rw [HRR.out.2.1] at h1
        have HQ := hid h1
        clear h1
        go_wp2_with fail
        with_reducible refine HQ.out.mono ?_
        rintro r w5 ⟨rfl, hb⟩
        have H5 := Aside.intro (And.intro (H3.out.1.below hb) (And.intro (H3.out.2.1.below hb) (H3.out.2.2.trans (hb.mono H3.out.2.2.size))))
        have h1 := round8 _ w5 _ _ _ _ (HSX.out w5 H5.out.2.2).1 (HSX.out w5 H5.out.2.2).2 3
        rw [HRR.out.1] at h1
        have HQ := hid h1
        clear h1 hb
        go_wp2_with fail
        with_reducible refine HQ.out.mono ?_
        rintro r w6 ⟨rfl, hb⟩
        have H6 := Aside.intro (And.intro (H5.out.1.below hb) (And.intro (H5.out.2.1.below hb) (H5.out.2.2.trans (hb.mono H5.out.2.2.size))))
        have h1 := round8 _ w6 _ _ _ _ (HSX.out w6 H6.out.2.2).1 (HSX.out w6 H6.out.2.2).2 2
        rw [HRR.out.2.2] at h1
        have HQ := hid h1
        clear h1 hb
        go_wp2_with fail
        with_reducible refine HQ.out.mono ?_
        rintro r w7 ⟨rfl, hb⟩
        have H7 := Aside.intro (And.intro (H6.out.1.below hb) (And.intro (H6.out.2.1.below hb) (H6.out.2.2.trans (hb.mono H6.out.2.2.size))))
        have HQ := hid (parts8 _ w7 _ _ _ _ (HSX.out w7 H7.out.2.2).1 (HSX.out w7 H7.out.2.2).2)
        clear hb
        go_wp2_with fail
        with_reducible refine HQ.out.mono ?_
        rintro r w9 ⟨vp, l, rfl, hp, hlf, hll, hfr, hb⟩
        obtain ⟨pa, mp, cq, rfl⟩ := hfr.slice
        have hmp := FrZ.len hfr
        have H9 := Aside.intro (And.intro (H7.out.1.below hb) (And.intro (H7.out.2.1.below hb) (And.intro (H1.out.2.2.2.2.trans ((H7.out.2.2.trans (hb.mono H7.out.2.2.size)).mono H1.out.2.2.2.2.size)) (And.intro hp (And.intro hlf (And.intro hll (And.intro hmp hfr)))))))
        have hmp5 : mp ≤ 1100000 := by omega
        have HLT : Aside (w3.heap.size < w7.heap.size) := H7.out.1.lt
        clear hb hp hlf hll hfr HQ hmp
        have hgr : ∀ u : World, Sem.run Tryz.prog (Op.unary UnOp.neg (Value.float FloatKind.f64 9218868437227405311)) u = .ok (.float .f64 18442240474082181119) u := fun u => by kernel_rfl
        have key : ∃ b1 b2 b3 : Bool, 0 < mp → ∃ gp y, pa = some ⟨gp, 0, none⟩ ∧ w9.cell? ⟨gp, 0, none⟩ = some (.float .f64 y) ∧ (FloatKind.f64.format.order y 9218868437227405311 == some .eq) = b1 ∧ (FloatKind.f64.format.order y 18442240474082181119 == some .eq) = b2 ∧ (y == y0) = b3 ∧ (b1 = true ∨ b2 = true ∨ b3 = true) := by
          by_cases q0 : 0 < mp
          · have q2 : 0 < l.length := by have := H9.out.2.2.2.2.2.2.1; omega
            have q := H9.out.2.2.2.1
            have q3 := drop_cons8 l 0 q2
            rw [List.drop_zero] at q3
            rw [q3] at q
            obtain ⟨v0, e0, _⟩ := q
            have hyf := H9.out.2.2.2.2.1.get 0 q2
            rcases H9.out.2.2.2.2.2.2.2.shape with ⟨_, q'⟩ | ⟨g', cap', q', _, _, _, _, q4⟩
            · rw [q'] at q2; simp at q2
            · cases q'
              refine ⟨_, _, _, fun _ => ⟨g', l.getD 0 0, rfl, q4 0 q2, rfl, rfl, rfl, ?_⟩⟩
              rw [eq_word hyf fin_maxZ.1 (by decide), eq_word hyf fin_maxZ.2 (by decide)]
              simp only [decide_eq_true_eq, beq_iff_eq]
              obtain ⟨_, c | ⟨_, c2, _⟩⟩ := nr_any V ET (Nat.le_trans ET5 (by decide)) H1.out.2.2.2.1 v0
              · right; right
                rw [e0, c.1, HRR.out.2.1]
              · rw [e0, c2]
                cases (decide (V < 0))
                · left; rfl
                · right; left; rfl
          · exact ⟨true, true, true, fun h => absurd h q0⟩
        obtain ⟨b1, b2, b3, hkey⟩ := key
        by_cases hl0 : 0 < mp
        · obtain ⟨gp0, y, rfl, hc0, he1, he2, he3, hor⟩ := hkey hl0
          have HSw := hid (fun W => rSame_w y y0 W)
          rw [he3] at HSw
          have hn1 : (FloatKind.f64.format.order y 9218868437227405311 != some .eq) = !b1 := by rw [← he1]; rfl
          have hn2 : (FloatKind.f64.format.order y 18442240474082181119 != some .eq) = !b2 := by rw [← he2]; rfl
          clear hkey he3
          cases b1
          · cases b2
            · cases b3
              · simp at hor
              · clear hor
                go_wp2_with fail
                with_reducible refine (HSw.out _).mono ?_
                rintro r w9 ⟨rfl, rfl⟩
                clear he1 he2 hn1 hn2 hc0 HSw hgr hle1 hle2 hl0
                go_wp2_with fail
                go_loopg [19, 20] mp (fun gk av iv wr => ∃ (j A : Nat) (U : Int), gk + j = mp ∧ av = .float .f64 A ∧ iv = .int .i64 (j : Nat) ∧ Aside (Ls w9 w3.heap.size l j U A wr))
                case atStart =>
                  refine ⟨0, 9218868437227405311, V, by omega, rfl, rfl, ⟨⟨a0, c0, H9.out.1, H9.out.2.1⟩, Tch.refl _ _, H9.out.2.2.2.1, H1.out.2.2.2.1, Nat.le_refl _, fun q => ?_⟩⟩
                  have := (H9.out.2.2.2.2.1.get 0 q).2
                  unfold finW at this
                  omega
                case round =>
                  obtain ⟨j, A, U, hgj, rfl, rfl, HX⟩ := hrel
                  by_cases hj : j < mp
                  · have HJ : Aside (j < l.length) := by have := H9.out.2.2.2.2.2.2.1; exact Aside.intro (by omega)
                    obtain ⟨hU0, hyn, _⟩ := HX.out.now HJ.out
                    have hm2 := Nat.le_trans ET5 (show 100000 ≤ 200000 by decide)
                    obtain ⟨hgp1, hgp2⟩ : w7.heap.size ≤ gp0 ∧ ∀ k, k < l.length → w9.cell? ⟨gp0, k, none⟩ = some (.float .f64 (l.getD k 0)) := by
                      rcases H9.out.2.2.2.2.2.2.2.shape with ⟨q, _⟩ | ⟨g', cap', q, q1, _, _, _, q2⟩
                      · cases q
                      · cases q; exact ⟨q1, q2⟩
                    obtain ⟨y, hy⟩ : ∃ y, y = nrW U := ⟨_, rfl⟩
                    have hyf : Wd y ∧ finW y := by rw [hy]; exact (nr_any U ET hm2 HX.out.top hU0).1
                    have hyp : 0 < (fvW y).natAbs := by rw [hy]; exact nr_pos U ET hm2 HX.out.top hU0
                    have HPC : Aside (∀ W, Tch (fun k => k = w3.heap.size) w9 W → W.cell? ⟨gp0, j, none⟩ = some (.float .f64 y)) := fun W hW => by
                      have q := hgp2 j HJ.out
                      rw [hyn, ← hy] at q
                      rw [← q]
                      have hlt : gp0 < w9.heap.size := World.block_lt_of_cell? w9 ⟨gp0, j, none⟩ q
                      exact World.cell?_of_block (a := ⟨gp0, j, none⟩) (hW.block gp0 hlt (fun e => by have := HLT.out; omega))
                    have hc := HPC.out wr HX.out.tch
                    obtain ⟨hlt0, hmg⟩ := order_lt0 hyf hyp
                    have hneg := neg_word hyf
                    have hsz := HX.out.size HJ.out
                    rw [hyn, ← hy] at hsz
                    have hK := hyf.2
                    unfold finW at hK
                    have hgt := size_pos hmg (by omega)
                    have hle := size_le (K := magW y) (L := A) (by omega) (by have := HX.out.ahead; omega) hsz
                    have HY := Aside.intro (And.intro hy (And.intro hyf hU0))
                    obtain ⟨a5, c5, D5, N5⟩ := HX.out.left
                    obtain ⟨x0, x1, x2, xf0, xf1, xf2⟩ := D5.facts
                    have HD5 := Aside.intro (And.intro D5 N5)
                    have HUL := Aside.intro (fo8_len U ET hm2 HX.out.top).1
                    have HNr := hid (fun W (hW : Below wr.heap.size wr W) => nearest8 U HX.out.top W a5 c5 ((N5.below hW).arg' (Nat.le_trans HUL.out (by decide))).2)
                    rw [← hy] at HNr
                    have HSw := hid (fun W => rSame_w y y W)
                    rw [beq_self_eq_true] at HSw
                    obtain ⟨K, hKe⟩ : ∃ K, K = magW y := ⟨_, rfl⟩
                    rw [← hKe] at hgt hle hneg
                    have HKK := Aside.intro hKe
                    have hDL := D5.lt
                    clear hU0 hyn hgp1 hgp2 hy hyp hsz hK D5 N5 hmg hKe hyf
                    have kS : Aside (wr.drew.cell? ⟨gp0, j, none⟩ = some (.float .f64 y) ∧ wr.drew.cell? ⟨w3.heap.size, 0, none⟩ = some (.bool (dN (fo8 U))) ∧ wr.drew.cell? ⟨w3.heap.size, 1, none⟩ = some (.slice a5 (ws (dX (fo8 U))).length c5) ∧ wr.drew.cell? ⟨w3.heap.size, 2, none⟩ = some (.int .i64 (dE (fo8 U)))) := ⟨hc, x0, x1, x2⟩
                    cases hng : negW y
                    all_goals (
                      rw [hng] at hlt0
                      first
                        | (have hng1 := hneg hng
                           have HKy : Aside (K = K) := rfl
                           clear hneg hng)
                        | (have hKy : K = y := by
                             rw [HKK.out]
                             have q := wd_of y HY.out.2.1.1
                             rw [hng] at q
                             unfold wd64 at q
                             simp at q
                             exact q.symm
                           rw [hKy] at hgt hle
                           have HKy := Aside.intro hKy
                           clear hneg hng hKy)
                      go_wp2
                      skip
                      go_region_held3 (fun w' => w'.cell? ⟨gp0, j, none⟩ = some (.float .f64 y) ∧ w'.cell? ⟨w3.heap.size, 0, none⟩ = some (.bool (dN (fo8 U))) ∧ w'.cell? ⟨w3.heap.size, 1, none⟩ = some (.slice a5 (ws (dX (fo8 U))).length c5) ∧ w'.cell? ⟨w3.heap.size, 2, none⟩ = some (.int .i64 (dE (fo8 U)))) (with_reducible exact kS.out) (first
                        | (go_at_call 28
                           with_reducible refine (HNr.out _ (by first | exact (Below.refl _ wr).drew | exact Below.refl _ wr)).mono ?_
                           rintro r u6 ⟨rfl, hb6⟩
                           have hbu : Below wr.heap.size wr u6 := by first | exact ((Below.refl _ wr).drew).trans hb6 | exact hb6
                           have hT6 : Tch (fun k => k = w3.heap.size) w9 u6 := HX.out.tch.trans' (Tch.of_below hbu)
                           obtain ⟨z0, z1, z2, _, _, _⟩ := (HD5.out.1.below hbu).facts
                           have z3 := HPC.out u6 hT6
                           have kS := Aside.intro (And.intro z3 (And.intro z0 (And.intro z1 z2)))
                           have H6 := Aside.intro (And.intro hbu hT6)
                           clear hb6 hbu hT6)
                        | (go_at_call 27
                           with_reducible refine (HSw.out _).mono ?_
                           rintro r u7 ⟨rfl, rfl⟩))
                      all_goals (
                        clear kS x0 x1 x2 xf0 xf1 xf2 z0 z1 z2 z3 HSw HNr hgt hle
                        try clear hng1
                        have HO := hid (fun W => rof8 y HY.out.2.1 W)
                        have hcc := HPC.out u7 H6.out.2
                        have q1 := fo8_len (fvW y) ET (Nat.le_trans ET5 (by decide)) (fv_ET HY.out.2.1)
                        go_wp2_with fail
                        with_reducible refine (HO.out _).mono ?_
                        rintro r u8' ⟨⟨v1, rfl, hN1⟩, hb1⟩
                        obtain ⟨a7, c7, rfl, _⟩ := hN1.arg (Nat.le_trans q1.1 (by decide))
                        obtain ⟨G, hG⟩ : ∃ G, G = u8'.alloc (Obj.cells #[.bool (dN (fo8 (fvW y))), .slice a7 (ws (dX (fo8 (fvW y)))).length c7, .int .i64 (dE (fo8 (fvW y)))] 33) := ⟨_, rfl⟩
                        have HG : Aside (Below wr.heap.size wr G ∧ Dk G u8'.heap.size (dN (fo8 (fvW y))) (.slice a7 (ws (dX (fo8 (fvW y)))).length c7) (dE (fo8 (fvW y))) ∧ Nt 0 G (.slice a7 (ws (dX (fo8 (fvW y)))).length c7) (dX (fo8 (fvW y)))) := by
                          subst hG
                          have q := H6.out.1.trans (hb1.mono H6.out.1.size)
                          exact ⟨q.trans ((below_alloc _ _).mono q.size), Dk.new _ _ _ _, (hN1.below (below_alloc _ _)).mono (Nat.zero_le _)⟩
                        go_upto_region 34 with fail
                        rw [← hG]
                        clear hG hN1 hb1 hcc HO
                        have D6 := HD5.out.1.below HG.out.1
                        have N6 := HD5.out.2.below HG.out.1
                        obtain ⟨x0, x1, x2, xf0, xf1, xf2⟩ := D6.facts
                        obtain ⟨p0, p1, p2, pf0, pf1, pf2⟩ := HG.out.2.1.facts
                        have HSb := hid (rsub8 U (fvW y) ET ET5 HX.out.top (fv_ET HY.out.2.1) G a5 a7 c5 c7 (N6.arg' (Nat.le_trans HUL.out (by decide))).2 (HG.out.2.2.arg' (Nat.le_trans q1.1 (by decide))).2)
                        obtain ⟨Z2, hZ2⟩ : ∃ Z, Z = U - fvW y := ⟨_, rfl⟩
                        rw [← hZ2] at HSb
                        have HZ2 := Aside.intro hZ2
                        have hT7 : Tch (fun k => k = w3.heap.size) w9 G := HX.out.tch.trans' (Tch.of_below HG.out.1)
                        have HD := Aside.intro (And.intro (show Lv 0 G w3.heap.size U from ⟨a5, c5, D6, N6⟩) hT7)
                        have HZT : Aside (Z2.natAbs < 2 ^ ET) := by
                          rw [hZ2, HY.out.1]
                          exact Nat.lt_trans (stp_less U ET (Nat.le_trans ET5 (by decide)) HX.out.top HY.out.2.2).2 HX.out.top
                        clear D6 N6 q1 hZ2 hT7
                        go_wp2_with fail
                        with_reducible refine HSb.out.mono ?_
                        rintro r u9' ⟨⟨v2, rfl, hN2⟩, hb2⟩
                        obtain ⟨a8, c8, rfl, _⟩ := hN2.arg (Nat.le_trans (fo8_len Z2 ET (Nat.le_trans ET5 (by decide)) HZT.out).1 (by decide))
                        have hLv2 := HD.out.1.below hb2
                        have hlt := hLv2.lt
                        have HXX : Aside (Ls w9 w3.heap.size l (j + 1) (U - fvW (nrW U)) K (((u9'.setCell ⟨w3.heap.size, 0, none⟩ (.bool (dN (fo8 Z2)))).setCell ⟨w3.heap.size, 1, none⟩ (.slice a8 (ws (dX (fo8 Z2))).length c8)).setCell ⟨w3.heap.size, 2, none⟩ (.int .i64 (dE (fo8 Z2))))) := by
                          have e : U - fvW (nrW U) = Z2 := by rw [HZ2.out, HY.out.1]
                          have q := HX.out.next (w' := ((u9'.setCell ⟨w3.heap.size, 0, none⟩ (.bool (dN (fo8 Z2)))).setCell ⟨w3.heap.size, 1, none⟩ (.slice a8 (ws (dX (fo8 Z2))).length c8)).setCell ⟨w3.heap.size, 2, none⟩ (.int .i64 (dE (fo8 Z2)))) HJ.out (by rw [e]; exact hLv2.set (hN2.mono (Nat.zero_le _)))
                            ((((HD.out.2.trans' (Tch.of_below hb2)).set _ 0 _ rfl).set _ 1 _ rfl).set _ 2 _ rfl)
                          rw [← HY.out.1] at q
                          rw [HKK.out, ← HY.out.1]
                          exact q
                        obtain ⟨a9, c9, D9, N9⟩ := hLv2
                        obtain ⟨s0, s1, s2, sf0, sf1, sf2⟩ := D9.facts
                        clear D9 N9 hN2 hb2 HSb HD x0 x1 x2 xf0 xf1 xf2 p0 p1 p2 pf0 pf1 pf2
                        go_wp2
                        go_roundg (gk - 1)
                        case measure => omega
                        case rel =>
                          have HXY := HXX
                          try rw [HKy.out] at HXY
                          exact ⟨j + 1, _, _, by omega, rfl, by simp, HXY⟩))
                  · obtain rfl : j = mp := by omega
                    obtain rfl : gk = 0 := by omega
                    have hU : U = 0 := by
                      have q := HX.out.parts
                      rw [show l.drop j = [] by rw [H9.out.2.2.2.2.2.2.1]; simp] at q
                      exact q
                    obtain ⟨a5, c5, D5, N5⟩ := HX.out.left
                    have z0 : fo8 U = some (false, 0, 0) := by rw [hU]; unfold fo8; exact mkS_zero _ _
                    rw [z0] at D5
                    have hw0 : (ws (dX (some (false, 0, 0)))).length = 0 := by simp [dX, ws_zero]
                    rw [hw0] at D5
                    obtain ⟨x0, x1, x2, xf0, xf1, xf2⟩ := D5.facts
                    have HBw : Aside (Below w.heap.size w wr) := Tch.below H9.out.2.2.1 HX.out.tch (fun k hk => by have := S3.out.2.2.size; omega) H9.out.2.2.1.size
                    clear D5 N5 HX z0 hw0 hU
                    go_wp2
                    go_ret
                    exact ⟨rfl, HBw.out⟩
            · clear hor
              go_wp2_with fail
              clear he1 he2 hn1 hn2 hc0 HSw hgr hle1 hle2 hl0
              go_loopg [19, 20] mp (fun gk av iv wr => ∃ (j A : Nat) (U : Int), gk + j = mp ∧ av = .float .f64 A ∧ iv = .int .i64 (j : Nat) ∧ Aside (Ls w9 w3.heap.size l j U A wr))
              case atStart =>
                refine ⟨0, 9218868437227405311, V, by omega, rfl, rfl, ⟨⟨a0, c0, H9.out.1, H9.out.2.1⟩, Tch.refl _ _, H9.out.2.2.2.1, H1.out.2.2.2.1, Nat.le_refl _, fun q => ?_⟩⟩
                have := (H9.out.2.2.2.2.1.get 0 q).2
                unfold finW at this
                omega
              case round =>
                obtain ⟨j, A, U, hgj, rfl, rfl, HX⟩ := hrel
                by_cases hj : j < mp
                · have HJ : Aside (j < l.length) := by have := H9.out.2.2.2.2.2.2.1; exact Aside.intro (by omega)
                  obtain ⟨hU0, hyn, _⟩ := HX.out.now HJ.out
                  have hm2 := Nat.le_trans ET5 (show 100000 ≤ 200000 by decide)
                  obtain ⟨hgp1, hgp2⟩ : w7.heap.size ≤ gp0 ∧ ∀ k, k < l.length → w9.cell? ⟨gp0, k, none⟩ = some (.float .f64 (l.getD k 0)) := by
                    rcases H9.out.2.2.2.2.2.2.2.shape with ⟨q, _⟩ | ⟨g', cap', q, q1, _, _, _, q2⟩
                    · cases q
                    · cases q; exact ⟨q1, q2⟩
                  obtain ⟨y, hy⟩ : ∃ y, y = nrW U := ⟨_, rfl⟩
                  have hyf : Wd y ∧ finW y := by rw [hy]; exact (nr_any U ET hm2 HX.out.top hU0).1
                  have hyp : 0 < (fvW y).natAbs := by rw [hy]; exact nr_pos U ET hm2 HX.out.top hU0
                  have HPC : Aside (∀ W, Tch (fun k => k = w3.heap.size) w9 W → W.cell? ⟨gp0, j, none⟩ = some (.float .f64 y)) := fun W hW => by
                    have q := hgp2 j HJ.out
                    rw [hyn, ← hy] at q
                    rw [← q]
                    have hlt : gp0 < w9.heap.size := World.block_lt_of_cell? w9 ⟨gp0, j, none⟩ q
                    exact World.cell?_of_block (a := ⟨gp0, j, none⟩) (hW.block gp0 hlt (fun e => by have := HLT.out; omega))
                  have hc := HPC.out wr HX.out.tch
                  obtain ⟨hlt0, hmg⟩ := order_lt0 hyf hyp
                  have hneg := neg_word hyf
                  have hsz := HX.out.size HJ.out
                  rw [hyn, ← hy] at hsz
                  have hK := hyf.2
                  unfold finW at hK
                  have hgt := size_pos hmg (by omega)
                  have hle := size_le (K := magW y) (L := A) (by omega) (by have := HX.out.ahead; omega) hsz
                  have HY := Aside.intro (And.intro hy (And.intro hyf hU0))
                  obtain ⟨a5, c5, D5, N5⟩ := HX.out.left
                  obtain ⟨x0, x1, x2, xf0, xf1, xf2⟩ := D5.facts
                  have HD5 := Aside.intro (And.intro D5 N5)
                  have HUL := Aside.intro (fo8_len U ET hm2 HX.out.top).1
                  have HNr := hid (fun W (hW : Below wr.heap.size wr W) => nearest8 U HX.out.top W a5 c5 ((N5.below hW).arg' (Nat.le_trans HUL.out (by decide))).2)
                  rw [← hy] at HNr
                  have HSw := hid (fun W => rSame_w y y W)
                  rw [beq_self_eq_true] at HSw
                  obtain ⟨K, hKe⟩ : ∃ K, K = magW y := ⟨_, rfl⟩
                  rw [← hKe] at hgt hle hneg
                  have HKK := Aside.intro hKe
                  have hDL := D5.lt
                  clear hU0 hyn hgp1 hgp2 hy hyp hsz hK D5 N5 hmg hKe hyf
                  have kS : Aside (wr.drew.cell? ⟨gp0, j, none⟩ = some (.float .f64 y) ∧ wr.drew.cell? ⟨w3.heap.size, 0, none⟩ = some (.bool (dN (fo8 U))) ∧ wr.drew.cell? ⟨w3.heap.size, 1, none⟩ = some (.slice a5 (ws (dX (fo8 U))).length c5) ∧ wr.drew.cell? ⟨w3.heap.size, 2, none⟩ = some (.int .i64 (dE (fo8 U)))) := ⟨hc, x0, x1, x2⟩
                  cases hng : negW y
                  all_goals (
                    rw [hng] at hlt0
                    first
                      | (have hng1 := hneg hng
                         have HKy : Aside (K = K) := rfl
                         clear hneg hng)
                      | (have hKy : K = y := by
                           rw [HKK.out]
                           have q := wd_of y HY.out.2.1.1
                           rw [hng] at q
                           unfold wd64 at q
                           simp at q
                           exact q.symm
                         rw [hKy] at hgt hle
                         have HKy := Aside.intro hKy
                         clear hneg hng hKy)
                    go_wp2
                    skip
                    go_region_held3 (fun w' => w'.cell? ⟨gp0, j, none⟩ = some (.float .f64 y) ∧ w'.cell? ⟨w3.heap.size, 0, none⟩ = some (.bool (dN (fo8 U))) ∧ w'.cell? ⟨w3.heap.size, 1, none⟩ = some (.slice a5 (ws (dX (fo8 U))).length c5) ∧ w'.cell? ⟨w3.heap.size, 2, none⟩ = some (.int .i64 (dE (fo8 U)))) (with_reducible exact kS.out) (first
                      | (go_at_call 28
                         with_reducible refine (HNr.out _ (by first | exact (Below.refl _ wr).drew | exact Below.refl _ wr)).mono ?_
                         rintro r u6 ⟨rfl, hb6⟩
                         have hbu : Below wr.heap.size wr u6 := by first | exact ((Below.refl _ wr).drew).trans hb6 | exact hb6
                         have hT6 : Tch (fun k => k = w3.heap.size) w9 u6 := HX.out.tch.trans' (Tch.of_below hbu)
                         obtain ⟨z0, z1, z2, _, _, _⟩ := (HD5.out.1.below hbu).facts
                         have z3 := HPC.out u6 hT6
                         have kS := Aside.intro (And.intro z3 (And.intro z0 (And.intro z1 z2)))
                         have H6 := Aside.intro (And.intro hbu hT6)
                         clear hb6 hbu hT6)
                      | (go_at_call 27
                         with_reducible refine (HSw.out _).mono ?_
                         rintro r u7 ⟨rfl, rfl⟩))
                    all_goals (
                      clear kS x0 x1 x2 xf0 xf1 xf2 z0 z1 z2 z3 HSw HNr hgt hle
                      try clear hng1
                      have HO := hid (fun W => rof8 y HY.out.2.1 W)
                      have hcc := HPC.out u7 H6.out.2
                      have q1 := fo8_len (fvW y) ET (Nat.le_trans ET5 (by decide)) (fv_ET HY.out.2.1)
                      go_wp2_with fail
                      with_reducible refine (HO.out _).mono ?_
                      rintro r u8' ⟨⟨v1, rfl, hN1⟩, hb1⟩
                      obtain ⟨a7, c7, rfl, _⟩ := hN1.arg (Nat.le_trans q1.1 (by decide))
                      obtain ⟨G, hG⟩ : ∃ G, G = u8'.alloc (Obj.cells #[.bool (dN (fo8 (fvW y))), .slice a7 (ws (dX (fo8 (fvW y)))).length c7, .int .i64 (dE (fo8 (fvW y)))] 33) := ⟨_, rfl⟩
                      have HG : Aside (Below wr.heap.size wr G ∧ Dk G u8'.heap.size (dN (fo8 (fvW y))) (.slice a7 (ws (dX (fo8 (fvW y)))).length c7) (dE (fo8 (fvW y))) ∧ Nt 0 G (.slice a7 (ws (dX (fo8 (fvW y)))).length c7) (dX (fo8 (fvW y)))) := by
                        subst hG
                        have q := H6.out.1.trans (hb1.mono H6.out.1.size)
                        exact ⟨q.trans ((below_alloc _ _).mono q.size), Dk.new _ _ _ _, (hN1.below (below_alloc _ _)).mono (Nat.zero_le _)⟩
                      go_upto_region 34 with fail
                      rw [← hG]
                      clear hG hN1 hb1 hcc HO
                      have D6 := HD5.out.1.below HG.out.1
                      have N6 := HD5.out.2.below HG.out.1
                      obtain ⟨x0, x1, x2, xf0, xf1, xf2⟩ := D6.facts
                      obtain ⟨p0, p1, p2, pf0, pf1, pf2⟩ := HG.out.2.1.facts
                      have HSb := hid (rsub8 U (fvW y) ET ET5 HX.out.top (fv_ET HY.out.2.1) G a5 a7 c5 c7 (N6.arg' (Nat.le_trans HUL.out (by decide))).2 (HG.out.2.2.arg' (Nat.le_trans q1.1 (by decide))).2)
                      obtain ⟨Z2, hZ2⟩ : ∃ Z, Z = U - fvW y := ⟨_, rfl⟩
                      rw [← hZ2] at HSb
                      have HZ2 := Aside.intro hZ2
                      have hT7 : Tch (fun k => k = w3.heap.size) w9 G := HX.out.tch.trans' (Tch.of_below HG.out.1)
                      have HD := Aside.intro (And.intro (show Lv 0 G w3.heap.size U from ⟨a5, c5, D6, N6⟩) hT7)
                      have HZT : Aside (Z2.natAbs < 2 ^ ET) := by
                        rw [hZ2, HY.out.1]
                        exact Nat.lt_trans (stp_less U ET (Nat.le_trans ET5 (by decide)) HX.out.top HY.out.2.2).2 HX.out.top
                      clear D6 N6 q1 hZ2 hT7
                      go_wp2_with fail
                      with_reducible refine HSb.out.mono ?_
                      rintro r u9' ⟨⟨v2, rfl, hN2⟩, hb2⟩
                      obtain ⟨a8, c8, rfl, _⟩ := hN2.arg (Nat.le_trans (fo8_len Z2 ET (Nat.le_trans ET5 (by decide)) HZT.out).1 (by decide))
                      have hLv2 := HD.out.1.below hb2
                      have hlt := hLv2.lt
                      have HXX : Aside (Ls w9 w3.heap.size l (j + 1) (U - fvW (nrW U)) K (((u9'.setCell ⟨w3.heap.size, 0, none⟩ (.bool (dN (fo8 Z2)))).setCell ⟨w3.heap.size, 1, none⟩ (.slice a8 (ws (dX (fo8 Z2))).length c8)).setCell ⟨w3.heap.size, 2, none⟩ (.int .i64 (dE (fo8 Z2))))) := by
                        have e : U - fvW (nrW U) = Z2 := by rw [HZ2.out, HY.out.1]
                        have q := HX.out.next (w' := ((u9'.setCell ⟨w3.heap.size, 0, none⟩ (.bool (dN (fo8 Z2)))).setCell ⟨w3.heap.size, 1, none⟩ (.slice a8 (ws (dX (fo8 Z2))).length c8)).setCell ⟨w3.heap.size, 2, none⟩ (.int .i64 (dE (fo8 Z2)))) HJ.out (by rw [e]; exact hLv2.set (hN2.mono (Nat.zero_le _)))
                          ((((HD.out.2.trans' (Tch.of_below hb2)).set _ 0 _ rfl).set _ 1 _ rfl).set _ 2 _ rfl)
                        rw [← HY.out.1] at q
                        rw [HKK.out, ← HY.out.1]
                        exact q
                      obtain ⟨a9, c9, D9, N9⟩ := hLv2
                      obtain ⟨s0, s1, s2, sf0, sf1, sf2⟩ := D9.facts
                      clear D9 N9 hN2 hb2 HSb HD x0 x1 x2 xf0 xf1 xf2 p0 p1 p2 pf0 pf1 pf2
                      go_wp2
                      go_roundg (gk - 1)
                      case measure => omega
                      case rel =>
                        have HXY := HXX
                        try rw [HKy.out] at HXY
                        exact ⟨j + 1, _, _, by omega, rfl, by simp, HXY⟩))
                · obtain rfl : j = mp := by omega
                  obtain rfl : gk = 0 := by omega
                  have hU : U = 0 := by
                    have q := HX.out.parts
                    rw [show l.drop j = [] by rw [H9.out.2.2.2.2.2.2.1]; simp] at q
                    exact q
                  obtain ⟨a5, c5, D5, N5⟩ := HX.out.left
                  have z0 : fo8 U = some (false, 0, 0) := by rw [hU]; unfold fo8; exact mkS_zero _ _
                  rw [z0] at D5
                  have hw0 : (ws (dX (some (false, 0, 0)))).length = 0 := by simp [dX, ws_zero]
                  rw [hw0] at D5
                  obtain ⟨x0, x1, x2, xf0, xf1, xf2⟩ := D5.facts
                  have HBw : Aside (Below w.heap.size w wr) := Tch.below H9.out.2.2.1 HX.out.tch (fun k hk => by have := S3.out.2.2.size; omega) H9.out.2.2.1.size
                  clear D5 N5 HX z0 hw0 hU
                  go_wp2
                  go_ret
                  exact ⟨rfl, HBw.out⟩
          · clear hor
            go_wp2_with fail
            clear he1 he2 hn1 hn2 hc0 HSw hgr hle1 hle2 hl0
            go_loopg [19, 20] mp (fun gk av iv wr => ∃ (j A : Nat) (U : Int), gk + j = mp ∧ av = .float .f64 A ∧ iv = .int .i64 (j : Nat) ∧ Aside (Ls w9 w3.heap.size l j U A wr))
            case atStart =>
              refine ⟨0, 9218868437227405311, V, by omega, rfl, rfl, ⟨⟨a0, c0, H9.out.1, H9.out.2.1⟩, Tch.refl _ _, H9.out.2.2.2.1, H1.out.2.2.2.1, Nat.le_refl _, fun q => ?_⟩⟩
              have := (H9.out.2.2.2.2.1.get 0 q).2
              unfold finW at this
              omega
            case round =>
              obtain ⟨j, A, U, hgj, rfl, rfl, HX⟩ := hrel
              by_cases hj : j < mp
              · have HJ : Aside (j < l.length) := by have := H9.out.2.2.2.2.2.2.1; exact Aside.intro (by omega)
                obtain ⟨hU0, hyn, _⟩ := HX.out.now HJ.out
                have hm2 := Nat.le_trans ET5 (show 100000 ≤ 200000 by decide)
                obtain ⟨hgp1, hgp2⟩ : w7.heap.size ≤ gp0 ∧ ∀ k, k < l.length → w9.cell? ⟨gp0, k, none⟩ = some (.float .f64 (l.getD k 0)) := by
                  rcases H9.out.2.2.2.2.2.2.2.shape with ⟨q, _⟩ | ⟨g', cap', q, q1, _, _, _, q2⟩
                  · cases q
                  · cases q; exact ⟨q1, q2⟩
                obtain ⟨y, hy⟩ : ∃ y, y = nrW U := ⟨_, rfl⟩
                have hyf : Wd y ∧ finW y := by rw [hy]; exact (nr_any U ET hm2 HX.out.top hU0).1
                have hyp : 0 < (fvW y).natAbs := by rw [hy]; exact nr_pos U ET hm2 HX.out.top hU0
                have HPC : Aside (∀ W, Tch (fun k => k = w3.heap.size) w9 W → W.cell? ⟨gp0, j, none⟩ = some (.float .f64 y)) := fun W hW => by
                  have q := hgp2 j HJ.out
                  rw [hyn, ← hy] at q
                  rw [← q]
                  have hlt : gp0 < w9.heap.size := World.block_lt_of_cell? w9 ⟨gp0, j, none⟩ q
                  exact World.cell?_of_block (a := ⟨gp0, j, none⟩) (hW.block gp0 hlt (fun e => by have := HLT.out; omega))
                have hc := HPC.out wr HX.out.tch
                obtain ⟨hlt0, hmg⟩ := order_lt0 hyf hyp
                have hneg := neg_word hyf
                have hsz := HX.out.size HJ.out
                rw [hyn, ← hy] at hsz
                have hK := hyf.2
                unfold finW at hK
                have hgt := size_pos hmg (by omega)
                have hle := size_le (K := magW y) (L := A) (by omega) (by have := HX.out.ahead; omega) hsz
                have HY := Aside.intro (And.intro hy (And.intro hyf hU0))
                obtain ⟨a5, c5, D5, N5⟩ := HX.out.left
                obtain ⟨x0, x1, x2, xf0, xf1, xf2⟩ := D5.facts
                have HD5 := Aside.intro (And.intro D5 N5)
                have HUL := Aside.intro (fo8_len U ET hm2 HX.out.top).1
                have HNr := hid (fun W (hW : Below wr.heap.size wr W) => nearest8 U HX.out.top W a5 c5 ((N5.below hW).arg' (Nat.le_trans HUL.out (by decide))).2)
                rw [← hy] at HNr
                have HSw := hid (fun W => rSame_w y y W)
                rw [beq_self_eq_true] at HSw
                obtain ⟨K, hKe⟩ : ∃ K, K = magW y := ⟨_, rfl⟩
                rw [← hKe] at hgt hle hneg
                have HKK := Aside.intro hKe
                have hDL := D5.lt
                clear hU0 hyn hgp1 hgp2 hy hyp hsz hK D5 N5 hmg hKe hyf
                have kS : Aside (wr.drew.cell? ⟨gp0, j, none⟩ = some (.float .f64 y) ∧ wr.drew.cell? ⟨w3.heap.size, 0, none⟩ = some (.bool (dN (fo8 U))) ∧ wr.drew.cell? ⟨w3.heap.size, 1, none⟩ = some (.slice a5 (ws (dX (fo8 U))).length c5) ∧ wr.drew.cell? ⟨w3.heap.size, 2, none⟩ = some (.int .i64 (dE (fo8 U)))) := ⟨hc, x0, x1, x2⟩
                cases hng : negW y
                all_goals (
                  rw [hng] at hlt0
                  first
                    | (have hng1 := hneg hng
                       have HKy : Aside (K = K) := rfl
                       clear hneg hng)
                    | (have hKy : K = y := by
                         rw [HKK.out]
                         have q := wd_of y HY.out.2.1.1
                         rw [hng] at q
                         unfold wd64 at q
                         simp at q
                         exact q.symm
                       rw [hKy] at hgt hle
                       have HKy := Aside.intro hKy
                       clear hneg hng hKy)
                  go_wp2
                  skip
                  go_region_held3 (fun w' => w'.cell? ⟨gp0, j, none⟩ = some (.float .f64 y) ∧ w'.cell? ⟨w3.heap.size, 0, none⟩ = some (.bool (dN (fo8 U))) ∧ w'.cell? ⟨w3.heap.size, 1, none⟩ = some (.slice a5 (ws (dX (fo8 U))).length c5) ∧ w'.cell? ⟨w3.heap.size, 2, none⟩ = some (.int .i64 (dE (fo8 U)))) (with_reducible exact kS.out) (first
                    | (go_at_call 28
                       with_reducible refine (HNr.out _ (by first | exact (Below.refl _ wr).drew | exact Below.refl _ wr)).mono ?_
                       rintro r u6 ⟨rfl, hb6⟩
                       have hbu : Below wr.heap.size wr u6 := by first | exact ((Below.refl _ wr).drew).trans hb6 | exact hb6
                       have hT6 : Tch (fun k => k = w3.heap.size) w9 u6 := HX.out.tch.trans' (Tch.of_below hbu)
                       obtain ⟨z0, z1, z2, _, _, _⟩ := (HD5.out.1.below hbu).facts
                       have z3 := HPC.out u6 hT6
                       have kS := Aside.intro (And.intro z3 (And.intro z0 (And.intro z1 z2)))
                       have H6 := Aside.intro (And.intro hbu hT6)
                       clear hb6 hbu hT6)
                    | (go_at_call 27
                       with_reducible refine (HSw.out _).mono ?_
                       rintro r u7 ⟨rfl, rfl⟩))
                  all_goals (
                    clear kS x0 x1 x2 xf0 xf1 xf2 z0 z1 z2 z3 HSw HNr hgt hle
                    try clear hng1
                    have HO := hid (fun W => rof8 y HY.out.2.1 W)
                    have hcc := HPC.out u7 H6.out.2
                    have q1 := fo8_len (fvW y) ET (Nat.le_trans ET5 (by decide)) (fv_ET HY.out.2.1)
                    go_wp2_with fail
                    with_reducible refine (HO.out _).mono ?_
                    rintro r u8' ⟨⟨v1, rfl, hN1⟩, hb1⟩
                    obtain ⟨a7, c7, rfl, _⟩ := hN1.arg (Nat.le_trans q1.1 (by decide))
                    obtain ⟨G, hG⟩ : ∃ G, G = u8'.alloc (Obj.cells #[.bool (dN (fo8 (fvW y))), .slice a7 (ws (dX (fo8 (fvW y)))).length c7, .int .i64 (dE (fo8 (fvW y)))] 33) := ⟨_, rfl⟩
                    have HG : Aside (Below wr.heap.size wr G ∧ Dk G u8'.heap.size (dN (fo8 (fvW y))) (.slice a7 (ws (dX (fo8 (fvW y)))).length c7) (dE (fo8 (fvW y))) ∧ Nt 0 G (.slice a7 (ws (dX (fo8 (fvW y)))).length c7) (dX (fo8 (fvW y)))) := by
                      subst hG
                      have q := H6.out.1.trans (hb1.mono H6.out.1.size)
                      exact ⟨q.trans ((below_alloc _ _).mono q.size), Dk.new _ _ _ _, (hN1.below (below_alloc _ _)).mono (Nat.zero_le _)⟩
                    go_upto_region 34 with fail
                    rw [← hG]
                    clear hG hN1 hb1 hcc HO
                    have D6 := HD5.out.1.below HG.out.1
                    have N6 := HD5.out.2.below HG.out.1
                    obtain ⟨x0, x1, x2, xf0, xf1, xf2⟩ := D6.facts
                    obtain ⟨p0, p1, p2, pf0, pf1, pf2⟩ := HG.out.2.1.facts
                    have HSb := hid (rsub8 U (fvW y) ET ET5 HX.out.top (fv_ET HY.out.2.1) G a5 a7 c5 c7 (N6.arg' (Nat.le_trans HUL.out (by decide))).2 (HG.out.2.2.arg' (Nat.le_trans q1.1 (by decide))).2)
                    obtain ⟨Z2, hZ2⟩ : ∃ Z, Z = U - fvW y := ⟨_, rfl⟩
                    rw [← hZ2] at HSb
                    have HZ2 := Aside.intro hZ2
                    have hT7 : Tch (fun k => k = w3.heap.size) w9 G := HX.out.tch.trans' (Tch.of_below HG.out.1)
                    have HD := Aside.intro (And.intro (show Lv 0 G w3.heap.size U from ⟨a5, c5, D6, N6⟩) hT7)
                    have HZT : Aside (Z2.natAbs < 2 ^ ET) := by
                      rw [hZ2, HY.out.1]
                      exact Nat.lt_trans (stp_less U ET (Nat.le_trans ET5 (by decide)) HX.out.top HY.out.2.2).2 HX.out.top
                    clear D6 N6 q1 hZ2 hT7
                    go_wp2_with fail
                    with_reducible refine HSb.out.mono ?_
                    rintro r u9' ⟨⟨v2, rfl, hN2⟩, hb2⟩
                    obtain ⟨a8, c8, rfl, _⟩ := hN2.arg (Nat.le_trans (fo8_len Z2 ET (Nat.le_trans ET5 (by decide)) HZT.out).1 (by decide))
                    have hLv2 := HD.out.1.below hb2
                    have hlt := hLv2.lt
                    have HXX : Aside (Ls w9 w3.heap.size l (j + 1) (U - fvW (nrW U)) K (((u9'.setCell ⟨w3.heap.size, 0, none⟩ (.bool (dN (fo8 Z2)))).setCell ⟨w3.heap.size, 1, none⟩ (.slice a8 (ws (dX (fo8 Z2))).length c8)).setCell ⟨w3.heap.size, 2, none⟩ (.int .i64 (dE (fo8 Z2))))) := by
                      have e : U - fvW (nrW U) = Z2 := by rw [HZ2.out, HY.out.1]
                      have q := HX.out.next (w' := ((u9'.setCell ⟨w3.heap.size, 0, none⟩ (.bool (dN (fo8 Z2)))).setCell ⟨w3.heap.size, 1, none⟩ (.slice a8 (ws (dX (fo8 Z2))).length c8)).setCell ⟨w3.heap.size, 2, none⟩ (.int .i64 (dE (fo8 Z2)))) HJ.out (by rw [e]; exact hLv2.set (hN2.mono (Nat.zero_le _)))
                        ((((HD.out.2.trans' (Tch.of_below hb2)).set _ 0 _ rfl).set _ 1 _ rfl).set _ 2 _ rfl)
                      rw [← HY.out.1] at q
                      rw [HKK.out, ← HY.out.1]
                      exact q
                    obtain ⟨a9, c9, D9, N9⟩ := hLv2
                    obtain ⟨s0, s1, s2, sf0, sf1, sf2⟩ := D9.facts
                    clear D9 N9 hN2 hb2 HSb HD x0 x1 x2 xf0 xf1 xf2 p0 p1 p2 pf0 pf1 pf2
                    go_wp2
                    go_roundg (gk - 1)
                    case measure => omega
                    case rel =>
                      have HXY := HXX
                      try rw [HKy.out] at HXY
                      exact ⟨j + 1, _, _, by omega, rfl, by simp, HXY⟩))
              · obtain rfl : j = mp := by omega
                obtain rfl : gk = 0 := by omega
                have hU : U = 0 := by
                  have q := HX.out.parts
                  rw [show l.drop j = [] by rw [H9.out.2.2.2.2.2.2.1]; simp] at q
                  exact q
                obtain ⟨a5, c5, D5, N5⟩ := HX.out.left
                have z0 : fo8 U = some (false, 0, 0) := by rw [hU]; unfold fo8; exact mkS_zero _ _
                rw [z0] at D5
                have hw0 : (ws (dX (some (false, 0, 0)))).length = 0 := by simp [dX, ws_zero]
                rw [hw0] at D5
                obtain ⟨x0, x1, x2, xf0, xf1, xf2⟩ := D5.facts
                have HBw : Aside (Below w.heap.size w wr) := Tch.below H9.out.2.2.1 HX.out.tch (fun k hk => by have := S3.out.2.2.size; omega) H9.out.2.2.1.size
                clear D5 N5 HX z0 hw0 hU
                go_wp2
                go_ret
                exact ⟨rfl, HBw.out⟩
        · clear hkey
          have hl1 : mp ≤ 0 := by omega
          go_wp2_with fail
          clear hgr hle1 hle2 hl0
          go_loopg [19, 20] mp (fun gk av iv wr => ∃ (j A : Nat) (U : Int), gk + j = mp ∧ av = .float .f64 A ∧ iv = .int .i64 (j : Nat) ∧ Aside (Ls w9 w3.heap.size l j U A wr))
          case atStart =>
            refine ⟨0, 9218868437227405311, V, by omega, rfl, rfl, ⟨⟨a0, c0, H9.out.1, H9.out.2.1⟩, Tch.refl _ _, H9.out.2.2.2.1, H1.out.2.2.2.1, Nat.le_refl _, fun q => ?_⟩⟩
            have := (H9.out.2.2.2.2.1.get 0 q).2
            unfold finW at this
            omega
          case round =>
            obtain ⟨j, A, U, hgj, rfl, rfl, HX⟩ := hrel
            by_cases hj : j < mp
            · omega
            · obtain rfl : j = mp := by omega
              obtain rfl : gk = 0 := by omega
              have hU : U = 0 := by
                have q := HX.out.parts
                rw [show l.drop j = [] by rw [H9.out.2.2.2.2.2.2.1]; simp] at q
                exact q
              obtain ⟨a5, c5, D5, N5⟩ := HX.out.left
              have z0 : fo8 U = some (false, 0, 0) := by rw [hU]; unfold fo8; exact mkS_zero _ _
              rw [z0] at D5
              have hw0 : (ws (dX (some (false, 0, 0)))).length = 0 := by simp [dX, ws_zero]
              rw [hw0] at D5
              obtain ⟨x0, x1, x2, xf0, xf1, xf2⟩ := D5.facts
              have HBw : Aside (Below w.heap.size w wr) := Tch.below H9.out.2.2.1 HX.out.tch (fun k hk => by have := S3.out.2.2.size; omega) H9.out.2.2.1.size
              clear D5 N5 HX z0 hw0 hU
              go_wp2
              go_ret
              exact ⟨rfl, HBw.out⟩)
end Go.Proofs.YtnnlicahgdcbdaaGreatDoor

/- SpreadParts: what came in. -/
namespace Go.Proofs.YtnnlicahgdcbdaaGreatDoor
open Go.RowKit
set_option linter.unusedVariables false
set_option maxRecDepth 20000
theorem walk2_SpreadParts (o1 : Option Addr) (n1 c1 : Nat) (x1 : List Nat) (w : World) (hT : Tab w) (w1 : CameF w o1 n1 c1 x1) (b1 : n1 ≤ 17592186043904) :
    Calls Tryz.prog 5 #[.slice o1 n1 c1] w fun r w' => r = .returned (.bool true) ∧ Below w.heap.size w w' :=
  walk_SpreadParts x1 o1 n1 c1 w hT w1.len w1.rd w1.wf (by omega)
end Go.Proofs.YtnnlicahgdcbdaaGreatDoor

