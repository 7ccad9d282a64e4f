/- The program's Parts. -/
import Derived.Test.YtnnlicahgdcbdaaDoorJ29x
import Derived.Deep.Cut
import Derived.Test.YtnnlicahgdcbdaaDoorD21x
import Derived.Deep.RegionHeld3
import Derived.Test.YtnnlicahgdcbdaaDoorD33x
import Derived.Test.YtnnlicahgdcbdaaDoorJ3x
import Derived.ProofKit
import Derived.OpenShut
import Derived.ChangeOld
import Derived.ChangeArms
import Derived.SizedLaws
import Derived.Laws.Cover2
namespace Go.Proofs.YtnnlicahgdcbdaaDoor
open Go.RowKit J
set_option linter.unusedVariables false
set_option maxRecDepth 20000
set_option linter.unusedSimpArgs false

theorem Tryd.desc_f8 : Tryd.prog.underlying 22 = some (.slice 28) := by kernel_rfl
/-- A number put behind a row. -/
theorem append_f8 (w : World) (lo : Nat) (v : Value) (l : List Nat) (x s : Nat) (hown : Fr lo w v l) (hx : w.cell? ⟨s, 0, none⟩ = some (.float .f64 x)) (hl : l.length ≤ 2000000) (hlo : lo ≤ w.heap.size) :
    ∃ v' w', (Builtin.append_ #[22, 22] 22 #[v, .slice (some ⟨s, 0, none⟩) 1 1]).run Tryd.prog w = .ok v' w' ∧ Fr lo w' v' (l ++ [x]) ∧ w.grownBy w' v.ownBlock := by
  obtain ⟨i0, hi, hz0, hz1, hz2⟩ := info_parts Tryd.info_f8
  obtain ⟨v', w', r1, r2, r3, _, r5⟩ := run_append_own_at (P := Tryd.prog) w lo 22 22 28 i0 (.float .f64 0) 1 8 Tryd.desc_f8 hi hz0 hz1 hz2 rfl (by decide) v l.length (l.map Fw) hown ⟨s, 0, none⟩ 1 1 [.float .f64 x] rfl (by
      intro j u hj
      match j, hj with
      | 0, hj => simp at hj; subst hj; simpa [Addr.add] using hx) (by intro u hu; simp at hu; subst hu; rfl) (by unfold maxLen; omega) (by omega) hlo
  exact ⟨v', w', r1, by unfold Fr; rw [List.length_append, List.map_append]; exact r2, r3⟩
/-- Words and Dyads stay where a row of numbers grows. -/
theorem Nt.fr8 {lo lo' : Nat} {w w' : World} {v u : Value} {X : Nat} {L : List Nat} (h : Nt lo w v X) (hf : Fr lo' w u L) (hb : w.grownBy w' u.ownBlock) : Nt lo w' v X := by
  refine ⟨h.1, ?_⟩
  rcases h.2 with hn | ⟨g', cap, cur, rfl, hlo, hgc, rest⟩
  · exact .inl hn
  · refine .inr ⟨g', cap, cur, rfl, hlo, (hb.block g' (Array.getElem?_eq_some_iff.1 hgc).1 ?_).trans hgc, rest⟩
    intro e
    rcases hf.2 with ⟨rfl, _⟩ | ⟨g2, cap2, cur2, rfl, _, hg2, _⟩
    · simp [Value.ownBlock] at e
    · simp [Value.ownBlock] at e
      subst e
      rw [hg2] at hgc
      cases hgc
theorem Dk.fr8 {lo' : Nat} {w w' : World} {u v : Value} {L : List Nat} {g : Nat} {n : Bool} {e : Int} (h : Dk w g n v e) (hf : Fr lo' w u L) (hb : w.grownBy w' u.ownBlock) : Dk w' g n v e := by
  unfold Dk at h ⊢
  rw [hb.block g (Array.getElem?_eq_some_iff.1 h).1 ?_]
  · exact h
  · intro e
    rcases hf.2 with ⟨rfl, _⟩ | ⟨g2, cap2, cur2, rfl, _, hg2, _⟩
    · simp [Value.ownBlock] at e
    · simp [Value.ownBlock] at e
      subst e
      rw [hg2] at h
      cases h
theorem Fr.but8 {lo : Nat} {w w' : World} {v u : Value} {L : List Nat} {g : Nat} {n : Bool} {e : Int} (h : Fr lo w v L) (hD : Dk w g n u e) (hb : But g w w') : Fr lo w' v L := by
  refine ⟨h.1, ?_⟩
  rcases h.2 with hn | ⟨g', cap, cur, rfl, hlo, hgc, rest⟩
  · exact .inl hn
  · refine .inr ⟨g', cap, cur, rfl, hlo, (hb.block g' (Array.getElem?_eq_some_iff.1 hgc).1 ?_).trans hgc, rest⟩
    rintro rfl
    unfold Dk at hD
    rw [hD] at hgc
    cases hgc
theorem Nt.dk9 {lo : Nat} {w w' : World} {v : Value} {X : Nat} (h : Nt lo w v X) {g : Nat} {n : Bool} {u : Value} {e : Int} (hD : Dk w g n u e) (hb : But g w w') : Nt lo w' v X := by
  refine ⟨h.1, ?_⟩
  rcases h.2 with hn | ⟨g', cap, cur, rfl, hlo, hgc, rest⟩
  · exact .inl hn
  · refine .inr ⟨g', cap, cur, rfl, hlo, (hb.block g' (Array.getElem?_eq_some_iff.1 hgc).1 ?_).trans hgc, rest⟩
    rintro rfl
    unfold Dk at hD
    rw [hD] at hgc
    cases hgc
section
attribute [local go_sem] B.f64bits B.f64frombits
set_option maxHeartbeats 1000000 in
theorem copy_up8 (w : World) : Calls Tryd.prog 52 #[.float .f64 9218868437227405311, .float .f64 9218868437227405312] w fun r w' => r = .returned (.float .f64 9218868437227405311) ∧ w' = w := by
  go_enter Tryd.func52, Tryd.ntmps52
  go_wp2
  go_ret
  exact ⟨rfl, rfl⟩
set_option maxHeartbeats 1000000 in
theorem copy_dn8 (w : World) : Calls Tryd.prog 52 #[.float .f64 9218868437227405311, .float .f64 18442240474082181120] w fun r w' => r = .returned (.float .f64 18442240474082181119) ∧ w' = w := by
  go_enter Tryd.func52, Tryd.ntmps52
  go_wp2
  go_ret
  exact ⟨rfl, rfl⟩
end
theorem copy_any8 (s : Bool) (w : World) : Calls Tryd.prog 52 #[.float .f64 9218868437227405311, .float .f64 (wd64 s 9218868437227405312)] w fun r w' => r = .returned (.float .f64 (wd64 s 9218868437227405311)) ∧ w' = w := by
  cases s
  · exact copy_up8 w
  · exact copy_dn8 w
/-- What stands while Parts walks. -/
structure Pi8 (w : World) (gl : Nat) (V : Int) (N gk : Nat) (U : Int) (l : List Nat) (pv : Value) (wr : World) : Prop where
  left : ∃ v, Dk wr gl (dN (fo8 U)) v (dE (fo8 U)) ∧ Nt w.heap.size wr v (dX (fo8 U))
  row : Fr w.heap.size wr pv l
  bel : Below w.heap.size w wr
  val : ∀ r, IsParts U r → IsParts V (l ++ r)
  fin : FinL l
  len : l.length + gk ≤ N
  stp : stp U ≤ gk
  top : U.natAbs < 2 ^ ET
theorem ET5 : ET ≤ 100000 := by decide
theorem Pi8.next {w : World} {gl : Nat} {V : Int} {N gk : Nat} {U : Int} {l : List Nat} {pv pv' : Value} {wr w' : World} (h : Pi8 w gl V N gk U l pv wr) (h0 : U ≠ 0)
    (h1 : ∃ v, Dk w' gl (dN (fo8 (U - fvW (nrW U)))) v (dE (fo8 (U - fvW (nrW U)))) ∧ Nt w.heap.size w' v (dX (fo8 (U - fvW (nrW U))))) (h2 : Fr w.heap.size w' pv' (l ++ [nrW U])) (h3 : Below w.heap.size w w') :
    0 < gk ∧ Pi8 w gl V N (gk - 1) (U - fvW (nrW U)) (l ++ [nrW U]) pv' w' := by
  obtain ⟨s1, s2⟩ := stp_less U ET (Nat.le_trans ET5 (by decide)) h.top h0
  have hs := h.stp
  have hl := h.len
  have hg : 0 < gk := by omega
  refine ⟨hg, h1, h2, h3, fun r hr => ?_, h.fin.append (fun x hx => ?_), by rw [List.length_append, List.length_singleton]; omega, by omega, Nat.lt_trans s2 h.top⟩
  · rw [List.append_assoc]
    exact h.val _ ⟨h0, rfl, hr⟩
  · simp at hx
    subst hx
    exact (nr_any U ET (Nat.le_trans ET5 (by decide)) h.top h0).1

set_option maxHeartbeats 8000000 in
theorem parts_core8 (w : World) (g : Nat) (V : Int) (hV : V.natAbs < 2 ^ ET) (hT : Tab w)
    (HE : Hid (Calls Tryd.prog 49 #[.pointer (some ⟨g, 0, none⟩)] w fun r w' => (∃ v, r = .returned (.agg #[.bool (dN (fo8 V)), v, .int .i64 (dE (fo8 V))]) ∧ Nt w.heap.size w' v (dX (fo8 V))) ∧ Below w.heap.size w w')) :
    Calls Tryd.prog 20 #[.pointer (some ⟨g, 0, none⟩)] w fun r w' => ∃ v l, r = .returned v ∧ IsParts V l ∧ FinL l ∧ l.length ≤ 1100000 ∧ Fr w.heap.size w' v l ∧ Below w.heap.size w w' := by
  obtain ⟨N, hN⟩ : ∃ N, N = stp V := ⟨_, rfl⟩
  have HV := Aside.intro (And.intro hV (And.intro hT (And.intro hN (stp_top V hV))))
  have HL := Aside.intro (fo8_len V ET (Nat.le_trans ET5 (by decide)) hV).1
  clear hV hT hN
  obtain ⟨nn, hnn⟩ : ∃ b, b = dN (fo8 V) := ⟨_, rfl⟩
  obtain ⟨ee, hee⟩ : ∃ b, b = dE (fo8 V) := ⟨_, rfl⟩
  rw [← hnn, ← hee] at HE
  have HQ := Aside.intro (And.intro hnn hee)
  clear hnn hee
  go_enter Tryd.func20, Tryd.ntmps20
  go_wp2_with fail
  go_step3
  go_wp2_with fail
  with_reducible refine HE.out.mono ?_
  rintro r w1 ⟨⟨v1, rfl, hN1⟩, hb1⟩
  obtain ⟨a1, c1, rfl, _⟩ := hN1.arg (Nat.le_trans HL.out (by decide))
  obtain ⟨W, hW⟩ : ∃ W, W = w1.alloc (.cells #[.bool nn, .slice a1 (ws (dX (fo8 V))).length c1, .int .i64 ee] 37) := ⟨_, rfl⟩
  have H0 : Aside (Pi8 w w1.heap.size V N N V [] (.slice none 0 0) W) := by
    subst hW
    refine ⟨⟨.slice a1 (ws (dX (fo8 V))).length c1, ?_, hN1.below (below_alloc _ _)⟩, Fr.nil _ _, hb1.trans ((below_alloc _ _).mono hb1.size), fun r hr => hr, FinL.nil, by simp, by rw [HV.out.2.2.1]; exact Nat.le_refl _, HV.out.1⟩
    rw [← HQ.out.1, ← HQ.out.2]
    exact Dk.new _ _ _ _
  have hs1 : Aside (w.heap.size ≤ w1.heap.size) := hb1.size
  obtain ⟨gl, hgl⟩ : ∃ k, k = w1.heap.size := ⟨_, rfl⟩
  rw [← hgl] at H0 hs1
  clear hN1 hb1 HE
  go_wp2_with fail
  rw [← hW, ← hgl]
  clear hW hgl
  go_step3
  go_wp2_with fail
  go_loopg [3] N (fun gk pv wr => ∃ (U : Int) (l : List Nat), Aside (Pi8 w gl V N gk U l pv wr))
  case atStart => exact ⟨V, [], H0⟩
  case round =>
    clear H0
    obtain ⟨U, l, HP⟩ := hrel
    obtain ⟨sv, S1, S2⟩ := HP.out.left
    have HU := Aside.intro (And.intro HP.out.top (HV.out.2.1.belows HP.out.bel))
    have HUL := Aside.intro (fo8_len U ET (Nat.le_trans ET5 (by decide)) HP.out.top).1
    obtain ⟨a0, c0, rfl, A0⟩ := S2.arg (Nat.le_trans HUL.out (by decide))
    obtain ⟨x0, x1, x2, xf0, xf1, xf2⟩ := S1.facts
    have HR := hid (round_any8 U ET ET5 HU.out.1 0 wr a0 c0 HU.out.2 A0)
    have HSg := Aside.intro (sgn_fo8 U ET (Nat.le_trans ET5 (by decide)) HU.out.1)
    obtain ⟨un, hun⟩ : ∃ b, b = dN (fo8 U) := ⟨_, rfl⟩
    obtain ⟨ue, hue⟩ : ∃ b, b = dE (fo8 U) := ⟨_, rfl⟩
    obtain ⟨ux, hux⟩ : ∃ b, b = dX (fo8 U) := ⟨_, rfl⟩
    obtain ⟨rx, hrx⟩ : ∃ b, b = (rndS (fo8 U) 0).1 := ⟨_, rfl⟩
    obtain ⟨re, hre⟩ : ∃ b, b = (rndS (fo8 U) 0).2 := ⟨_, rfl⟩
    rw [← hun, ← hue, ← hux, ← hrx, ← hre] at HR
    rw [← hun] at x0
    rw [← hux] at x1
    rw [← hue] at x2
    rw [← hun, ← hux] at HSg
    rw [← hux] at HUL
    have HQ2 := Aside.intro (And.intro hun (And.intro hue (And.intro hux hrx)))
    rw [← hun, ← hue, ← hux] at S1
    rw [← hux] at S2 A0
    have HS := Aside.intro (And.intro S1 (And.intro S2 A0))
    clear hun hue hux hrx hre S1 S2 A0
    go_wp2_with fail
    with_reducible refine HR.out.mono ?_
    rintro r w2 ⟨rfl, hb2⟩
    have HS2 := Aside.intro (And.intro (HS.out.1.below hb2) (And.intro (HS.out.2.1.below hb2) (And.intro (HS.out.2.2.below hb2) hb2)))
    have HSn := hid (Sign_any3 HS2.out.2.2.1 un ue)
    rw [val_ws] at HSn
    obtain ⟨y0, y1, y2, yf0, yf1, yf2⟩ := HS2.out.1.facts
    obtain ⟨sg, hsg⟩ : ∃ z, z = sgn un ux := ⟨_, rfl⟩
    rw [← hsg] at HSn HSg
    clear hb2 hsg HR x0 x1 x2 xf0 xf1 xf2
    go_wp2_with fail
    with_reducible refine HSn.out.mono ?_
    rintro r w3 ⟨rfl, hb3⟩
    have HS3 := Aside.intro (And.intro (HS2.out.1.below hb3) (And.intro (HS2.out.2.1.below hb3) (HS2.out.2.2.2.trans (hb3.mono HS2.out.2.2.2.size))))
    clear hb3 HSn y0 y1 y2 yf0 yf1 yf2
    by_cases h0 : U = 0
    · have hz := HSg.out
      rw [decide_eq_true h0] at hz
      have HF : Aside (IsParts V l ∧ FinL l ∧ l.length ≤ 1100000 ∧ Fr w.heap.size w3 u3 l ∧ Below w.heap.size w w3) := by
        refine ⟨?_, HP.out.fin, by have := HP.out.len; have := HV.out.2.2.1; have := HV.out.2.2.2; omega, HP.out.row.below HS3.out.2.2, HP.out.bel.trans (HS3.out.2.2.mono HP.out.bel.size)⟩
        have := HP.out.val [] h0
        rw [List.append_nil] at this
        exact this
      clear h0
      go_wp2
      rw [Exit.noGoto_ret]
      go_ret
      exact ⟨u3, l, rfl, HF.out⟩
    · have hz := HSg.out
      rw [decide_eq_false h0] at hz
      have H00 := Aside.intro h0
      clear h0
      obtain ⟨hnf, hor⟩ := nr_any U ET (Nat.le_trans ET5 (by decide)) HU.out.1 H00.out
      rw [← HQ2.out.2.2.2] at hor
      have HNF := Aside.intro hnf
      clear hnf
      obtain ⟨y, hy⟩ : ∃ y, y = nrW U := ⟨_, rfl⟩
      rw [← hy] at hor HNF
      have HY := Aside.intro hy
      clear hy
      rcases hor with ⟨rfl, hfin, _⟩ | ⟨hx1, rfl, _, _⟩
      · have HI := hid (fun u => isInf_w8 y HNF.out.1 u)
        have hb0 : (magW y == 9218868437227405312) = false := by unfold finW at hfin; simp; omega
        rw [hb0] at HI
        clear hfin hb0
        go_wp2_with fail
        with_reducible refine (HI.out _).mono ?_
        rintro r w4 ⟨rfl, rfl⟩
        obtain ⟨W4, hW4⟩ : ∃ W, W = w4.alloc (.cells #[.float .f64 y] 28) := ⟨_, rfl⟩
        have hfr : Fr w.heap.size W4 u3 l := by subst hW4; exact (HP.out.row.below HS3.out.2.2).below (below_alloc _ _)
        have hbw : Below w4.heap.size w4 W4 := by subst hW4; exact below_alloc _ _
        have hcx : W4.cell? ⟨w4.heap.size, 0, none⟩ = some (.float .f64 y) := by subst hW4; unfold World.cell?; simp only [heap_alloc_new]; rfl
        have hsz : w.heap.size ≤ W4.heap.size := Nat.le_trans (Nat.le_trans HP.out.bel.size HS3.out.2.2.size) hbw.size
        obtain ⟨v5, w5, hap, hf5, hg5⟩ := append_f8 W4 w.heap.size u3 l y w4.heap.size hfr hcx (by have := HP.out.len; have := HV.out.2.2.1; have := HV.out.2.2.2; omega) hsz
        have HAP := hid hap
        have H5 : Aside (Fr w.heap.size w5 v5 (l ++ [y]) ∧ Dk w5 gl un (.slice a0 (ws ux).length c0) ue ∧ Nt w.heap.size w5 (.slice a0 (ws ux).length c0) ux ∧ Below w.heap.size w w5) := by
          have hD := (HS3.out.1.below hbw)
          have hNN := (HS3.out.2.1.below hbw)
          have hBB : Below w.heap.size w W4 := (HP.out.bel.trans (HS3.out.2.2.mono HP.out.bel.size)).trans (hbw.mono (Nat.le_trans HP.out.bel.size HS3.out.2.2.size))
          exact ⟨hf5, hD.fr8 hfr hg5, hNN.fr8 hfr hg5, hBB.grown hg5 hsz (fun k hk => (hfr.lt hk).1)⟩
        clear hap hf5 hg5 hfr hbw hcx hsz
        go_wp2_with (at_builtin; rw [← hW4]; refine wpList_append8 rfl (.tmp 25) (.tmp 27) 22 rfl _ _ rfl rfl _ _ HAP.out ?_)
        have HO := hid (of_any8 y HNF.out w5 (HV.out.2.1.belows H5.out.2.2.2))
        obtain ⟨dn, hdn⟩ : ∃ b, b = dN (fo8 (fvW y)) := ⟨_, rfl⟩
        obtain ⟨de, hde⟩ : ∃ b, b = dE (fo8 (fvW y)) := ⟨_, rfl⟩
        obtain ⟨dx, hdx⟩ : ∃ b, b = dX (fo8 (fvW y)) := ⟨_, rfl⟩
        have HTF : Aside ((fvW y).natAbs < 2 ^ ET) := by
          obtain ⟨z, hz⟩ : ∃ z, z = 2098 := ⟨_, rfl⟩
          exact Nat.lt_of_lt_of_le (top_fv HNF.out.1 HNF.out.2 z hz) (Nat.pow_le_pow_right (by decide) (by unfold ET; omega))
        have HDL := Aside.intro (fo8_len (fvW y) ET (Nat.le_trans ET5 (by decide)) HTF.out).1
        rw [← hdx] at HDL
        rw [← hdn, ← hde, ← hdx] at HO
        have HQ3 := Aside.intro (And.intro hdn (And.intro hde hdx))
        clear hdn hde hdx hW4 HAP
        go_wp2_with fail
        with_reducible refine HO.out.mono ?_
        rintro r w6 ⟨⟨v6, rfl, hN6⟩, hb6⟩
        obtain ⟨a6, c6, rfl, _⟩ := hN6.arg (Nat.le_trans HDL.out (by decide))
        obtain ⟨W7, hW7⟩ : ∃ W, W = w6.alloc (.cells #[.bool dn, .slice a6 (ws dx).length c6, .int .i64 de] 37) := ⟨_, rfl⟩
        have H7 : Aside (Fr w.heap.size W7 v5 (l ++ [y]) ∧ Dk W7 gl un (.slice a0 (ws ux).length c0) ue ∧ Nt w.heap.size W7 (.slice a0 (ws ux).length c0) ux ∧ Below w.heap.size w W7 ∧ Dk W7 w6.heap.size dn (.slice a6 (ws dx).length c6) de ∧ Nt w.heap.size W7 (.slice a6 (ws dx).length c6) dx) := by
          have hbx : Below w5.heap.size w5 W7 := by subst hW7; exact hb6.trans ((below_alloc _ _).mono hb6.size)
          refine ⟨H5.out.1.below hbx, H5.out.2.1.below hbx, H5.out.2.2.1.below hbx, H5.out.2.2.2.trans (hbx.mono H5.out.2.2.2.size), ?_, ?_⟩
          · subst hW7; exact Dk.new _ _ _ _
          · have := hN6.mono H5.out.2.2.2.size
            subst hW7; exact this.below (below_alloc _ _)
        clear hN6 hb6 HO H5
        go_upto_region 9 with fail
        rw [← hW7]
        clear hW7
        obtain ⟨x0, x1, x2, xf0, xf1, xf2⟩ := H7.out.2.1.facts
        obtain ⟨z0, z1, z2, zf0, zf1, zf2⟩ := H7.out.2.2.2.2.1.facts
        have HSb : Hid (Calls Tryd.prog 53 #[.agg #[.bool un, .slice a0 (ws ux).length c0, .int .i64 ue], .agg #[.bool dn, .slice a6 (ws dx).length c6, .int .i64 de]] W7 fun r w' =>
            (∃ v, r = .returned (.tuple #[.agg #[.bool (dN (fo8 (U - fvW y))), v, .int .i64 (dE (fo8 (U - fvW y)))], .int .i64 0]) ∧ Nt W7.heap.size w' v (dX (fo8 (U - fvW y)))) ∧ Below W7.heap.size W7 w') := by
          have h1 := (H7.out.2.2.1.arg' (Nat.le_trans HUL.out (by decide))).2
          have h2 := (H7.out.2.2.2.2.2.arg' (Nat.le_trans HDL.out (by decide))).2
          have hT7 := HV.out.2.1.belows H7.out.2.2.2.1
          rw [HQ2.out.1, HQ2.out.2.1, HQ2.out.2.2.1, HQ3.out.1, HQ3.out.2.1, HQ3.out.2.2] at *
          exact sub_any8 U (fvW y) ET ET5 HU.out.1 HTF.out W7 a0 a6 c0 c6 hT7 h1 h2
        obtain ⟨tn, htn⟩ : ∃ b, b = dN (fo8 (U - fvW y)) := ⟨_, rfl⟩
        obtain ⟨te, hte⟩ : ∃ b, b = dE (fo8 (U - fvW y)) := ⟨_, rfl⟩
        obtain ⟨tx, htx⟩ : ∃ b, b = dX (fo8 (U - fvW y)) := ⟨_, rfl⟩
        have HTX : Aside ((ws tx).length ≤ 8192) := by
          rw [htx]
          have q1 := HU.out.1
          have q2 := HTF.out
          exact (fo8_len (U - fvW y) (ET + 1) (by decide) (by rw [Nat.pow_succ]; omega)).1
        rw [← htn, ← hte, ← htx] at HSb
        have HQ4 := Aside.intro (And.intro htn (And.intro hte htx))
        clear htn hte htx
        go_wp2_with fail
        with_reducible refine HSb.out.mono ?_
        rintro r w8 ⟨⟨v8, rfl, hN8⟩, hb8⟩
        obtain ⟨a8, c8, rfl, _⟩ := hN8.arg (Nat.le_trans HTX.out (by decide))
        have hD8 := H7.out.2.1.below hb8
        obtain ⟨p0, p1, p2, pf0, pf1, pf2⟩ := hD8.facts
        have hbt := st3_but8 gl w8 (.bool tn) (.slice a8 (ws tx).length c8) (.int .i64 te)
        have hB8 := H7.out.2.2.2.1.trans (hb8.mono H7.out.2.2.2.1.size)
        have HX : Aside (0 < gk ∧ Pi8 w gl V N (gk - 1) (U - fvW y) (l ++ [y]) v5 (st3 w8 gl (.bool tn) (.slice a8 (ws tx).length c8) (.int .i64 te))) := by
          have q := HP.out.next (pv' := v5) (w' := st3 w8 gl (.bool tn) (.slice a8 (ws tx).length c8) (.int .i64 te)) H00.out
          rw [← HY.out] at q
          refine q ⟨.slice a8 (ws tx).length c8, ?_, ?_⟩ ((H7.out.1.below hb8).but8 hD8 hbt) (But.below hB8 hbt hB8.size hs1.out)
          · rw [← HQ4.out.1, ← HQ4.out.2.1]; exact hD8.set _ _ _
          · rw [← HQ4.out.2.2]; exact (hN8.mono H7.out.2.2.2.1.size).dk9 hD8 hbt
        unfold st3 at HX
        clear hN8 hb8 hD8 hbt hB8 HSb H7 HQ4 x0 x1 x2 xf0 xf1 xf2 z0 z1 z2 zf0 zf1 zf2
        go_wp2
        go_roundg (gk - 1)
        case measure => have := HX.out.1; omega
        case rel => exact ⟨_, _, HX.out.2⟩
      · rw [hx1] at *
        have hwd : Wd (wd64 (decide (U < 0)) 9218868437227405312) ∧ (magW (wd64 (decide (U < 0)) 9218868437227405312) == 9218868437227405312) = true := by cases (decide (U < 0)) <;> exact ⟨by unfold Wd wd64; decide, by decide⟩
        have HI := hid (fun u => isInf_w8 (wd64 (decide (U < 0)) 9218868437227405312) hwd.1 u)
        rw [hwd.2] at HI
        have HC := hid (fun u => copy_any8 (decide (U < 0)) u)
        obtain ⟨y, hy⟩ : ∃ y, y = wd64 (decide (U < 0)) 9218868437227405311 := ⟨_, rfl⟩
        obtain ⟨yi, hyi⟩ : ∃ y, y = wd64 (decide (U < 0)) 9218868437227405312 := ⟨_, rfl⟩
        rw [← hy] at HC HNF HY
        rw [← hyi] at HI HC ⊢
        clear hwd hx1 hy hyi
        go_wp2_with fail
        with_reducible refine (HI.out _).mono ?_
        rintro r w4 ⟨rfl, rfl⟩
        go_wp2_with fail
        with_reducible refine (HC.out _).mono ?_
        rintro r w4 ⟨rfl, rfl⟩
        obtain ⟨W4, hW4⟩ : ∃ W, W = w4.alloc (.cells #[.float .f64 y] 28) := ⟨_, rfl⟩
        have hfr : Fr w.heap.size W4 u3 l := by subst hW4; exact (HP.out.row.below HS3.out.2.2).below (below_alloc _ _)
        have hbw : Below w4.heap.size w4 W4 := by subst hW4; exact below_alloc _ _
        have hcx : W4.cell? ⟨w4.heap.size, 0, none⟩ = some (.float .f64 y) := by subst hW4; unfold World.cell?; simp only [heap_alloc_new]; rfl
        have hsz : w.heap.size ≤ W4.heap.size := Nat.le_trans (Nat.le_trans HP.out.bel.size HS3.out.2.2.size) hbw.size
        obtain ⟨v5, w5, hap, hf5, hg5⟩ := append_f8 W4 w.heap.size u3 l y w4.heap.size hfr hcx (by have := HP.out.len; have := HV.out.2.2.1; have := HV.out.2.2.2; omega) hsz
        have HAP := hid hap
        have H5 : Aside (Fr w.heap.size w5 v5 (l ++ [y]) ∧ Dk w5 gl un (.slice a0 (ws ux).length c0) ue ∧ Nt w.heap.size w5 (.slice a0 (ws ux).length c0) ux ∧ Below w.heap.size w w5) := by
          have hD := (HS3.out.1.below hbw)
          have hNN := (HS3.out.2.1.below hbw)
          have hBB : Below w.heap.size w W4 := (HP.out.bel.trans (HS3.out.2.2.mono HP.out.bel.size)).trans (hbw.mono (Nat.le_trans HP.out.bel.size HS3.out.2.2.size))
          exact ⟨hf5, hD.fr8 hfr hg5, hNN.fr8 hfr hg5, hBB.grown hg5 hsz (fun k hk => (hfr.lt hk).1)⟩
        clear hap hf5 hg5 hfr hbw hcx hsz
        go_wp2_with (at_builtin; rw [← hW4]; refine wpList_append8 rfl (.tmp 25) (.tmp 27) 22 rfl _ _ rfl rfl _ _ HAP.out ?_)
        have HO := hid (of_any8 y HNF.out w5 (HV.out.2.1.belows H5.out.2.2.2))
        obtain ⟨dn, hdn⟩ : ∃ b, b = dN (fo8 (fvW y)) := ⟨_, rfl⟩
        obtain ⟨de, hde⟩ : ∃ b, b = dE (fo8 (fvW y)) := ⟨_, rfl⟩
        obtain ⟨dx, hdx⟩ : ∃ b, b = dX (fo8 (fvW y)) := ⟨_, rfl⟩
        have HTF : Aside ((fvW y).natAbs < 2 ^ ET) := by
          obtain ⟨z, hz⟩ : ∃ z, z = 2098 := ⟨_, rfl⟩
          exact Nat.lt_of_lt_of_le (top_fv HNF.out.1 HNF.out.2 z hz) (Nat.pow_le_pow_right (by decide) (by unfold ET; omega))
        have HDL := Aside.intro (fo8_len (fvW y) ET (Nat.le_trans ET5 (by decide)) HTF.out).1
        rw [← hdx] at HDL
        rw [← hdn, ← hde, ← hdx] at HO
        have HQ3 := Aside.intro (And.intro hdn (And.intro hde hdx))
        clear hdn hde hdx hW4 HAP
        go_wp2_with fail
        with_reducible refine HO.out.mono ?_
        rintro r w6 ⟨⟨v6, rfl, hN6⟩, hb6⟩
        obtain ⟨a6, c6, rfl, _⟩ := hN6.arg (Nat.le_trans HDL.out (by decide))
        obtain ⟨W7, hW7⟩ : ∃ W, W = w6.alloc (.cells #[.bool dn, .slice a6 (ws dx).length c6, .int .i64 de] 37) := ⟨_, rfl⟩
        have H7 : Aside (Fr w.heap.size W7 v5 (l ++ [y]) ∧ Dk W7 gl un (.slice a0 (ws ux).length c0) ue ∧ Nt w.heap.size W7 (.slice a0 (ws ux).length c0) ux ∧ Below w.heap.size w W7 ∧ Dk W7 w6.heap.size dn (.slice a6 (ws dx).length c6) de ∧ Nt w.heap.size W7 (.slice a6 (ws dx).length c6) dx) := by
          have hbx : Below w5.heap.size w5 W7 := by subst hW7; exact hb6.trans ((below_alloc _ _).mono hb6.size)
          refine ⟨H5.out.1.below hbx, H5.out.2.1.below hbx, H5.out.2.2.1.below hbx, H5.out.2.2.2.trans (hbx.mono H5.out.2.2.2.size), ?_, ?_⟩
          · subst hW7; exact Dk.new _ _ _ _
          · have := hN6.mono H5.out.2.2.2.size
            subst hW7; exact this.below (below_alloc _ _)
        clear hN6 hb6 HO H5
        go_upto_region 9 with fail
        rw [← hW7]
        clear hW7
        obtain ⟨x0, x1, x2, xf0, xf1, xf2⟩ := H7.out.2.1.facts
        obtain ⟨z0, z1, z2, zf0, zf1, zf2⟩ := H7.out.2.2.2.2.1.facts
        have HSb : Hid (Calls Tryd.prog 53 #[.agg #[.bool un, .slice a0 (ws ux).length c0, .int .i64 ue], .agg #[.bool dn, .slice a6 (ws dx).length c6, .int .i64 de]] W7 fun r w' =>
            (∃ v, r = .returned (.tuple #[.agg #[.bool (dN (fo8 (U - fvW y))), v, .int .i64 (dE (fo8 (U - fvW y)))], .int .i64 0]) ∧ Nt W7.heap.size w' v (dX (fo8 (U - fvW y)))) ∧ Below W7.heap.size W7 w') := by
          have h1 := (H7.out.2.2.1.arg' (Nat.le_trans HUL.out (by decide))).2
          have h2 := (H7.out.2.2.2.2.2.arg' (Nat.le_trans HDL.out (by decide))).2
          have hT7 := HV.out.2.1.belows H7.out.2.2.2.1
          rw [HQ2.out.1, HQ2.out.2.1, HQ2.out.2.2.1, HQ3.out.1, HQ3.out.2.1, HQ3.out.2.2] at *
          exact sub_any8 U (fvW y) ET ET5 HU.out.1 HTF.out W7 a0 a6 c0 c6 hT7 h1 h2
        obtain ⟨tn, htn⟩ : ∃ b, b = dN (fo8 (U - fvW y)) := ⟨_, rfl⟩
        obtain ⟨te, hte⟩ : ∃ b, b = dE (fo8 (U - fvW y)) := ⟨_, rfl⟩
        obtain ⟨tx, htx⟩ : ∃ b, b = dX (fo8 (U - fvW y)) := ⟨_, rfl⟩
        have HTX : Aside ((ws tx).length ≤ 8192) := by
          rw [htx]
          have q1 := HU.out.1
          have q2 := HTF.out
          exact (fo8_len (U - fvW y) (ET + 1) (by decide) (by rw [Nat.pow_succ]; omega)).1
        rw [← htn, ← hte, ← htx] at HSb
        have HQ4 := Aside.intro (And.intro htn (And.intro hte htx))
        clear htn hte htx
        go_wp2_with fail
        with_reducible refine HSb.out.mono ?_
        rintro r w8 ⟨⟨v8, rfl, hN8⟩, hb8⟩
        obtain ⟨a8, c8, rfl, _⟩ := hN8.arg (Nat.le_trans HTX.out (by decide))
        have hD8 := H7.out.2.1.below hb8
        obtain ⟨p0, p1, p2, pf0, pf1, pf2⟩ := hD8.facts
        have hbt := st3_but8 gl w8 (.bool tn) (.slice a8 (ws tx).length c8) (.int .i64 te)
        have hB8 := H7.out.2.2.2.1.trans (hb8.mono H7.out.2.2.2.1.size)
        have HX : Aside (0 < gk ∧ Pi8 w gl V N (gk - 1) (U - fvW y) (l ++ [y]) v5 (st3 w8 gl (.bool tn) (.slice a8 (ws tx).length c8) (.int .i64 te))) := by
          have q := HP.out.next (pv' := v5) (w' := st3 w8 gl (.bool tn) (.slice a8 (ws tx).length c8) (.int .i64 te)) H00.out
          rw [← HY.out] at q
          refine q ⟨.slice a8 (ws tx).length c8, ?_, ?_⟩ ((H7.out.1.below hb8).but8 hD8 hbt) (But.below hB8 hbt hB8.size hs1.out)
          · rw [← HQ4.out.1, ← HQ4.out.2.1]; exact hD8.set _ _ _
          · rw [← HQ4.out.2.2]; exact (hN8.mono H7.out.2.2.2.1.size).dk9 hD8 hbt
        unfold st3 at HX
        clear hN8 hb8 hD8 hbt hB8 HSb H7 HQ4 x0 x1 x2 xf0 xf1 xf2 z0 z1 z2 zf0 zf1 zf2
        go_wp2
        go_roundg (gk - 1)
        case measure => have := HX.out.1; omega
        case rel => exact ⟨_, _, HX.out.2⟩
end Go.Proofs.YtnnlicahgdcbdaaDoor

/- Exact, Round. -/
namespace Go.Proofs.YtnnlicahgdcbdaaDoor
open Go.RowKit
set_option linter.unusedVariables false
set_option maxRecDepth 20000
set_option linter.unusedSimpArgs false

theorem Dk.but8 {w w' : World} {g k : Nat} {n : Bool} {v : Value} {e : Int} (h : Dk w k n v e) (hb : But g w w') (hk : k ≠ g) : Dk w' k n v e := by unfold Dk at h ⊢; rw [hb.block k (Array.getElem?_eq_some_iff.1 h).1 hk]; exact h

/-- Words are no Dyads: a row of words stays where a Dyad's block is written. -/
theorem Nt.dk8 {lo : Nat} {w w' : World} {v : Value} {X : Nat} (h : Nt lo w v X) {g : Nat} {n : Bool} {u : Value} {e : Int} (hD : Dk w g n u e) (hb : But g w w') : Nt lo w' v X := by
  refine ⟨h.1, ?_⟩
  rcases h.2 with hn | ⟨g', cap, cur, rfl, hlo, hgc, rest⟩
  · exact .inl hn
  · refine .inr ⟨g', cap, cur, rfl, hlo, (hb.block g' (Array.getElem?_eq_some_iff.1 hgc).1 ?_).trans hgc, rest⟩
    rintro rfl
    unfold Dk at hD
    rw [hD] at hgc
    cases hgc
theorem name_world8 {K : Act → World → Prop} {Q : Exit → Act → World → Prop} {e : Exit} {a : Act} {W : World} (P : World → Prop) (hP : P W) (h : ∀ U, P U → Exit.then K Q e a U) : Exit.then K Q e a W := h W hP
def Ex9 (w W1 : World) (n3 : Bool) (v3 : Value) (e3 : Int) (X3 k : Nat) (U : World) : Prop := Dk U k n3 v3 e3 ∧ Dk U w.heap.size false (.slice none 0 0) 0 ∧ Nt W1.heap.size U v3 X3 ∧ Below w.heap.size w U ∧ w.heap.size ≠ k
theorem Ex9.a {w W1 u : World} {n3 : Bool} {v3 : Value} {e3 : Int} {X3 : Nat} (Z : Dk u w.heap.size false (.slice none 0 0) 0) (NC : Nt W1.heap.size u v3 X3) (hB : Below w.heap.size w u) (hk : w.heap.size ≠ u.heap.size) :
    Ex9 w W1 n3 v3 e3 X3 u.heap.size (u.alloc (.cells #[.bool n3, v3, .int .i64 e3] 37)) :=
  ⟨Dk.new u _ _ _, Z.below (below_alloc _ _), NC.below (below_alloc _ _), hB.trans ((below_alloc _ _).mono hB.size), hk⟩
theorem Ex9.b {w W1 u : World} {n3 : Bool} {v3 : Value} {e3 : Int} {X3 k : Nat} (D : Dk u k false (.slice none 0 0) 0) (Z : Dk u w.heap.size false (.slice none 0 0) 0) (NC : Nt W1.heap.size u v3 X3) (hB : Below w.heap.size w u) (hk : w.heap.size < k) :
    Ex9 w W1 n3 v3 e3 X3 k (((u.setCell ⟨k, 0, none⟩ (.bool n3)).setCell ⟨k, 1, none⟩ v3).setCell ⟨k, 2, none⟩ (.int .i64 e3)) :=
  ⟨D.set _ _ _, Z.but8 (st3_but8 k u (.bool n3) v3 (.int .i64 e3)) (by omega), NC.dk8 D (st3_but8 k u (.bool n3) v3 (.int .i64 e3)), But.below hB (st3_but8 k u (.bool n3) v3 (.int .i64 e3)) hB.size (by omega), by omega⟩
theorem alloc2 {u : World} {a b : Addr} {va vb : Value} {o : Obj} (h : u.cell? a = some va ∧ u.cell? b = some vb) : (u.alloc o).cell? a = some va ∧ (u.alloc o).cell? b = some vb := ⟨Lib.cell?_alloc_some _ h.1, Lib.cell?_alloc_some _ h.2⟩
theorem alloc2d {u : World} {a b : Addr} {va vb : Value} {o : Obj} (h : u.cell? a = some va ∧ u.cell? b = some vb) : (u.alloc o).drew.cell? a = some va ∧ (u.alloc o).drew.cell? b = some vb := alloc2 h
theorem set2 {u : World} {g i j : Nat} {va vb : Value} {k l : Nat} {x : Value} (hk : g ≠ k) (h : u.cell? ⟨g, i, none⟩ = some va ∧ u.cell? ⟨g, j, none⟩ = some vb) : (u.setCell ⟨k, l, none⟩ x).cell? ⟨g, i, none⟩ = some va ∧ (u.setCell ⟨k, l, none⟩ x).cell? ⟨g, j, none⟩ = some vb := by
  have e : (u.setCell ⟨k, l, none⟩ x).heap[g]? = u.heap[g]? := Below.heap_setCell _ _ _ _ hk
  exact ⟨(World.cell?_of_block (a := ⟨g, i, none⟩) e).trans h.1, (World.cell?_of_block (a := ⟨g, j, none⟩) e).trans h.2⟩
set_option maxHeartbeats 4000000 in
theorem exact_core8 {w : World} {g n : Nat} {va vb : Value} (n1 n2 n3 : Bool) (X1 X2 X3 : Nat) (e1 e2 e3 : Int) (l1 : (ws X1).length ≤ 8192) (l2 : (ws X2).length ≤ 8192) (l3 : (ws X3).length ≤ 8192)
    (hk : Sk w g n va vb)
    (EA : Hid (∀ u, Below w.heap.size w u → Calls Tryd.prog 79 #[va, .int .i64 0] u fun r w' => (∃ v, r = .returned (.agg #[.bool n1, v, .int .i64 e1]) ∧ Nt u.heap.size w' v X1) ∧ Below u.heap.size u w'))
    (EB : Hid (∀ u, Below w.heap.size w u → Calls Tryd.prog 79 #[vb, .int .i64 64] u fun r w' => (∃ v, r = .returned (.agg #[.bool n2, v, .int .i64 e2]) ∧ Nt u.heap.size w' v X2) ∧ Below u.heap.size u w'))
    (HA : Hid (∀ u a c b d, Below w.heap.size w u → Nt w.heap.size u (.slice a (ws X1).length c) X1 → Nt w.heap.size u (.slice b (ws X2).length d) X2 → Calls Tryd.prog 78 #[.agg #[.bool n1, .slice a (ws X1).length c, .int .i64 e1], .agg #[.bool n2, .slice b (ws X2).length d, .int .i64 e2]] u fun r w' => (∃ v, r = .returned (.tuple #[.agg #[.bool n3, v, .int .i64 e3], .int .i64 0]) ∧ Nt u.heap.size w' v X3) ∧ Below u.heap.size u w')) :
    Calls Tryd.prog 49 #[.pointer (some ⟨g, 0, none⟩)] w fun r w' => (∃ v, r = .returned (.agg #[.bool n3, v, .int .i64 e3]) ∧ Nt w.heap.size w' v X3) ∧ Below w.heap.size w w' := by
  have hlt := hk.lt
  obtain ⟨W1, hW1⟩ : ∃ W, W = w.alloc (.cells #[.bool false, .slice none 0 0, .int .i64 0] 37) := ⟨_, rfl⟩
  have H1 : Aside (Below w.heap.size w W1 ∧ Dk W1 w.heap.size false (.slice none 0 0) 0 ∧ W1.heap.size = w.heap.size + 1) := by
    subst hW1; exact ⟨below_alloc _ _, Dk.new _ _ _ _, by simp⟩
  have HK : Aside (∀ W, Below w.heap.size w W → W.cell? ⟨g, 1, none⟩ = some va ∧ W.cell? ⟨g, 2, none⟩ = some vb) := fun W hW => by
    obtain ⟨_, x1, x2, _⟩ := (hk.of_block (hW.block g hlt)).facts
    exact ⟨x1, x2⟩
  obtain ⟨x1, x2⟩ := HK.out W1 H1.out.1
  have hlt1 : g < W1.heap.size := by have := H1.out.2.2; omega
  have HW1 : Aside (w.heap.size < W1.heap.size) := by have := H1.out.2.2; exact Aside.intro (by omega)
  have kS : Aside (W1.drew.cell? ⟨g, 1, none⟩ = some va ∧ W1.drew.cell? ⟨g, 2, none⟩ = some vb) := ⟨x1, x2⟩
  have BB : Aside (Below W1.heap.size W1 W1.drew) := (Below.refl _ _).drew
  have HB : Aside (∀ W, Below W1.heap.size W1 W → Below w.heap.size w W) := fun W h => H1.out.1.trans (h.mono H1.out.1.size)
  clear hk
  go_enter Tryd.func49, Tryd.ntmps49
  go_wp2
  rw [← hW1]
  clear hW1
  go_region_held3 (fun w' => w'.cell? ⟨g, 1, none⟩ = some va ∧ w'.cell? ⟨g, 2, none⟩ = some vb) (first | with_reducible exact kS.out | with_reducible exact alloc2 kS.out | with_reducible exact alloc2d ⟨x1, x2⟩ | (with_reducible refine set2 (by first | exact hdz _ DZ.out.2 | exact hdz _ BB.out.size) (set2 (by first | exact hdz _ DZ.out.2 | exact hdz _ BB.out.size) (set2 (by first | exact hdz _ DZ.out.2 | exact hdz _ BB.out.size) ?_)); first | with_reducible exact kS.out | with_reducible exact alloc2 kS.out)) (first
    | (go_at_call 79
       first
       | (with_reducible refine (EA.out _ (by first | exact HB.out _ BB.out | exact HB.out _ (BB.out.trans ((below_alloc _ _).mono BB.out.size)) | exact HB.out _ (below_alloc W1 _).drew)).mono ?_
          rintro r u ⟨⟨v1, rfl, hN⟩, hb⟩
          obtain ⟨a1, c1, rfl, _⟩ := hN.arg (Nat.le_trans l1 (by decide))
          have hu : Below W1.heap.size W1 u := by
            first
            | exact BB.out.trans (hb.mono BB.out.size)
            | exact (BB.out.trans ((below_alloc _ _).mono BB.out.size)).trans (hb.mono (by have := BB.out.size; simp; omega))
            | exact ((below_alloc W1 _).drew).trans (hb.mono (by simp))
          first
            | have NB := Aside.intro (NB.out.below hb)
            | have NB := Aside.intro ((NB.out.below (below_alloc _ _)).below hb)
            | skip
          first
            | have DZ := Aside.intro (And.intro (DZ.out.1.below hb) DZ.out.2)
            | have DZ := Aside.intro (And.intro ((Dk.new _ false (.slice none 0 0) 0).below hb) BB.out.size)
            | have DZ := Aside.intro (And.intro (Dk.below (w := (W1.alloc (.cells #[.bool false, .slice none 0 0, .int .i64 0] 37)).drew) (Dk.new W1 false (.slice none 0 0) 0) hb) (Nat.le_refl W1.heap.size))
            | skip
          have NA := Aside.intro (hN.mono (show w.heap.size ≤ _ by first | exact Nat.le_trans H1.out.1.size BB.out.size | (have := BB.out.size; have := H1.out.2.2; simp; omega) | (have := H1.out.2.2; simp; omega)))
          have kS := Aside.intro (HK.out u (HB.out u hu))
          obtain ⟨x1, x2⟩ := HK.out u (HB.out u hu)
          have hgu : g < u.heap.size := by have := hu.size; omega
          have BB := Aside.intro hu
          clear hN hb hu)
       | (with_reducible refine (EB.out _ (by first | exact HB.out _ BB.out | exact HB.out _ (BB.out.trans ((below_alloc _ _).mono BB.out.size)) | exact HB.out _ (below_alloc W1 _).drew)).mono ?_
          rintro r u ⟨⟨v2, rfl, hN⟩, hb⟩
          obtain ⟨a2, c2, rfl, _⟩ := hN.arg (Nat.le_trans l2 (by decide))
          have hu : Below W1.heap.size W1 u := by
            first
            | exact BB.out.trans (hb.mono BB.out.size)
            | exact (BB.out.trans ((below_alloc _ _).mono BB.out.size)).trans (hb.mono (by have := BB.out.size; simp; omega))
            | exact ((below_alloc W1 _).drew).trans (hb.mono (by simp))
          first
            | have NA := Aside.intro (NA.out.below hb)
            | have NA := Aside.intro ((NA.out.below (below_alloc _ _)).below hb)
            | skip
          first
            | have DZ := Aside.intro (And.intro (DZ.out.1.below hb) DZ.out.2)
            | have DZ := Aside.intro (And.intro ((Dk.new _ false (.slice none 0 0) 0).below hb) BB.out.size)
            | have DZ := Aside.intro (And.intro (Dk.below (w := (W1.alloc (.cells #[.bool false, .slice none 0 0, .int .i64 0] 37)).drew) (Dk.new W1 false (.slice none 0 0) 0) hb) (Nat.le_refl W1.heap.size))
            | skip
          have NB := Aside.intro (hN.mono (show w.heap.size ≤ _ by first | exact Nat.le_trans H1.out.1.size BB.out.size | (have := BB.out.size; have := H1.out.2.2; simp; omega) | (have := H1.out.2.2; simp; omega)))
          have kS := Aside.intro (HK.out u (HB.out u hu))
          obtain ⟨x1, x2⟩ := HK.out u (HB.out u hu)
          have hgu : g < u.heap.size := by have := hu.size; omega
          have BB := Aside.intro hu
          clear hN hb hu))
    | (go_at_call 78
       with_reducible refine (HA.out _ a1 c1 a2 c2 (by first | exact HB.out _ BB.out | exact HB.out _ (BB.out.trans ((below_alloc _ _).mono BB.out.size)) | exact HB.out _ (below_alloc W1 _).drew) (by first | exact NA.out | exact NA.out.below (below_alloc _ _)) (by first | exact NB.out | exact NB.out.below (below_alloc _ _))).mono ?_
       rintro r u ⟨⟨v3, rfl, hN⟩, hb⟩
       obtain ⟨a3, c3, rfl, _⟩ := hN.arg (Nat.le_trans l3 (by decide))
       have hu : Below W1.heap.size W1 u := by
         first
         | exact BB.out.trans (hb.mono BB.out.size)
         | exact (BB.out.trans ((below_alloc _ _).mono BB.out.size)).trans (hb.mono (by have := BB.out.size; simp; omega))
         | exact ((below_alloc W1 _).drew).trans (hb.mono (by simp))
       first
         | have DZ := Aside.intro (And.intro (DZ.out.1.below hb) DZ.out.2)
         | have DZ := Aside.intro (And.intro ((Dk.new _ false (.slice none 0 0) 0).below hb) BB.out.size)
         | have DZ := Aside.intro (And.intro (Dk.below (w := (W1.alloc (.cells #[.bool false, .slice none 0 0, .int .i64 0] 37)).drew) (Dk.new W1 false (.slice none 0 0) 0) hb) (Nat.le_refl W1.heap.size))
         | skip
       have NC := Aside.intro (hN.mono (show W1.heap.size ≤ _ by first | exact BB.out.size | (have := BB.out.size; simp; omega) | (simp; omega)))
       have kS := Aside.intro (HK.out u (HB.out u hu))
       try obtain ⟨d0, d1, d2, df0, df1, df2⟩ := DZ.out.1.facts
       have hgu : g < u.heap.size := by have := hu.size; omega
       have hdz : ∀ k, W1.heap.size ≤ k → g ≠ k := fun k hk => by omega
       have BB := Aside.intro hu
       clear hN hb hu))
  all_goals (
    have Z := H1.out.2.1.below BB.out
    first
      | with_reducible refine name_world8 (Ex9 w W1 n3 (.slice a3 (ws X3).length c3) e3 X3 _) (Ex9.b DZ.out.1 Z NC.out (HB.out u BB.out) (Nat.lt_of_lt_of_le HW1.out DZ.out.2)) ?_
      | with_reducible refine name_world8 (Ex9 w W1 n3 (.slice a3 (ws X3).length c3) e3 X3 u.heap.size) (Ex9.a Z NC.out (HB.out u BB.out) (Nat.ne_of_lt (Nat.lt_of_lt_of_le HW1.out BB.out.size))) ?_
    intro U HU
    obtain ⟨y0, y1, y2, yf0, yf1, yf2⟩ := HU.1.facts
    obtain ⟨z0, z1, z2, zf0, zf1, zf2⟩ := HU.2.1.facts
    have hnk := HU.2.2.2.2
    have HX := Aside.intro HU
    clear hdz hgu HU HK kS EA EB HA HB NA NB NC BB Z H1
    try clear d0 d1 d2 df0 df1 df2 DZ
    go_wp2
    obtain ⟨R1, R2, R3, R4, R5⟩ := HX.out
    have hbt := st3_but8 w.heap.size U (.bool n3) (.slice a3 (ws X3).length c3) (.int .i64 e3)
    refine close8 Tryd.results49 (g := w.heap.size) (n := n3) (v := .slice a3 (ws X3).length c3) (e := e3) ?_ (R2.set _ _ _) ?_
    · rfl
    exact ⟨⟨_, rfl, (R3.dk8 R2 hbt).mono (Nat.le_of_lt HW1.out)⟩, But.below R4 hbt R4.size (Nat.le_refl _)⟩)

theorem GGm (k : Nat) (hk : k = 2053) {c n : Nat} (h : n * 17179869184 + c ≤ 4503599627370496) : (n * 17179869184 + c) * GG < 2 ^ k := by
  have e : 4503599627370496 * GG = 2 ^ (k - 1) := by
    rw [G_eq, show (4503599627370496 : Nat) = 2 ^ 52 by decide, ← Nat.pow_add]
    congr 1
    rw [hk]; rfl
  have h1 : (n * 17179869184 + c) * GG ≤ 4503599627370496 * GG := Nat.mul_le_mul_right _ h
  have h2 : 2 ^ k = 2 ^ (k - 1) * 2 := by rw [← Nat.pow_succ]; congr 1; omega
  have h3 := Nat.two_pow_pos (k - 1)
  omega
theorem GGh (k : Nat) (hk : k = 2053) {c n : Nat} (h : n * 17179869184 + c ≤ 4503599627370496) : (n * 17179869184 + c) * GG * 2 ≤ 2 ^ k := by
  have e : 4503599627370496 * GG = 2 ^ (k - 1) := by
    rw [G_eq, show (4503599627370496 : Nat) = 2 ^ 52 by decide, ← Nat.pow_add]
    congr 1
    rw [hk]; rfl
  have h1 : (n * 17179869184 + c) * GG ≤ 4503599627370496 * GG := Nat.mul_le_mul_right _ h
  have h2 : 2 ^ k = 2 ^ (k - 1) * 2 := by rw [← Nat.pow_succ]; congr 1; omega
  omega
/-- How great a Spread's sum may be. -/
theorem Sx.top {F : Nat → Prop} {w : World} {g n : Nat} {V : Int} {c : Nat} (h : Sx F w g n V c) (m : Nat) (hm : m = 2117) : V.natAbs < 2 ^ m := by
  obtain ⟨va, vb, A, B, V1, V2, h1, h2, h3, h4, h5, h6, h7, h8, r1, r2, r3, r4, r5⟩ := h
  obtain ⟨k, hk⟩ : ∃ k, k = 2053 := ⟨_, rfl⟩
  have a1 := fv_av A
  have a2 := fv_av B
  have b1 := r1.size
  have b2 := r2.size
  have c1 := GGh k hk r5
  rw [r1.val] at a1
  rw [r2.val] at a2
  have d1 : V1.natAbs * 2 ≤ 2 ^ k := by omega
  have d2 : V2.natAbs * 2 ≤ 2 ^ k := by omega
  have d3 := Nat.two_pow_pos k
  rw [show m = k + 64 by omega, Nat.pow_add, show (2 : Nat) ^ 64 = 18446744073709551616 by decide, r3]
  generalize (2 : Nat) ^ k = z at *
  omega
theorem fo8_fr {V : Int} {m : Nat} (hm : m ≤ 200000) (hV : V.natAbs < 2 ^ m) : (ws (dX (fo8 V))).length ≤ 8192 := (fo8_len V m hm hV).1
/-- Exact. -/
theorem exact8 (F : Nat → Prop) (w : World) (g n : Nat) (V : Int) (c : Nat) (h : Sx F w g n V c) (hT : Tab w) :
    Calls Tryd.prog 49 #[.pointer (some ⟨g, 0, none⟩)] w fun r w' => (∃ v, r = .returned (.agg #[.bool (dN (fo8 V)), v, .int .i64 (dE (fo8 V))]) ∧ Nt w.heap.size w' v (dX (fo8 V))) ∧ Below w.heap.size w w' := by
  have htop := h.top
  obtain ⟨va, vb, A, B, V1, V2, h1, h2, h3, h4, h5, h6, h7, h8, r1, r2, r3, r4, r5⟩ := h
  obtain ⟨k, hk⟩ : ∃ k, k = 2053 := ⟨_, rfl⟩
  obtain ⟨m, hm⟩ : ∃ m, m = 2117 := ⟨_, rfl⟩
  have c1 := GGm k hk r5
  have b1 := r1.size
  have b2 := r2.size
  have l1 : avL A < 2 ^ k := by omega
  have l2 : avL B < 2 ^ k := by omega
  have v1 : V1.natAbs < 2 ^ m := by
    have := fv_av A; rw [r1.val] at this
    exact Nat.lt_of_lt_of_le (Nat.lt_of_le_of_lt this l1) (Nat.pow_le_pow_right (by decide) (by omega))
  have v2 : (V2 * 18446744073709551616).natAbs < 2 ^ m := by
    have := fv_av B; rw [r2.val] at this
    have q : V2.natAbs < 2 ^ k := by omega
    rw [show m = k + 64 by omega, Nat.pow_add, show (2 : Nat) ^ 64 = 18446744073709551616 by decide]
    generalize (2 : Nat) ^ k = z at *
    omega
  have e1 : fvL A * 2 ^ 0 = V1 := by rw [r1.val]; simp
  have e2 : fvL B * 2 ^ 64 = V2 * 18446744073709551616 := by rw [r2.val]; rfl
  refine exact_core8 (dN (fo8 V1)) (dN (fo8 (V2 * 18446744073709551616))) _ (dX (fo8 V1)) (dX (fo8 (V2 * 18446744073709551616))) _ (dE (fo8 V1)) (dE (fo8 (V2 * 18446744073709551616))) _ (fo8_fr (m := m) (by omega) v1) (fo8_fr (m := m) (by omega) v2) (fo8_fr (m := m) (by omega) (htop m hm)) h1 (hid fun u hu => ?_) (hid fun u hu => ?_) (hid fun u a c b d hu n1 n2 => ?_)
  · have := exact_any8 0 va A 0 u (h2.below hu) (hT.belows hu) r1.fin (by have := r1.len; omega) k (by omega) (by omega) l1
    rw [e1] at this
    exact this
  · have := exact_any8 0 vb B 64 u (h3.below hu) (hT.belows hu) r2.fin (by have := r2.len; omega) k (by omega) (by omega) l2
    rw [e2] at this
    exact this
  · have q1 := (n1.arg' (Nat.le_trans (fo8_fr (m := m) (by omega) v1) (by decide))).2
    have q2 := (n2.arg' (Nat.le_trans (fo8_fr (m := m) (by omega) v2) (by decide))).2
    obtain ⟨_, s2, s3, _⟩ := fo8_len (V2 * 18446744073709551616) m (by omega) v2
    have := add_any8 V1 (V2 * 18446744073709551616) m (by omega) v1 v2 _ s2 s3 _ _ (fo8_self _ m (by omega) v2) u a b c d (hT.belows hu) q1 q2
    rw [← r3] at this
    exact this
end Go.Proofs.YtnnlicahgdcbdaaDoor

/- Merge of another one, of itself; Round, Parts. -/
namespace Go.Proofs.YtnnlicahgdcbdaaDoor
open Go.RowKit
set_option linter.unusedVariables false
set_option maxRecDepth 20000
set_option linter.unusedSimpArgs false

theorem parts8 (F : Nat → Prop) (w : World) (g n : Nat) (V : Int) (c : Nat) (h : Sx F w g n V c) (hT : Tab w) :
    Calls Tryd.prog 20 #[.pointer (some ⟨g, 0, none⟩)] w fun r w' => ∃ v l, r = .returned v ∧ IsParts V l ∧ FinL l ∧ l.length ≤ 1100000 ∧ Fr w.heap.size w' v l ∧ Below w.heap.size w w' :=
  parts_core8 w g V (h.top ET rfl) hT (hid (exact8 F w g n V c h hT))
set_option maxHeartbeats 2000000 in
theorem round8 (F : Nat → Prop) (w : World) (g n : Nat) (V : Int) (c : Nat) (h : Sx F w g n V c) (hT : Tab w) (mode : Int) :
    Calls Tryd.prog 21 #[.pointer (some ⟨g, 0, none⟩), .int .i64 mode] w fun r w' => r = .returned (.tuple #[.float .f64 (rndS (fo8 V) mode).1, .int .i64 (rndS (fo8 V) mode).2]) ∧ Below w.heap.size w w' := by
  have HE := hid (exact8 F w g n V c h hT)
  have ht := h.top ET rfl
  have HL := Aside.intro (fo8_len V ET (Nat.le_trans ET5 (by decide)) ht).1
  have HR := hid (fun u a c hu q => round_any8 V ET ET5 ht mode u a c hu q)
  have HT := Aside.intro hT
  obtain ⟨X, hX⟩ : ∃ X, X = (rndS (fo8 V) mode).1 := ⟨_, rfl⟩
  obtain ⟨er, her⟩ : ∃ X, X = (rndS (fo8 V) mode).2 := ⟨_, rfl⟩
  rw [← hX, ← her] at HR ⊢
  clear hX her ht h hT
  generalize dN (fo8 V) = nn at *
  generalize dE (fo8 V) = ee at *
  generalize dX (fo8 V) = xx at *
  go_enter Tryd.func21, Tryd.ntmps21
  go_wp2_with fail
  with_reducible refine HE.out.mono ?_
  rintro r w1 ⟨⟨v1, rfl, hN1⟩, hb1⟩
  obtain ⟨a1, c1, rfl, A1⟩ := hN1.arg (Nat.le_trans HL.out (by decide))
  have HR1 := hid (HR.out w1 a1 c1 (HT.out.belows hb1) A1)
  have B1 := Aside.intro hb1
  clear hb1 hN1 A1 HR HE
  go_wp2_with fail
  with_reducible refine HR1.out.mono ?_
  rintro r w2 ⟨rfl, hb2⟩
  have B2 := Aside.intro (B1.out.trans (hb2.mono B1.out.size))
  clear hb2
  go_wp2
  refine bodyPost_ret (v := .tuple #[.float .f64 X, .int .i64 er]) (by simp [results, Tryd.results21, go_sem]) rfl ?_
  exact ⟨rfl, B2.out⟩

theorem room8 {A B : List Nat} {V U : Int} {n c m d : Nat} (h : Rk A V n c) (k : Rk B U m d) (hb : (n + m) * 17179869184 + c + d + m * (n + m) ≤ 4503599627370496) : avL A + avL B + B.length * (A.length + B.length) * GG ≤ 4503599627370496 * GG := by
  have e0 : B.length * (A.length + B.length) ≤ m * (n + m) := Nat.mul_le_mul k.len (by have := h.len; have := k.len; omega)
  have e1 : B.length * (A.length + B.length) * GG ≤ m * (n + m) * GG := Nat.mul_le_mul_right _ e0
  have e2 : ((n + m) * 17179869184 + c + d + m * (n + m)) * GG ≤ 4503599627370496 * GG := Nat.mul_le_mul_right _ hb
  rw [Nat.add_mul n m 17179869184, dist5] at e2
  have hs1 := h.size
  have hs2 := k.size
  omega

/-- Merge: refused. -/
theorem merge_no8 (F G : Nat → Prop) (w : World) (g gb n m : Nat) (V U : Int) (c d : Nat) (h : Sx F w g n V c) (k : Sx G w gb m U d) (hb : 65536 < n + m) :
    Calls Tryd.prog 28 #[.pointer (some ⟨g, 0, none⟩), .pointer (some ⟨gb, 0, none⟩)] w fun r w' => r = .returned (.int .i64 2) ∧ Below w.heap.size w w' := by
  obtain ⟨va, vb, A, B, V1, V2, h1, h2, h3, h4, h5, h6, h7, h8, r1, r2, r3, r4, r5⟩ := h
  obtain ⟨ua, ub, C, D, U1, U2, k1, k2, k3, k4, k5, k6, k7, k8, s1, s2, s3, s4, s5⟩ := k
  exact merge_long8 w g gb n m va vb ua ub h1 k1 r4 s4 hb

theorem merge_all8 (F : Nat → Prop) (w : World) (g gb n m : Nat) (V U : Int) (c d : Nat) (va vb ua ub : Value) (A B C D : List Nat) (V1 V2 U1 U2 : Int)
    (h1 : Sk w g n va vb) (h2 : Fr 0 w va A) (h3 : Fr 0 w vb B) (h4 : ∀ k, va.ownBlock = some k → vb.ownBlock ≠ some k) (h5 : F g) (h6 : ∀ k, va.ownBlock = some k → F k) (h7 : ∀ k, vb.ownBlock = some k → F k) (h8 : ∀ k, F k → k < w.heap.size)
    (r1 : Rk A V1 n c) (r2 : Rk B V2 n c) (r3 : V = V1 + V2 * 18446744073709551616)
    (k1 : Sk w gb m ua ub) (k2 : Fr 0 w ua C) (k3 : Fr 0 w ub D) (s1 : Rk C U1 m d) (s2 : Rk D U2 m d) (s3 : U = U1 + U2 * 18446744073709551616)
    (ap : ∀ k, (k = g ∨ va.ownBlock = some k) → ub.ownBlock ≠ some k) (ag : va.ownBlock ≠ some gb ∧ vb.ownBlock ≠ some gb)
    (hn : n + m ≤ 65536) (hb : (n + m) * 17179869184 + c + d + m * (n + m) ≤ 4503599627370496) :
    Calls Tryd.prog 28 #[.pointer (some ⟨g, 0, none⟩), .pointer (some ⟨gb, 0, none⟩)] w fun r w' => r = .returned (.int .i64 0) ∧ Sx (Gr F w w') w' g (n + m) (V + U) (c + d + m * (n + m)) ∧ Tch F w w' := by
  have la := r1.len
  have lb := r2.len
  have lc := s1.len
  have ld := s2.len
  have hva : va.ownBlock ≠ some g := h1.not_row h2
  have hvb : vb.ownBlock ≠ some g := h1.not_row h3
  refine (merge_core8 w g gb n m va vb ua ub (mergeL A C) (mergeL B D) h1 k1 hn
    (hid fun u hu => merged_any 0 va ua A C u (h2.below hu) (k2.below hu) (Nat.zero_le _) r1.fin s1.fin (by omega) (room8 r1 s1 hb))
    (hid fun u hu => merged_any 0 vb ub B D u ?_ ?_ (Nat.zero_le _) r2.fin s2.fin (by omega) (room8 r2 s2 hb)) ⟨hva, ag.1⟩ ⟨hvb, ag.2⟩).mono ?_
  · refine ⟨h3.1, ?_⟩
    rcases h3.2 with q | ⟨g', cap, cur, rfl, hlo, hgc, rest⟩
    · exact .inl q
    · refine .inr ⟨g', cap, cur, rfl, hlo, ?_, rest⟩
      rw [hu.block g' (Array.getElem?_eq_some_iff.1 hgc).1 (fun q => by
        rcases q with q | q
        · exact hvb (by rw [← q]; rfl)
        · exact h4 g' q rfl)]
      exact hgc
  · refine ⟨k3.1, ?_⟩
    rcases k3.2 with q | ⟨g', cap, cur, rfl, hlo, hgc, rest⟩
    · exact .inl q
    · refine .inr ⟨g', cap, cur, rfl, hlo, ?_, rest⟩
      rw [hu.block g' (Array.getElem?_eq_some_iff.1 hgc).1 (fun q => ap g' q rfl)]
      exact hgc
  · rintro r w' ⟨rfl, v1, v2, w1, w2, f1, g1, o1, f2, g2, o2, bt, sk⟩
    have hs1 : w.heap.size ≤ w1.heap.size := g1.size
    have hs2 : w1.heap.size ≤ w2.heap.size := by have := g2.size; simpa [World.setCell] using this
    have hs3 : w2.heap.size ≤ w'.heap.size := bt.size
    obtain ⟨t1, t2, t3, t4, t5, t6⟩ := Sx.next (F := F) true h1 h2 h3 h4 h5 h6 h7 f1 g1 o1
    -- the first row, through what came behind it
    have hv1g : v1.ownBlock ≠ some g := t5
    have f1' : Fr 0 (w1.setCell ⟨g, 1, none⟩ v1) v1 (mergeL A C) := f1.set hv1g _ _
    have f1'' : Fr 0 w2 v1 (mergeL A C) := f1'.keep g2 (fun k hk => t3 k hk)
    have tc2 : Tch (Gr F w w1) (w1.setCell ⟨g, 1, none⟩ v1) w2 := Tch.grown g2 (fun k hk => .inl (h7 k hk))
    have blk : ∀ (v : Value) (L : List Nat), Fr 0 w2 v L → v.ownBlock ≠ some g → Fr 0 w' v L := by
      intro v L hv hg
      refine ⟨hv.1, ?_⟩
      rcases hv.2 with q | ⟨g', cap, cur, rfl, hlo, hgc, rest⟩
      · exact .inl q
      · refine .inr ⟨g', cap, cur, rfl, hlo, ?_, rest⟩
        rw [bt.block g' (Array.getElem?_eq_some_iff.1 hgc).1 (fun e => hg (by rw [e]; rfl))]
        exact hgc
    have hsk2 : Sk w2 g n v1 vb := ((t1.set1 v1).of_block (g2.block g (by have := t1.lt; simpa [World.setCell] using this) (fun e => hvb e.symm)))
    have hv2g : v2.ownBlock ≠ some g := hsk2.not_row f2
    have tch : Tch F w w' := by
      refine ⟨?_, ?_, ?_, by omega, fun k hk hn => ?_⟩
      · rw [bt.os, g2.os]; exact g1.os
      · rw [bt.tape, g2.tape]; exact g1.tape
      · rw [bt.output, g2.output]; exact g1.output
      · rw [bt.block k (by omega) (fun e => hn (e ▸ h5)), g2.block k (by simp [World.setCell]; omega) (fun e => hn (h7 k e.symm)), Below.heap_setCell _ _ _ _ (fun e => hn (by rw [show k = g from e]; exact h5)), g1.block k hk (fun e => hn (h6 k e.symm))]
    have gr1 : ∀ k, v1.ownBlock = some k → Gr F w w' k := fun k hk => by
      rcases t4 k hk with q | ⟨q1, q2⟩
      · exact .inl q
      · exact .inr ⟨q1, by omega⟩
    have gr2 : ∀ k, v2.ownBlock = some k → Gr F w w' k := fun k hk => by
      rcases o2 with q | ⟨g', q, q2⟩
      · rw [q] at hk; exact .inl (h7 k hk)
      · have h9 := (f2.lt hk).2
        rw [q] at hk
        injection hk with hk
        exact .inr ⟨by omega, by omega⟩
    have apart : ∀ k, v1.ownBlock = some k → v2.ownBlock ≠ some k := fun k hk e => by
      rcases o2 with q | ⟨g', q, q2⟩
      · rw [q] at e; exact t3 k hk e
      · rw [q] at e
        injection e with e
        have := (f1.lt hk).2
        omega
    refine ⟨rfl, ⟨v1, v2, mergeL A C, mergeL B D, V1 + U1, V2 + U2, sk, blk v1 _ f1'' hv1g, blk v2 _ f2 hv2g, apart, .inl h5, gr1, gr2, fun k q => ?_, r1.merge s1 hb, r2.merge s2 hb, ?_, hn, by rw [← Nat.add_assoc, ← Nat.add_assoc]; exact hb⟩, tch⟩
    · rcases q with q | q
      · exact Nat.lt_of_lt_of_le (h8 k q) tch.size
      · exact q.2
    · rw [r3, s3, Int.add_mul]; omega
/-- Merge of another one. -/
theorem merge8 (F G : Nat → Prop) (w : World) (g gb n m : Nat) (V U : Int) (c d : Nat) (h : Sx F w g n V c) (k : Sx G w gb m U d) (hd : ∀ j, F j → ¬ G j) (hn : n + m ≤ 65536) (hb : (n + m) * 17179869184 + c + d + m * (n + m) ≤ 4503599627370496) :
    Calls Tryd.prog 28 #[.pointer (some ⟨g, 0, none⟩), .pointer (some ⟨gb, 0, none⟩)] w fun r w' => r = .returned (.int .i64 0) ∧ Sx (Gr F w w') w' g (n + m) (V + U) (c + d + m * (n + m)) ∧ Tch F w w' := by
  obtain ⟨va, vb, A, B, V1, V2, h1, h2, h3, h4, h5, h6, h7, h8, r1, r2, r3, r4, r5⟩ := h
  obtain ⟨ua, ub, C, D, U1, U2, k1, k2, k3, k4, k5, k6, k7, k8, s1, s2, s3, s4, s5⟩ := k
  refine merge_all8 F w g gb n m V U c d va vb ua ub A B C D V1 V2 U1 U2 h1 h2 h3 h4 h5 h6 h7 h8 r1 r2 r3 k1 k2 k3 s1 s2 s3 ?_ ⟨?_, ?_⟩ hn hb
  · intro j hj e
    have hG := k7 j e
    rcases hj with q | q
    · subst q; exact hd _ h5 hG
    · exact hd _ (h6 j q) hG
  · intro e; exact hd _ (h6 _ e) k5
  · intro e; exact hd _ (h7 _ e) k5
/-- Merge of itself. -/
theorem merge_self8 (F : Nat → Prop) (w : World) (g n : Nat) (V : Int) (c : Nat) (h : Sx F w g n V c) (hn : n + n ≤ 65536) (hb : (n + n) * 17179869184 + c + c + n * (n + n) ≤ 4503599627370496) :
    Calls Tryd.prog 28 #[.pointer (some ⟨g, 0, none⟩), .pointer (some ⟨g, 0, none⟩)] w fun r w' => r = .returned (.int .i64 0) ∧ Sx (Gr F w w') w' g (n + n) (V + V) (c + c + n * (n + n)) ∧ Tch F w w' := by
  obtain ⟨va, vb, A, B, V1, V2, h1, h2, h3, h4, h5, h6, h7, h8, r1, r2, r3, r4, r5⟩ := h
  refine merge_all8 F w g g n n V V c c va vb va vb A B A B V1 V2 V1 V2 h1 h2 h3 h4 h5 h6 h7 h8 r1 r2 r3 h1 h2 h3 r1 r2 r3 ?_ ⟨h1.not_row h2, h1.not_row h3⟩ hn hb
  intro j hj e
  rcases hj with q | q
  · subst q; exact h1.not_row h3 e
  · exact h4 j q e
end Go.Proofs.YtnnlicahgdcbdaaDoor

/- Lists of numbers held against each other; the law's first look. -/
namespace Go.Proofs.YtnnlicahgdcbdaaDoor
open Go.RowKit
set_option linter.unusedVariables false
set_option maxRecDepth 20000
set_option linter.unusedSimpArgs false

/-- Numbers that can be read. -/
def Rf (w : World) (v : Value) (L : List Nat) : Prop := ∃ ao c, v = .slice ao L.length c ∧ (L ≠ [] → ∃ b off, ao = some ⟨b, off, none⟩ ∧ ∀ i, i < L.length → w.cell? ⟨b, off + i, none⟩ = some (.float .f64 (L.getD i 0)))
theorem Fr.rf {lo : Nat} {w : World} {v : Value} {L : List Nat} (h : Fr lo w v L) : Rf w v L := by
  rcases h.shape with ⟨rfl, rfl⟩ | ⟨g, cap, rfl, _, _, _, _, hc⟩
  · exact ⟨none, 0, rfl, fun q => absurd rfl q⟩
  · exact ⟨_, cap, rfl, fun _ => ⟨g, 0, rfl, fun i hi => by rw [Nat.zero_add]; exact hc i hi⟩⟩
set_option maxHeartbeats 2000000 in
theorem same8 (w : World) (va vb : Value) (L : List Nat) (ha : Rf w va L) (hb : Rf w vb L) (hl : L.length ≤ 2000000) :
    Calls Tryd.prog 19 #[va, vb] w fun r w' => r = .returned (.bool true) ∧ Below w.heap.size w w' := by
  obtain ⟨ao, ca, rfl, ha⟩ := ha
  obtain ⟨bo, cb, rfl, hb⟩ := hb
  obtain ⟨n, hn⟩ : ∃ n, n = L.length := ⟨_, rfl⟩
  have HA := Aside.intro (And.intro hn (And.intro ha hb))
  have hn5 : n ≤ 2000000 := by omega
  rw [← hn]
  clear ha hb hn hl
  go_enter Tryd.func19, Tryd.ntmps19
  go_wp2_with fail
  go_loopg [5] n (fun gk iv wr => ∃ i : Nat, gk + i = n ∧ iv = .int .i64 (i : Nat) ∧ Aside (Below w.heap.size w wr))
  case atStart => exact ⟨0, by omega, rfl, Below.refl _ _⟩
  case round =>
    obtain ⟨i, hgi, rfl, HW⟩ := hrel
    by_cases hi : i < n
    · have hne : L ≠ [] := by
        intro e
        have := HA.out.1
        rw [e] at this
        simp at this
        omega
      obtain ⟨b1, o1, rfl, c1⟩ := HA.out.2.1 hne
      obtain ⟨b2, o2, rfl, c2⟩ := HA.out.2.2 hne
      obtain ⟨x, hx⟩ : ∃ x, x = L.getD i 0 := ⟨_, rfl⟩
      have d1 : wr.cell? ⟨b1, o1 + i, none⟩ = some (.float .f64 x) := by
        have q := c1 i (by have := HA.out.1; omega)
        rw [hx, ← q]; exact HW.out.cell (p := ⟨b1, o1 + i, none⟩) (World.block_lt_of_cell? w _ q)
      have d2 : wr.cell? ⟨b2, o2 + i, none⟩ = some (.float .f64 x) := by
        have q := c2 i (by have := HA.out.1; omega)
        rw [hx, ← q]; exact HW.out.cell (p := ⟨b2, o2 + i, none⟩) (World.block_lt_of_cell? w _ q)
      have HS := hid (fun u => rSame_w x x u)
      rw [beq_self_eq_true] at HS
      clear hx c1 c2
      go_wp2
      go_quiet (first | (go_at_call 51; exact Calls.quiet_of_same (HS.out _)))
      go_wp2
      go_roundg (gk - 1)
      case measure => omega
      case rel => exact ⟨i + 1, by omega, by simp, bdrewN HW.out _⟩
    · go_wp2
      go_ret
      exact ⟨rfl, HW.out⟩
end Go.Proofs.YtnnlicahgdcbdaaDoor

/- awake: the law's first look. -/
namespace Go.Proofs.YtnnlicahgdcbdaaDoor
open Go.RowKit
set_option linter.unusedVariables false
set_option maxRecDepth 20000
set_option linter.unusedSimpArgs false

theorem mkS_pow2 (n : Bool) (X k : Nat) : ∀ e : Int, mkS n (X * 2 ^ k) e = mkS n X (e + (k : Nat)) := by
  induction k with
  | zero => intro e; simp
  | succ k ih =>
    intro e
    rw [Nat.pow_succ, ← Nat.mul_assoc, Nat.mul_comm (X * 2 ^ k) 2, mkS_double, ih]
    congr 1
    omega
/-- A whole number times 2^k, in units of 2^-1074. -/
theorem fo8_nat (X k : Nat) (i : Int) (hi : i = (k : Int) - 1074) : fo8 ((X * 2 ^ k : Nat) : Int) = mkS false X i := by
  unfold fo8
  rw [decide_eq_false (by omega), Int.natAbs_natCast, mkS_pow2]
  congr 1
  omega
theorem fv_pos (x j F K : Nat) (hx : x = j * 4503599627370496 + F) (h : j = 0 ∨ 4503599627370496 ≤ F) (hF : F ≤ 9007199254740992) (hx2 : x < 9223372036854775808) : fvW x = ((F * 2 ^ j : Nat) : Int) := by
  unfold fvW
  have e1 : negW x = false := by unfold negW; simp; omega
  have e2 : magW x = x := by unfold magW; omega
  rw [e1, e2, hx, vK_word j F h hF]
  rfl
theorem fv_two53 (k : Nat) (hk : k = 1074) : fvW 4845873199050653696 = ((9007199254740992 * 2 ^ k : Nat) : Int) := by
  obtain ⟨j, hj⟩ : ∃ j, j = 1075 := ⟨_, rfl⟩
  rw [fv_pos 4845873199050653696 j 4503599627370496 0 (by omega) (.inr (Nat.le_refl _)) (by decide) (by decide), show j = k + 1 by omega, Nat.pow_succ]
  congr 1
  generalize (2 : Nat) ^ k = z
  omega
theorem fv_one (k : Nat) (hk : k = 1074) : fvW 4607182418800017408 = ((2 ^ k : Nat) : Int) := by
  obtain ⟨j, hj⟩ : ∃ j, j = 1022 := ⟨_, rfl⟩
  rw [fv_pos 4607182418800017408 j 4503599627370496 0 (by omega) (.inr (Nat.le_refl _)) (by decide) (by decide), show k = 52 + j by omega, Nat.pow_add]
theorem aw_fo (k : Nat) (hk : k = 1074) : fo8 (0 + fvW 4845873199050653696 + fvW 4607182418800017408) = some (false, 9007199254740993, 0) := by
  rw [fv_two53 k hk, fv_one k hk]
  have e : (0 : Int) + ((9007199254740992 * 2 ^ k : Nat) : Int) + ((2 ^ k : Nat) : Int) = ((9007199254740993 * 2 ^ k : Nat) : Int) := by
    generalize (2 : Nat) ^ k = z
    omega
  rw [e, fo8_nat 9007199254740993 k 0 (by omega)]
  have q : mkS false 9007199254740993 0 = some (false, 9007199254740993, 0) := by kernel_rfl
  exact q
theorem aw_rnd : rndS (some (false, 9007199254740993, 0)) 0 = (4845873199050653696, 0) ∧ rndS (some (false, 9007199254740993, 0)) 2 = (4845873199050653697, 0) ∧ rndS (some (false, 9007199254740993, 0)) 5 = (0, 1) := by
  refine ⟨?_, ?_, ?_⟩ <;> kernel_rfl
theorem one_fo (k : Nat) (hk : k = 1074) : fo8 ((2 ^ k : Nat) : Int) = some (false, 1, 0) := by
  have := fo8_nat 1 k 0 (by omega)
  rw [Nat.one_mul] at this
  rw [this]
  have q : mkS false 1 0 = some (false, 1, 0) := by kernel_rfl
  exact q
theorem aw_parts : IsParts (0 + fvW 4845873199050653696 + fvW 4607182418800017408) [4845873199050653696, 4607182418800017408] := by
  obtain ⟨k, hk⟩ : ∃ k, k = 1074 := ⟨_, rfl⟩
  have hp := Nat.two_pow_pos k
  have e : (0 : Int) + fvW 4845873199050653696 + fvW 4607182418800017408 - fvW 4845873199050653696 = ((2 ^ k : Nat) : Int) := by rw [← fv_one k hk]; omega
  refine ⟨?_, ?_, ?_, ?_, ?_⟩
  · rw [fv_two53 k hk, fv_one k hk]; omega
  · unfold nrW
    rw [aw_fo k hk, aw_rnd.1]
    decide
  · rw [e]; omega
  · rw [e]
    unfold nrW
    rw [one_fo k hk]
    have : rndS (some (false, 1, 0)) 0 = (4607182418800017408, 0) := by kernel_rfl
    rw [this]
    decide
  · show _ - _ = _
    rw [e, fv_one k hk]
    omega
theorem fin_two53 : Wd 4845873199050653696 ∧ finW 4845873199050653696 := ⟨by unfold Wd; decide, by unfold finW magW; decide⟩
theorem fin_one8 : Wd 4607182418800017408 ∧ finW 4607182418800017408 := ⟨by unfold Wd; decide, by unfold finW magW; decide⟩
theorem inf_odd8 : Wd 9218868437227405312 ∧ ¬ finW 9218868437227405312 := ⟨by unfold Wd; decide, by unfold finW magW; decide⟩
/-- What an object's memory is, if it was made since. -/
theorem Sx.inter {lo : Nat} {w w' : World} {g n : Nat} {V : Int} {c : Nat} (h : Sx (Gr (fun k => lo ≤ k ∧ k < w.heap.size) w w') w' g n V c) (hlo : lo ≤ w.heap.size) (hs : w.heap.size ≤ w'.heap.size) : Sx (fun k => lo ≤ k ∧ k < w'.heap.size) w' g n V c :=
  h.wide (fun k q => by rcases q with q | q <;> exact ⟨by omega, by omega⟩) (fun k q => q.2)
theorem Sx.inter2 {lo : Nat} {w w' : World} {g n : Nat} {V : Int} {c : Nat} (h : Sx (fun k => lo ≤ k ∧ k < w.heap.size) w g n V c) (hb : Below w.heap.size w w') : Sx (fun k => lo ≤ k ∧ k < w'.heap.size) w' g n V c :=
  (h.below hb).wide (fun k q => ⟨q.1, Nat.lt_of_lt_of_le q.2 hb.size⟩) (fun k q => q.2)
section
attribute [local go_sem] B.f64bits B.f64frombits st_float
set_option maxHeartbeats 8000000 in
theorem awake8 (w : World) (hT : Tab w) : Calls Tryd.prog 15 #[] w fun r w' => r = .returned (.bool true) ∧ Below w.heap.size w w' := by
  have HT := Aside.intro hT
  have heq1 : (FloatKind.f64.format.order 4845873199050653696 4845873199050653696 == some .eq) = true := by kernel_rfl
  have heq2 : (FloatKind.f64.format.order 4845873199050653697 4845873199050653697 == some .eq) = true := by kernel_rfl
  clear hT
  go_enter Tryd.func15, Tryd.ntmps15
  go_wp2_with fail
  refine (new8 w).mono ?_
  rintro r w1 ⟨rfl, h1, h2, _⟩
  have S1 := Aside.intro (And.intro h1 h2)
  clear h1 h2
  go_wp2_with fail
  refine (parts8 _ w1 _ _ _ _ S1.out.1 (HT.out.belows S1.out.2)).mono ?_
  rintro r w2 ⟨v2, l2, rfl, hp, _, _, hf, hb⟩
  obtain rfl : l2 = [] := hp.one (show IsParts 0 [] from rfl)
  obtain ⟨ao2, c2, rfl, _⟩ := hf.rf
  have S2 := Aside.intro (And.intro (S1.out.1.inter2 hb) (S1.out.2.trans (hb.mono S1.out.2.size)))
  clear hp hf hb
  go_wp2_with fail
  refine (add_ok8 _ w2 _ _ _ _ 4845873199050653696 S2.out.1 (by decide) fin_two53.1 fin_two53.2 (by decide)).mono ?_
  rintro r w3 ⟨rfl, hs, ht⟩
  have S3 := Aside.intro (And.intro (hs.inter S2.out.2.size ht.size) (Tch.below S2.out.2 ht (fun j q => q.1) S2.out.2.size))
  clear hs ht
  go_wp2_with fail
  refine (add_ok8 _ w3 _ _ _ _ 4607182418800017408 S3.out.1 (by decide) fin_one8.1 fin_one8.2 (by decide)).mono ?_
  rintro r w4 ⟨rfl, hs, ht⟩
  have S4 := Aside.intro (And.intro (hs.inter S3.out.2.size ht.size) (Tch.below S3.out.2 ht (fun j q => q.1) S3.out.2.size))
  clear hs ht
  go_wp2_with fail
  refine (add_odd8 _ w4 _ _ _ _ 9218868437227405312 S4.out.1 (by decide) inf_odd8.1 inf_odd8.2).mono ?_
  rintro r w5 ⟨rfl, rfl⟩
  go_wp2_with fail
  refine (parts8 _ w5 _ _ _ _ S4.out.1 (HT.out.belows S4.out.2)).mono ?_
  rintro r w6 ⟨v6, l6, rfl, hp, _, _, hf, hb⟩
  obtain rfl : l6 = [4845873199050653696, 4607182418800017408] := hp.one aw_parts
  obtain ⟨ao6, c6, rfl, _⟩ := hf.rf
  have S6 := Aside.intro (And.intro (S4.out.1.inter2 hb) (And.intro (S4.out.2.trans (hb.mono S4.out.2.size)) hf))
  clear hp hf hb
  obtain ⟨k, hk⟩ : ∃ k, k = 1074 := ⟨_, rfl⟩
  go_wp2_with fail
  have R1 := round8 _ w6 _ _ _ _ S6.out.1 (HT.out.belows S6.out.2.1) 0
  rw [aw_fo k hk, aw_rnd.1] at R1
  refine R1.mono ?_
  rintro r w7 ⟨rfl, hb⟩
  have S7 := Aside.intro (And.intro (S6.out.1.inter2 hb) (And.intro (S6.out.2.1.trans (hb.mono S6.out.2.1.size)) (S6.out.2.2.below hb)))
  clear hb R1
  go_wp2_with fail
  have R1 := round8 _ w7 _ _ _ _ S7.out.1 (HT.out.belows S7.out.2.1) 2
  rw [aw_fo k hk, aw_rnd.2.1] at R1
  refine R1.mono ?_
  rintro r w8 ⟨rfl, hb⟩
  have S8 := Aside.intro (And.intro (S7.out.1.inter2 hb) (And.intro (S7.out.2.1.trans (hb.mono S7.out.2.1.size)) (S7.out.2.2.below hb)))
  clear hb R1
  go_wp2_with fail
  have R1 := round8 _ w8 _ _ _ _ S8.out.1 (HT.out.belows S8.out.2.1) 5
  rw [aw_fo k hk, aw_rnd.2.2] at R1
  refine R1.mono ?_
  rintro r w9 ⟨rfl, hb⟩
  have S9 := Aside.intro (And.intro (S8.out.1.inter2 hb) (And.intro (S8.out.2.1.trans (hb.mono S8.out.2.1.size)) (S8.out.2.2.below hb)))
  clear hb R1
  go_wp2_with fail
  have R1 := exact8 _ w9 _ _ _ _ S9.out.1 (HT.out.belows S9.out.2.1)
  rw [aw_fo k hk] at R1
  refine R1.mono ?_
  rintro r w10 ⟨⟨v10, rfl, hN⟩, hb⟩
  have hlen : (ws (dX (some (false, 9007199254740993, 0)))).length = 2 := by
    show (ws 9007199254740993).length = 2
    rw [ws_len_bl]; decide
  obtain ⟨a10, c10, rfl, _⟩ := hN.arg (by rw [hlen]; decide)
  rw [hlen]
  simp only [dN, dE, Option.getD_some]
  obtain ⟨W, hW⟩ : ∃ W, W = w10.alloc (.cells #[.bool false, .slice a10 2 c10, .int .i64 0] 37) := ⟨_, rfl⟩
  obtain ⟨W2, hW2⟩ : ∃ X, X = W.alloc (.cells #[.float .f64 4845873199050653696, .float .f64 4607182418800017408] 28) := ⟨_, rfl⟩
  have hB10 : Below w9.heap.size w9 W2 := by
    subst hW2; subst hW
    have q := hb.trans ((below_alloc w10 (.cells #[.bool false, .slice a10 2 c10, .int .i64 0] 37)).mono hb.size)
    exact q.trans ((below_alloc _ _).mono q.size)
  have hD : Dk W2 w10.heap.size false (.slice a10 2 c10) 0 := by subst hW2; subst hW; exact (Dk.new _ _ _ _).alloc _
  have hRf : Rf W2 (.slice (some ⟨W.heap.size, 0, none⟩) 2 2) [4845873199050653696, 4607182418800017408] := by
    subst hW2
    refine ⟨some ⟨W.heap.size, 0, none⟩, 2, rfl, fun _ => ⟨W.heap.size, 0, rfl, fun i hi => ?_⟩⟩
    have : i = 0 ∨ i = 1 := by simp at hi; omega
    rcases this with rfl | rfl <;> (unfold World.cell?; simp only [heap_alloc_new]; rfl)
  have HSm := hid (same8 W2 _ _ [4845873199050653696, 4607182418800017408] (S9.out.2.2.below hB10).rf hRf (by decide))
  have S10 := Aside.intro (And.intro hD (S9.out.2.1.trans (hB10.mono S9.out.2.1.size)))
  have hWs : W.heap.size = w10.heap.size + 1 := by subst hW; simp
  clear hD hB10 hRf hN hb R1 hlen hk
  go_wp2_with fail
  rw [← hW, ← hW2]
  rw [hWs] at HSm
  clear hW hW2 hWs
  refine HSm.out.mono ?_
  rintro r w11 ⟨rfl, hb⟩
  obtain ⟨x0, x1, x2, _, _, _⟩ := (S10.out.1.below hb).facts
  have S11 := Aside.intro (S10.out.2.trans (hb.mono S10.out.2.size))
  clear hb HSm
  go_wp2
  go_ret
  exact ⟨rfl, S11.out⟩
end
end Go.Proofs.YtnnlicahgdcbdaaDoor

/- alike: two spreads of the same sum tell the same. -/
namespace Go.Proofs.YtnnlicahgdcbdaaDoor
open Go.RowKit
set_option linter.unusedVariables false
set_option maxRecDepth 20000
set_option linter.unusedSimpArgs false

theorem rnd_ok8 (V : Int) (m : Nat) (hm : m ≤ 200000) (hV : V.natAbs < 2 ^ m) (mode : Int) (h0 : 0 ≤ mode) (h4 : mode ≤ 4) : (rndS (fo8 V) mode).2 = 0 := by
  obtain ⟨n, X, e, h1, F, _⟩ := fo8_frm V m hm hV
  rw [h1, rndS_form mode n X e h0 h4]
theorem same_fo8 (V : Int) (w : World) (a b : Option Addr) (c d : Nat) (hV : V.natAbs < 2 ^ ET) (h1 : Nt 0 w (.slice a (ws (dX (fo8 V))).length c) (dX (fo8 V))) (h2 : Nt 0 w (.slice b (ws (dX (fo8 V))).length d) (dX (fo8 V))) :
    Calls Tryd.prog 56 #[.agg #[.bool (dN (fo8 V)), .slice a (ws (dX (fo8 V))).length c, .int .i64 (dE (fo8 V))], .agg #[.bool (dN (fo8 V)), .slice b (ws (dX (fo8 V))).length d, .int .i64 (dE (fo8 V))]] w fun r w' => r = .returned (.bool true) ∧ Below w.heap.size w w' := by
  have hl := (fo8_len V ET (Nat.le_trans ET5 (by decide)) hV).1
  have q1 := (h1.arg' (Nat.le_trans hl (by decide))).2
  have q2 := (h2.arg' (Nat.le_trans hl (by decide))).2
  exact rSame3_any (dN (fo8 V)) (dE (fo8 V)) (ws (dX (fo8 V))) a b (ws (dX (fo8 V))).length c d w rfl (Nat.le_trans q1.big (by decide)) q1.rd q2.rd

set_option maxHeartbeats 8000000 in
theorem alike8 (F G : Nat → Prop) (w : World) (g k n m : Nat) (V : Int) (c d : Nat) (h : Sx F w g n V c) (h' : Sx G w k m V d) (hT : Tab w) :
    Calls Tryd.prog 29 #[.pointer (some ⟨g, 0, none⟩), .pointer (some ⟨k, 0, none⟩)] w fun r w' => r = .returned (.bool true) ∧ Below w.heap.size w w' := by
  have htop := h.top ET rfl
  have HL := Aside.intro (fo8_len V ET (Nat.le_trans ET5 (by decide)) htop).1
  have HE1 := hid (exact8 F w g n V c h hT)
  have HE2 := hid (fun u hu => exact8 G u k m V d (h'.below hu) (hT.belows hu))
  have HP1 := hid (fun u hu => parts8 F u g n V c (h.below hu) (hT.belows hu))
  have HP2 := hid (fun u hu => parts8 G u k m V d (h'.below hu) (hT.belows hu))
  have HR1 := hid (fun u (hu : Below w.heap.size w u) mode => round8 F u g n V c (h.below hu) (hT.belows hu) mode)
  have HR2 := hid (fun u (hu : Below w.heap.size w u) mode => round8 G u k m V d (h'.below hu) (hT.belows hu) mode)
  have HS := hid (fun u a c b d (p1 : Nt 0 u (.slice a (ws (dX (fo8 V))).length c) (dX (fo8 V))) p2 => same_fo8 V u a b c d htop p1 p2)
  have HZ := Aside.intro (fun mode h0 h4 => rnd_ok8 V ET (Nat.le_trans ET5 (by decide)) htop mode h0 h4)
  clear h h' hT htop
  obtain ⟨nn, hnn⟩ : ∃ b, b = dN (fo8 V) := ⟨_, rfl⟩
  obtain ⟨ee, hee⟩ : ∃ b, b = dE (fo8 V) := ⟨_, rfl⟩
  obtain ⟨xx, hxx⟩ : ∃ b, b = dX (fo8 V) := ⟨_, rfl⟩
  rw [← hnn, ← hee, ← hxx] at HE1 HS
  simp only [← hnn, ← hee, ← hxx] at HE2
  rw [← hxx] at HL
  clear hnn hee hxx
  go_enter Tryd.func29, Tryd.ntmps29
  go_wp2_with fail
  with_reducible refine HE1.out.mono ?_
  rintro r w1 ⟨⟨v1, rfl, hN1⟩, hb1⟩
  obtain ⟨a1, c1, rfl, _⟩ := hN1.arg (Nat.le_trans HL.out (by decide))
  obtain ⟨W, hW⟩ : ∃ W, W = w1.alloc (.cells #[.bool nn, .slice a1 (ws xx).length c1, .int .i64 ee] 37) := ⟨_, rfl⟩
  have H1 : Aside (Dk W w1.heap.size nn (.slice a1 (ws xx).length c1) ee ∧ Nt 0 W (.slice a1 (ws xx).length c1) xx ∧ Below w.heap.size w W) := by
    subst hW
    exact ⟨Dk.new _ _ _ _, (hN1.below (below_alloc _ _)).mono (Nat.zero_le _), hb1.trans ((below_alloc _ _).mono hb1.size)⟩
  obtain ⟨gd, hgd⟩ : ∃ k, k = w1.heap.size := ⟨_, rfl⟩
  rw [← hgd] at H1
  clear hN1 hb1 HE1
  go_upto_region 2 with fail
  rw [← hW, ← hgd]
  clear hW hgd
  obtain ⟨x0, x1, x2, _, _, _⟩ := H1.out.1.facts
  have kS : Aside (W.drew.cell? ⟨gd, 0, none⟩ = some (.bool nn) ∧ W.drew.cell? ⟨gd, 1, none⟩ = some (.slice a1 (ws xx).length c1) ∧ W.drew.cell? ⟨gd, 2, none⟩ = some (.int .i64 ee)) := ⟨x0, x1, x2⟩
  go_region_held3 (fun w' => w'.cell? ⟨gd, 0, none⟩ = some (.bool nn) ∧ w'.cell? ⟨gd, 1, none⟩ = some (.slice a1 (ws xx).length c1) ∧ w'.cell? ⟨gd, 2, none⟩ = some (.int .i64 ee)) (with_reducible exact kS.out) (first
    | (go_at_call 49
       with_reducible refine (HE2.out _ (by first | exact H1.out.2.2.drew | exact H1.out.2.2)).mono ?_
       rintro r u ⟨⟨v2, rfl, hN2⟩, hb2⟩
       obtain ⟨a2, c2, rfl, _⟩ := hN2.arg (Nat.le_trans HL.out (by decide))
       have hbu : Below W.heap.size W u := by first | exact ((Below.refl _ W).drew).trans hb2 | exact hb2
       obtain ⟨z0, z1, z2, _, _, _⟩ := (H1.out.1.below hbu).facts
       have kS := Aside.intro (And.intro z0 (And.intro z1 z2))
       have H2 := Aside.intro (And.intro (H1.out.2.1.below hbu) (And.intro (hN2.mono (Nat.zero_le _)) (H1.out.2.2.trans (hbu.mono H1.out.2.2.size))))
       have HX := Aside.intro (H1.out.1.below hbu)
       clear hN2 hb2 hbu)
    | (go_at_call 56
       with_reducible refine (HS.out _ a1 c1 a2 c2 H2.out.1 H2.out.2.1).mono ?_
       rintro r u3 ⟨rfl, hb3⟩
       obtain ⟨z0, z1, z2, _, _, _⟩ := (HX.out.below hb3).facts
       have kS := Aside.intro (And.intro z0 (And.intro z1 z2))
       have H3 := Aside.intro (H2.out.2.2.trans (hb3.mono H2.out.2.2.size))
       clear hb3))
  all_goals (
    clear kS x0 x1 x2 z0 z1 z2 HS HE2
    go_wp2_with fail
    with_reducible refine (HP1.out _ H3.out).mono ?_
    rintro r w4 ⟨v4, l4, rfl, hp4, _, hl4, hf4, hb4⟩
    have H4 := Aside.intro (And.intro (H3.out.trans (hb4.mono H3.out.size)) (And.intro hp4 (And.intro hl4 hf4)))
    clear hp4 hl4 hf4 hb4
    go_wp2_with fail
    with_reducible refine (HP2.out _ H4.out.1).mono ?_
    rintro r w5 ⟨v5, l5, rfl, hp5, _, hl5, hf5, hb5⟩
    obtain rfl : l4 = l5 := H4.out.2.1.one hp5
    have HSm := hid (same8 w5 v4 v5 l4 (H4.out.2.2.2.below hb5).rf hf5.rf (by omega))
    have H5 := Aside.intro (H4.out.1.trans (hb5.mono H4.out.1.size))
    clear hp5 hl5 hf5 hb5 HP1 HP2
    go_wp2_with fail
    with_reducible refine HSm.out.mono ?_
    rintro r w6 ⟨rfl, hb6⟩
    have H6 := Aside.intro (H5.out.trans (hb6.mono H5.out.size))
    clear hb6 HSm
    go_wp2_with fail
    go_loopg [8] 5 (fun gk iv wr => ∃ i : Nat, gk + i = 5 ∧ iv = .int .i64 (i : Nat) ∧ Aside (Below w.heap.size w wr))
    case atStart => exact ⟨0, by omega, rfl, H6⟩
    case round =>
      obtain ⟨i, hgi, rfl, HW⟩ := hrel
      by_cases hi : i < 5
      · have h1 := HR1.out wr HW.out (i : Int)
        have hz := HZ.out (i : Int) (by omega) (by omega)
        rw [hz] at h1
        have HA := hid h1
        have HQ := Aside.intro hz
        obtain ⟨X, hX⟩ : ∃ X, X = (rndS (fo8 V) (i : Int)).1 := ⟨_, rfl⟩
        rw [← hX] at HA
        have HQX := Aside.intro hX
        clear h1 hz hX
        go_wp2_with fail
        with_reducible refine HA.out.mono ?_
        rintro r w7 ⟨rfl, hb7⟩
        have H7 := Aside.intro (HW.out.trans (hb7.mono HW.out.size))
        have h1 := HR2.out w7 H7.out (i : Int)
        rw [HQ.out, ← HQX.out] at h1
        have HA := hid h1
        clear h1 hb7
        go_wp2_with fail
        with_reducible refine HA.out.mono ?_
        rintro r w8 ⟨rfl, hb8⟩
        have H8 := Aside.intro (H7.out.trans (hb8.mono H7.out.size))
        have HSx := hid (fun u => rSame_w X X u)
        rw [beq_self_eq_true] at HSx
        clear hb8 HA
        go_wp2_with fail
        with_reducible refine (HSx.out _).mono ?_
        rintro r w9 ⟨rfl, rfl⟩
        go_wp2
        go_roundg (gk - 1)
        case measure => omega
        case rel => exact ⟨i + 1, by omega, by simp, H8⟩
      · go_wp2
        go_ret
        exact ⟨rfl, HW.out⟩)
end Go.Proofs.YtnnlicahgdcbdaaDoor

/- Lists that came in. -/
namespace Go.Proofs.YtnnlicahgdcbdaaDoor
open Go.ChangeShapes Go.WideShapes Go.ChangeAt Go.RowKit
set_option linter.unusedVariables false
set_option maxRecDepth 20000
set_option linter.unusedSimpArgs false

/-- Numbers that lie in memory below B. -/
def Fs (B : Nat) (w : World) (ao : Option Addr) (xs : List Nat) : Prop :=
  xs ≠ [] → ∃ b off, b < B ∧ ao = some ⟨b, off, none⟩ ∧ ∀ i, i < xs.length → w.cell? ⟨b, off + i, none⟩ = some (.float .f64 (xs.getD i 0))
theorem Fs.at {B : Nat} {w w' : World} {ao : Option Addr} {xs : List Nat} (h : Fs B w ao xs) (hb : Below B w w') (i : Nat) (hi : i < xs.length) : ∃ b off, ao = some ⟨b, off, none⟩ ∧ w'.cell? ⟨b, off + i, none⟩ = some (.float .f64 (xs.getD i 0)) := by
  obtain ⟨b, off, h1, h2, h3⟩ := h (by intro e; subst e; simp at hi)
  exact ⟨b, off, h2, (hb.cell (p := ⟨b, off + i, none⟩) h1).trans (h3 i hi)⟩
def W64 (xs : List Nat) : Prop := ∀ x ∈ xs, x < 18446744073709551616
theorem W64.get {xs : List Nat} (h : W64 xs) (i : Nat) : xs.getD i 0 < 18446744073709551616 := by
  by_cases hi : i < xs.length
  · rw [List.getD_eq_getElem?_getD, List.getElem?_eq_getElem hi]; exact h _ (List.getElem_mem hi)
  · rw [List.getD_eq_getElem?_getD, List.getElem?_eq_none (by omega)]; simp

theorem trodF {H : Type} {enc : TypeId × Value → H} {P : Program} {w : World} {base : Nat} {spare : Nat → Bool} {held : Bool} {fuel : Nat} {t : TypeId} {cs : List Value} {x : DataW H × List MemPlace} {k : FloatKind} (ht : P.underlying t = some (.float k)) (h : DataW.trod enc P w base spare held fuel t cs = some x) : ∃ n, cs = [.float k n] ∧ x = (.lit (.float k n), []) ∧ (Lit.float k n).wf = true := by
  cases fuel with
  | zero => simp [DataW.trod] at h
  | succ m =>
    simp only [DataW.trod, ht] at h
    split at h <;> simp_all

/-- A list that came in: its numbers, its room. -/
structure CameF (w : World) (a : Option Addr) (n c : Nat) (xs : List Nat) : Prop where
  len : n = xs.length
  cap : n ≤ c
  wf : W64 xs
  rd : Fs w.heap.size w a xs
  nil : a = none → c = 0

theorem add_noneF (b off i : Nat) : (⟨b, off, none⟩ : Addr).add i = ⟨b, off + i, none⟩ := by unfold Addr.add; split <;> simp_all

def numF {H : Type} (y : DataW H × List MemPlace) : Nat := match y.1 with | .lit (.float _ n) => n | _ => 0

theorem Tryd.cellsF : Tryd.prog.cellsOf 28 = 1 := by kernel_rfl
theorem Tryd.bytesF : Tryd.prog.bytesOf 28 = 8 := by kernel_rfl

theorem cameF_of {H : Type} {enc : TypeId × Value → H} {W : World} {a : Option Addr} {n c : Nat} {d : DataW H} {p : List MemPlace} (h : DataW.Trod enc Tryd.prog W 0 (fun _ => true) true 22 (.slice a n c) d p) :
    ∃ xs, CameF W a n c xs ∧ ((d = .nil ∧ c = 0) ∨ ∃ elems spare : List (DataW H), d = .slice elems spare ∧ elems.length + spare.length = c) := by
  obtain ⟨fuel, hf⟩ := h
  rcases DataW.trod_slice Tryd.underlying22 hf with ⟨hcs, hx⟩ | ⟨x, l, cp, elems, rest, m, _, hcs, hx, hb, hl, hm, hlen, hel, hsp, hns⟩
  · simp [Value.cells] at hcs
    obtain ⟨rfl, rfl, rfl⟩ := hcs
    exact ⟨[], ⟨rfl, Nat.le_refl _, (fun x hx => by cases hx), (fun h => absurd rfl h), fun _ => rfl⟩, .inl ⟨(Prod.mk.inj hx).1, rfl⟩⟩
  · simp [Value.cells] at hcs
    obtain ⟨rfl, rfl, rfl⟩ := hcs
    have each : ∀ i y, i < n → elems[i]? = some y → y = (.lit (.float .f64 (numF y)), []) ∧ (Lit.float .f64 (numF y)).wf = true ∧ W.cell? (x.add i) = some (.float .f64 (numF y)) := by
      intro i y hi hy
      have hb' := hel i hi
      rw [hy, Tryd.cellsF, Nat.mul_one, Option.bind_eq_some_iff] at hb'
      obtain ⟨cs', hcs, hy'⟩ := hb'
      obtain ⟨k, rfl, rfl, hw⟩ := trodF Tryd.underlying28 hy'
      exact ⟨rfl, hw, cell_of_cells?_one hcs⟩
    refine ⟨elems.map numF, ⟨by simp [hlen], hl, ?_, ?_, fun e => by cases e⟩, .inr ⟨_, _, (Prod.mk.inj hx).1, ?_⟩⟩
    · intro y hy
      obtain ⟨z, hz, rfl⟩ := List.mem_map.1 hy
      obtain ⟨i, hi⟩ := List.getElem?_of_mem hz
      have hil := (List.getElem?_eq_some_iff.1 hi).1
      have := (each i z (by omega) hi).2.1
      exact of_decide_eq_true this
    · intro hne
      obtain ⟨b, off, spot⟩ := x
      have hn0 : 0 < n := by
        rcases Nat.eq_zero_or_pos n with h0 | h0
        · rw [h0] at hlen; have := List.eq_nil_of_length_eq_zero hlen; subst this; simp at hne
        · exact h0
      have hc0 := (each 0 (elems[0]'(by omega)) hn0 (List.getElem?_eq_getElem _)).2.2
      have hspot : spot = none := by simpa [Addr.add] using World.cell?_spot hc0
      subst hspot
      refine ⟨b, off, World.block_lt_of_cell? W _ (by simpa [Addr.add] using hc0), rfl, fun i hi => ?_⟩
      rw [List.length_map] at hi
      have hadd := add_noneF b off i
      have := (each i (elems[i]'hi) (by omega) (List.getElem?_eq_getElem _)).2.2
      rw [hadd] at this
      rw [this]
      simp [List.getD_eq_getElem?_getD, hi]
    · have hr := (hsp rfl).1
      simp only [List.length_map]
      omega

/-- The form's own reach. -/
theorem cameF_reach {H : Type} {ts : List TypeId} {ds : List (DataW H)} (h : (DataW.weightsEach Tryd.prog ts ds).all (· ≤ reachBytes) = true) {j : Nat} {d : DataW H} {c n : Nat} (ht : ts[j]? = some 22) (hd : ds[j]? = some d) (hn : n ≤ c)
    (hc : (d = .nil ∧ c = 0) ∨ ∃ elems spare : List (DataW H), d = .slice elems spare ∧ elems.length + spare.length = c) : n ≤ 17592186043904 := by
  rcases hc with ⟨_, rfl⟩ | ⟨elems, spare, rfl, hl⟩
  · omega
  · have := sized_slice h ht hd Tryd.underlying22
    rw [Tryd.bytesF, hl] at this
    simp only [reachBytes] at this
    omega

/-- Whole numbers that lie in memory below B. -/
def Is7 (B : Nat) (w : World) (ao : Option Addr) (xs : List Int) : Prop :=
  xs ≠ [] → ∃ b off, b < B ∧ ao = some ⟨b, off, none⟩ ∧ ∀ i, i < xs.length → w.cell? ⟨b, off + i, none⟩ = some (.int .i64 (xs.getD i 0))
theorem Is7.at {B : Nat} {w w' : World} {ao : Option Addr} {xs : List Int} (h : Is7 B w ao xs) (hb : Below B w w') (i : Nat) (hi : i < xs.length) : ∃ b off, ao = some ⟨b, off, none⟩ ∧ w'.cell? ⟨b, off + i, none⟩ = some (.int .i64 (xs.getD i 0)) := by
  obtain ⟨b, off, h1, h2, h3⟩ := h (by intro e; subst e; simp at hi)
  exact ⟨b, off, h2, (hb.cell (p := ⟨b, off + i, none⟩) h1).trans (h3 i hi)⟩
def I64 (xs : List Int) : Prop := ∀ i, -9223372036854775808 ≤ xs.getD i 0 ∧ xs.getD i 0 ≤ 9223372036854775807
/-- A list of whole numbers that came in. -/
structure CameI (w : World) (a : Option Addr) (n c : Nat) (xs : List Int) : Prop where
  len : n = xs.length
  cap : n ≤ c
  wf : I64 xs
  rd : Is7 w.heap.size w a xs
  nil : a = none → c = 0

def numI {H : Type} (y : DataW H × List MemPlace) : Int := match y.1 with | .lit (.int _ n) => n | _ => 0

theorem Tryd.cellsI7 : Tryd.prog.cellsOf 3 = 1 := by kernel_rfl
theorem Tryd.bytesI7 : Tryd.prog.bytesOf 3 = 8 := by kernel_rfl

theorem cameI_of {H : Type} {enc : TypeId × Value → H} {W : World} {a : Option Addr} {n c : Nat} {d : DataW H} {p : List MemPlace} (h : DataW.Trod enc Tryd.prog W 0 (fun _ => true) true 51 (.slice a n c) d p) :
    ∃ xs, CameI W a n c xs ∧ ((d = .nil ∧ c = 0) ∨ ∃ elems spare : List (DataW H), d = .slice elems spare ∧ elems.length + spare.length = c) := by
  obtain ⟨fuel, hf⟩ := h
  rcases DataW.trod_slice Tryd.underlying51 hf with ⟨hcs, hx⟩ | ⟨x, l, cp, elems, rest, m, _, hcs, hx, hb, hl, hm, hlen, hel, hsp, hns⟩
  · simp [Value.cells] at hcs
    obtain ⟨rfl, rfl, rfl⟩ := hcs
    exact ⟨[], ⟨rfl, Nat.le_refl _, (fun i => by simp), (fun h => absurd rfl h), fun _ => rfl⟩, .inl ⟨(Prod.mk.inj hx).1, rfl⟩⟩
  · simp [Value.cells] at hcs
    obtain ⟨rfl, rfl, rfl⟩ := hcs
    have each : ∀ i y, i < n → elems[i]? = some y → y = (.lit (.int .i64 (numI y)), []) ∧ (-9223372036854775808 ≤ numI y ∧ numI y ≤ 9223372036854775807) ∧ W.cell? (x.add i) = some (.int .i64 (numI y)) := by
      intro i y hi hy
      have hb' := hel i hi
      rw [hy, Tryd.cellsI7, Nat.mul_one, Option.bind_eq_some_iff] at hb'
      obtain ⟨cs', hcs, hy'⟩ := hb'
      obtain ⟨e, e2, rfl, hw⟩ := DataW.trod_int Tryd.underlying3 hy'
      subst e2
      have hw' : -9223372036854775808 ≤ e ∧ e ≤ 9223372036854775807 := by
        simp [Lit.wf, IntKind.min, IntKind.max, IntKind.signed, IntKind.bits] at hw
        omega
      exact ⟨rfl, hw', cell_of_cells?_one hcs⟩
    refine ⟨elems.map numI, ⟨by simp [hlen], hl, ?_, ?_, fun e => by cases e⟩, .inr ⟨_, _, (Prod.mk.inj hx).1, ?_⟩⟩
    · intro i
      by_cases hi : i < elems.length
      · have := (each i (elems[i]'hi) (by omega) (List.getElem?_eq_getElem _)).2.1
        simpa [List.getD_eq_getElem?_getD, hi] using this
      · simp [List.getD_eq_getElem?_getD, hi]
    · intro hne
      obtain ⟨b, off, spot⟩ := x
      have hn0 : 0 < n := by
        rcases Nat.eq_zero_or_pos n with h0 | h0
        · rw [h0] at hlen; have := List.eq_nil_of_length_eq_zero hlen; subst this; simp at hne
        · exact h0
      have hc0 := (each 0 (elems[0]'(by omega)) hn0 (List.getElem?_eq_getElem _)).2.2
      have hspot : spot = none := by simpa [Addr.add] using World.cell?_spot hc0
      subst hspot
      refine ⟨b, off, World.block_lt_of_cell? W _ (by simpa [Addr.add] using hc0), rfl, fun i hi => ?_⟩
      rw [List.length_map] at hi
      have hadd := add_noneF b off i
      have := (each i (elems[i]'hi) (by omega) (List.getElem?_eq_getElem _)).2.2
      rw [hadd] at this
      rw [this]
      simp [List.getD_eq_getElem?_getD, hi]
    · have hr := (hsp rfl).1
      simp only [List.length_map]
      omega

/-- The form's own reach. -/
theorem cameI_reach {H : Type} {ts : List TypeId} {ds : List (DataW H)} (h : (DataW.weightsEach Tryd.prog ts ds).all (· ≤ reachBytes) = true) {j : Nat} {d : DataW H} {c n : Nat} (ht : ts[j]? = some 51) (hd : ds[j]? = some d) (hn : n ≤ c)
    (hc : (d = .nil ∧ c = 0) ∨ ∃ elems spare : List (DataW H), d = .slice elems spare ∧ elems.length + spare.length = c) : n ≤ 17592186043904 := by
  rcases hc with ⟨_, rfl⟩ | ⟨elems, spare, rfl, hl⟩
  · omega
  · have := sized_slice h ht hd Tryd.underlying51
    rw [Tryd.bytesI7, hl] at this
    simp only [reachBytes] at this
    omega


end Go.Proofs.YtnnlicahgdcbdaaDoor

