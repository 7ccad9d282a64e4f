/- Bins: Round, Fold; awake. -/
import Derived.Test.YtjpaocgimdinmaaGreatDoorG15x
import Derived.ArgAppend
import Derived.Maps.AppendAt
import Derived.Test.YtjpaocgimdinmaaGreatDoorJ13x
import Derived.Test.YtjpaocgimdinmaaGreatDoorD36x
import Derived.Test.YtjpaocgimdinmaaGreatDoorG7x
import Derived.Deep.Cut
import Derived.Deep.CutRange
import Derived.Test.YtjpaocgimdinmaaGreatDoorO1x
import Derived.Test.YtjpaocgimdinmaaGreatDoorD10x
namespace Go.Proofs.YtjpaocgimdinmaaGreatDoor
open Go Go.RowKit
set_option linter.unusedVariables false
set_option maxRecDepth 20000
set_option linter.unusedSimpArgs false

set_option maxHeartbeats 400000 in
theorem Fold9 (g f : Nat) (L : List Nat) (w : World) (hB : Bz w g f L) : Calls Tryz.prog 73 #[.pointer (some ⟨g, 0, none⟩)] w fun r w' => r = .returned (.int .i64 f) ∧ w' = w := by
  have k1 := Bs.fold hB
  clear hB
  go_enter Tryz.func73, Tryz.ntmps73
  go_wp2
  go_ret
  exact ⟨rfl, rfl⟩
set_option maxHeartbeats 400000 in
theorem Round9 (g f : Nat) (L : List Nat) (mode : Int) (w : World) (hB : Bz w g f L) (hF : Fin9 L) (hl : L.length ≤ 1099511627776) (hT : Tab w) :
    Calls Tryz.prog 70 #[.pointer (some ⟨g, 0, none⟩), .int .i64 mode] w fun r w' => r = .returned (.tuple #[.float .f64 (rndS (fo8 (kvz f L)) mode).1, .int .i64 (rndS (fo8 (kvz f L)) mode).2]) ∧ Below w.heap.size w w' := by
  have e5 : EB ≤ 200000 := Nat.le_trans EB5 (by decide)
  have HK := hid (Kept9 g f L w hB hF hl hT)
  obtain ⟨l1, l2, l3, _⟩ := fo8_len (kvz f L) EB e5 (kvz_EB f L hF hl)
  have hself := fo8_self (kvz f L) EB e5 (kvz_EB f L hF hl)
  have HR : Hid (∀ u a c, Below w.heap.size w u → Arg u a (ws (dX (fo8 (kvz f L)))).length c (ws (dX (fo8 (kvz f L)))) → Calls Tryz.prog 103 #[.agg #[.bool (dN (fo8 (kvz f L))), .slice a (ws (dX (fo8 (kvz f L)))).length c, .int .i64 (dE (fo8 (kvz f L)))], .int .i64 mode] u fun r w' => r = .returned (.tuple #[.float .f64 (rndS (fo8 (kvz f L)) mode).1, .int .i64 (rndS (fo8 (kvz f L)) mode).2]) ∧ Below u.heap.size u w') := hid (fun u a c hu A => by
    have := Round_any A (hT.belows hu) (dN (fo8 (kvz f L))) (dE (fo8 (kvz f L))) mode l2 l3
    rw [val_ws, hself] at this
    exact this)
  obtain ⟨x, hx⟩ : ∃ x, x = (rndS (fo8 (kvz f L)) mode).1 := ⟨_, rfl⟩
  obtain ⟨er, her⟩ : ∃ x, x = (rndS (fo8 (kvz f L)) mode).2 := ⟨_, rfl⟩
  obtain ⟨n1, hn1⟩ : ∃ b, b = dN (fo8 (kvz f L)) := ⟨_, rfl⟩
  obtain ⟨e1, he1⟩ : ∃ b, b = dE (fo8 (kvz f L)) := ⟨_, rfl⟩
  obtain ⟨X1, hX1⟩ : ∃ b, b = dX (fo8 (kvz f L)) := ⟨_, rfl⟩
  rw [← hx, ← her] at HR ⊢
  rw [← hn1, ← he1, ← hX1] at HR HK
  rw [← hX1] at l1
  clear hx her hn1 he1 hX1 hself hB hF hT l2 l3
  go_enter Tryz.func70, Tryz.ntmps70
  go_wp2_with fail
  with_reducible refine HK.out.mono ?_
  rintro r u ⟨⟨v1, rfl, hN1⟩, hb1⟩
  obtain ⟨a1, c1, rfl, A1⟩ := hN1.arg (Nat.le_trans l1 (by decide))
  have HA := Aside.intro (And.intro A1 hb1)
  clear A1 hN1 hb1
  go_wp2_with fail
  with_reducible refine (HR.out u a1 c1 HA.out.2 HA.out.1).mono ?_
  rintro r u2 ⟨rfl, hb2⟩
  have HB := Aside.intro (HA.out.2.trans (hb2.mono HA.out.2.size))
  clear hb2
  go_wp2
  go_ret2
  exact ⟨rfl, HB.out⟩
def awL : List Nat := [4607182418800017408, 4458563631096791040, 4751297606876921856]
theorem aw_tL : tL (ZL awL) = 35 := by kernel_rfl
theorem aw_SL : SL (ZL awL) 35 = 1 := by kernel_rfl
theorem aw_form : fo8 (kvz 1 awL) = some (false, 1, 32) := by
  have h : kvz 1 awL * 16384 = 1 * ((2 ^ (32 * 35) : Nat) : Int) := by
    unfold kvz
    have e1 : kv (tL (ZL awL)) (kf 1 (tL (ZL awL)) (SL (ZL awL))) 8 = kv (tL (ZL awL)) (kf 1 (tL (ZL awL)) (SL (ZL awL))) 1 := kv_more 1 _ _ 7
    rw [e1, aw_tL]
    show (0 + vb (35 - ((0 : Nat) : Int)) (kf 1 35 (SL (ZL awL)) 0)) * 16384 = _
    have e2 : kf 1 35 (SL (ZL awL)) 0 = 1 := by unfold kf; rw [if_pos (by decide)]; exact aw_SL
    rw [e2, Int.zero_add]
    exact vb_mul 35 1 (fun q => by omega)
  have hF : Fin9 awL := by
    intro x hx
    simp only [awL, List.mem_cons, List.not_mem_nil, or_false] at hx
    rcases hx with rfl | rfl | rfl <;> exact ⟨by unfold Wd; decide, by unfold finW magW; decide⟩
  have := ib_fo8 1 1 (kvz 1 awL) (by decide) (by decide) (by decide) 35 (by decide) h EB (Nat.le_trans EB5 (by decide)) (kvz_EB 1 awL hF (by decide))
  have q : ib 1 1 = some (false, 1, 32) := by kernel_rfl
  rw [← this]
  exact q
theorem aw_fin : Fin9 awL := by
  intro x hx
  simp only [awL, List.mem_cons, List.not_mem_nil, or_false] at hx
  rcases hx with rfl | rfl | rfl <;> exact ⟨by unfold Wd; decide, by unfold finW magW; decide⟩
theorem aw_rd : rndS (some (false, 1, 32)) 0 = (4751297606875873280, 0) := by kernel_rfl
theorem aw_bd : bdW 1 awL = 4758053006316929024 := by
  unfold bdW
  rw [aw_tL, if_neg (by decide)]
  kernel_rfl
set_option maxHeartbeats 2000000 in
theorem awake9 (w : World) (hT : Tab w) : Calls Tryz.prog 19 #[] w fun r w' => r = .returned (.bool true) ∧ Below w.heap.size w w' := by
  have hF := aw_fin
  have f1 : Wd 4607182418800017408 ∧ finW 4607182418800017408 := hF _ (by simp [awL])
  have f2 : Wd 4458563631096791040 ∧ finW 4458563631096791040 := hF _ (by simp [awL])
  have f3 : Wd 4751297606876921856 ∧ finW 4751297606876921856 := hF _ (by simp [awL])
  have HN : Hid (Calls Tryz.prog 25 #[.int .i64 1] w fun r w' => r = .returned (.pointer (some ⟨w.heap.size, 0, none⟩)) ∧ Bs w' w.heap.size 1 0 (-1) (fun _ => 0) ∧ Below w.heap.size w w') := hid (New9 1 w (by decide) (by decide))
  have HN9 := hid (New9_no 9)
  have HA1 := hid (fun (u : World) (hB : Bz u w.heap.size 1 []) => Add9 4607182418800017408 f1 w.heap.size 1 [] u hB (fun x hx => by cases hx) (by decide) (by decide))
  have HA2 := hid (fun (u : World) (hB : Bz u w.heap.size 1 [4607182418800017408]) => Add9 4458563631096791040 f2 w.heap.size 1 [4607182418800017408] u hB (fun x hx => by obtain rfl := List.mem_singleton.1 hx; exact f1) (by decide) (by decide))
  have HA3 := hid (fun (u : World) (hB : Bz u w.heap.size 1 [4607182418800017408, 4458563631096791040]) => Add9 4751297606876921856 f3 w.heap.size 1 [4607182418800017408, 4458563631096791040] u hB (fun x hx => by
    simp only [List.mem_cons, List.not_mem_nil, or_false] at hx
    rcases hx with rfl | rfl
    · exact f1
    · exact f2) (by decide) (by decide))
  have HK : Hid (∀ u : World, Below w.heap.size w u → Bz u w.heap.size 1 awL → Calls Tryz.prog 69 #[.pointer (some ⟨w.heap.size, 0, none⟩)] u fun r w' => (∃ v, r = .returned (.agg #[.bool false, v, .int .i64 32]) ∧ Nt u.heap.size w' v 1) ∧ Below u.heap.size u w') := hid (fun u hu hB => by
    have := Kept9 w.heap.size 1 awL u hB hF (by decide) (hT.belows hu)
    rw [aw_form] at this
    exact this)
  have HR : Hid (∀ u : World, Below w.heap.size w u → Bz u w.heap.size 1 awL → Calls Tryz.prog 70 #[.pointer (some ⟨w.heap.size, 0, none⟩), .int .i64 0] u fun r w' => r = .returned (.tuple #[.float .f64 4751297606875873280, .int .i64 0]) ∧ Below u.heap.size u w') := hid (fun u hu hB => by
    have := Round9 w.heap.size 1 awL 0 u hB hF (by decide) (hT.belows hu)
    rw [aw_form, aw_rd] at this
    exact this)
  have HBd : Hid (∀ u : World, Below w.heap.size w u → Bz u w.heap.size 1 awL → Calls Tryz.prog 71 #[.pointer (some ⟨w.heap.size, 0, none⟩)] u fun r w' => r = .returned (.float .f64 4758053006316929024) ∧ Below u.heap.size u w') := hid (fun u hu hB => by
    have := Bound9 w.heap.size 1 awL u hB hF (by decide) (by decide) (hT.belows hu)
    rw [aw_bd] at this
    exact this)
  have HC : Hid (∀ u : World, Bz u w.heap.size 1 awL → Calls Tryz.prog 72 #[.pointer (some ⟨w.heap.size, 0, none⟩)] u fun r w' => r = .returned (.int .i64 3) ∧ w' = u) := hid (fun u hB => Count9 w.heap.size 1 awL u hB)
  have HFo : Hid (∀ u : World, Bz u w.heap.size 1 awL → Calls Tryz.prog 73 #[.pointer (some ⟨w.heap.size, 0, none⟩)] u fun r w' => r = .returned (.int .i64 1) ∧ w' = u) := hid (fun u hB => Fold9 w.heap.size 1 awL u hB)
  have hw1 : (ws 1).length = 1 := by kernel_rfl
  clear f1 f2 f3 hF
  go_enter Tryz.func19, Tryz.ntmps19
  go_wp2_with fail
  with_reducible refine HN.out.mono ?_
  rintro r u0 ⟨rfl, hB0, hb0⟩
  have H0 : Aside (Bz u0 w.heap.size 1 [] ∧ Below w.heap.size w u0) := ⟨hB0, hb0⟩
  clear hB0 hb0
  go_wp2_with fail
  with_reducible refine (HN9.out _ (.inr (by decide))).mono ?_
  rintro r u0' ⟨rfl, rfl⟩
  go_wp2_with fail
  with_reducible refine (HA1.out _ H0.out.1).mono ?_
  rintro r u1 ⟨rfl, hB, hbt⟩
  have H1 : Aside (Bz u1 w.heap.size 1 [4607182418800017408] ∧ Below w.heap.size w u1) := ⟨hB, But.below H0.out.2 hbt H0.out.2.size (Nat.le_refl _)⟩
  clear hB hbt
  go_wp2_with fail
  with_reducible refine (HA2.out _ H1.out.1).mono ?_
  rintro r u2 ⟨rfl, hB, hbt⟩
  have H2 : Aside (Bz u2 w.heap.size 1 [4607182418800017408, 4458563631096791040] ∧ Below w.heap.size w u2) := ⟨hB, But.below H1.out.2 hbt H1.out.2.size (Nat.le_refl _)⟩
  clear hB hbt
  go_wp2_with fail
  with_reducible refine (HA3.out _ H2.out.1).mono ?_
  rintro r u3 ⟨rfl, hB, hbt⟩
  have H3 : Aside (Bz u3 w.heap.size 1 awL ∧ Below w.heap.size w u3) := ⟨hB, But.below H2.out.2 hbt H2.out.2.size (Nat.le_refl _)⟩
  clear hB hbt HA1 HA2 HA3
  go_wp2_with fail
  with_reducible refine (HK.out _ H3.out.2 H3.out.1).mono ?_
  rintro r u4 ⟨⟨v1, rfl, hN1⟩, hb⟩
  obtain ⟨a1, c1, rfl, _⟩ := hN1.arg (by rw [hw1]; decide)
  rw [hw1]
  obtain ⟨U, hU⟩ : ∃ U, U = u4.alloc (.cells #[.bool false, .slice a1 1 c1, .int .i64 32] 33) := ⟨_, rfl⟩
  have HU : Aside (Bz U w.heap.size 1 awL ∧ Below w.heap.size w U ∧ Dk U u4.heap.size false (.slice a1 1 c1) 32) := by
    subst hU
    have h4 : Below w.heap.size w u4 := H3.out.2.trans (hb.mono H3.out.2.size)
    have hB4 := H3.out.1.below hb H3.out.1.lt
    exact ⟨hB4.below (below_alloc _ _) hB4.lt, h4.trans ((below_alloc _ _).mono h4.size), Dk.new _ _ _ _⟩
  clear hN1 hb H3 HK
  go_wp2_with fail
  rw [← hU]
  clear hU
  with_reducible refine (HR.out _ HU.out.2.1 HU.out.1).mono ?_
  rintro r u5 ⟨rfl, hb⟩
  have H5 : Aside (Bz u5 w.heap.size 1 awL ∧ Below w.heap.size w u5) := ⟨HU.out.1.below hb HU.out.1.lt, HU.out.2.1.trans (hb.mono HU.out.2.1.size)⟩
  obtain ⟨y0, y1, y2, yf0, yf1, yf2⟩ := (HU.out.2.2.below hb).facts
  clear hb HU HR
  go_wp2_with fail
  with_reducible refine (HBd.out _ H5.out.2 H5.out.1).mono ?_
  rintro r u6 ⟨rfl, hb⟩
  have H6 : Aside (Bz u6 w.heap.size 1 awL ∧ Below w.heap.size w u6) := ⟨H5.out.1.below hb H5.out.1.lt, H5.out.2.trans (hb.mono H5.out.2.size)⟩
  clear hb
  go_wp2_with fail
  with_reducible refine (HC.out _ H6.out.1).mono ?_
  rintro r u7 ⟨rfl, rfl⟩
  go_wp2_with fail
  with_reducible refine (HFo.out _ H6.out.1).mono ?_
  rintro r u8 ⟨rfl, rfl⟩
  go_wp2
  go_ret
  exact ⟨rfl, H6.out.2⟩
end Go.Proofs.YtjpaocgimdinmaaGreatDoor

/- Lists of bins in memory. -/
namespace Go.Proofs.YtjpaocgimdinmaaGreatDoor
open Go Go.RowKit
set_option linter.unusedVariables false
set_option maxRecDepth 20000
set_option linter.unusedSimpArgs false

def Pv (g : Nat) : Value := .pointer (some ⟨g, 0, none⟩)
/-- A slice of pointers, from wherever on in its row. -/
def Pp (lo : Nat) (w : World) (v : Value) (gs : List Nat) : Prop :=
  (v = .slice none 0 0 ∧ gs = []) ∨ ∃ b off cap, ∃ C : Array Value, v = .slice (some ⟨b, off, none⟩) gs.length cap ∧ lo ≤ b ∧ w.heap[b]? = some (.cells C 76 (0, 0)) ∧ gs.length ≤ cap ∧ off + cap ≤ C.size ∧ ∀ i, i < gs.length → C[off + i]? = some (Pv (gs.getD i 0))
theorem Tryz.info_p9 : (Tryz.prog.info? 76).map (fun i => (i.zero, i.size, i.bytes)) = some (some (.pointer none), 1, 8) := by kernel_rfl
theorem Tryz.desc_p9 : Tryz.prog.underlying 85 = some (.slice 76) := by kernel_rfl
theorem Pp.own {lo : Nat} {w : World} {v : Value} {n : Nat} {gs : List Nat} (h : w.ownsRow lo 76 1 v n (gs.map Pv)) (hn : n = gs.length) : Pp lo w v gs := by
  obtain ⟨h1, h2⟩ := h
  rcases h2 with ⟨rfl, rfl⟩ | ⟨g, cap, cur, rfl, hlo, hg, hc, hm, hs, ht⟩
  · exact .inl ⟨rfl, List.eq_nil_of_length_eq_zero hn.symm⟩
  · refine .inr ⟨g, 0, cap, cur, by rw [hn], hlo, hg, by omega, by omega, fun i hi => ?_⟩
    have e : (cur.toList.take (n * 1))[i]? = (gs.map Pv)[i]? := by rw [ht]
    rw [List.getElem?_take_of_lt (by omega)] at e
    rw [Nat.zero_add, ← Array.getElem?_toList, e, List.getElem?_map, List.getD_eq_getElem?_getD, List.getElem?_eq_getElem hi]
    rfl
theorem append_p9 (w : World) (lo : Nat) (v : Value) (gs : List Nat) (p s : Nat) (h : Pp lo w v gs) (hx : w.cell? ⟨s, 0, none⟩ = some (Pv p)) (hl : gs.length ≤ 1000) (hlo : lo ≤ w.heap.size) :
    ∃ v' w', (Builtin.append_ #[85, 85] 85 #[v, .slice (some ⟨s, 0, none⟩) 1 1]).run Tryz.prog w = .ok v' w' ∧ Pp lo w' v' (gs ++ [p]) ∧ w.grownBy w' v.ownBlock := by
  obtain ⟨i0, hi, hz0, hz1, hz2⟩ := info_parts Tryz.info_p9
  have hnew : ∀ j u, [Pv p][j]? = some u → w.cell? ((⟨s, 0, none⟩ : Addr).add j) = some u := by
    intro j u hj
    match j, hj with
    | 0, hj => simp at hj; subst hj; simpa [Addr.add] using hx
  have hone : ∀ u ∈ [Pv p], u.oneCell' = true := by intro u hu; simp at hu; subst hu; rfl
  rcases h with ⟨rfl, rfl⟩ | ⟨b, off, cap, C, rfl, hb, hg, hc, hs, hcell⟩
  · obtain ⟨v', w', r1, r2, r3, _, r5⟩ := run_append_own_at (P := Tryz.prog) w lo 85 85 76 i0 (.pointer none) 1 8 Tryz.desc_p9 hi hz0 hz1 hz2 rfl (by decide) (.slice none 0 0) 0 [] (World.ownsRow_nil w lo 76 1) ⟨s, 0, none⟩ 1 1 [Pv p] rfl hnew hone (by unfold maxLen; omega) (by omega) hlo
    exact ⟨v', w', r1, Pp.own (gs := [p]) r2 rfl, r3⟩
  · have hbl : Bl w b 76 C.toList := by unfold Bl; rw [hg]
    by_cases hroom : gs.length + 1 ≤ cap
    · have hr := run_append_room_cells (P := Tryz.prog) w 85 85 76 i0 Tryz.desc_p9 hi b off gs.length cap ⟨s, 0, none⟩ 1 1 [Pv p] (by rw [hz1]; rfl) hnew hone hroom (by
          intro j hj
          obtain rfl : j = 0 := by simp at hj; omega
          rw [hz1]
          rw [hbl.cell (off + gs.length * 1 + 0) (C[off + gs.length * 1 + 0]'(by omega)) (by rw [Array.getElem?_toList]; exact Array.getElem?_eq_getElem (by omega))]
          rfl) (by intro j hj; exact hbl.frozen _)
      refine ⟨_, _, hr, .inr ⟨b, off, cap, C.set (off + gs.length) (Pv p) (by omega), by simp, hb, ?_, by simp; omega, by simp; omega, ?_⟩, ?_⟩
      · rw [hz1, Nat.mul_one]
        have := hbl.set (off + gs.length) (Pv p)
        unfold Bl at this
        show ((w.setCell ⟨b, off + gs.length, none⟩ (Pv p)).heap)[b]? = _
        rw [this]
        congr 1
      · intro i hi2
        simp only [List.length_append, List.length_cons, List.length_nil] at hi2
        rw [Array.getElem?_set]
        by_cases q : i = gs.length
        · subst q; simp [List.getD_eq_getElem?_getD]
        · rw [if_neg (by omega), hcell i (by omega)]
          simp [List.getD_eq_getElem?_getD, List.getElem?_append_left (show i < gs.length by omega)]
      · have := But.setCells (g := b) [Pv p] (off + gs.length * i0.size) (But.refl b w)
        exact ⟨this.os, this.tape, this.output, this.size, fun k hk hne => this.block k hk (fun e => hne (by rw [e]; rfl))⟩
    · obtain ⟨v', w', r1, r2, r3⟩ := run_append_arg_grows (P := Tryz.prog) w 85 85 76 i0 (.pointer none) 1 8 Tryz.desc_p9 hi hz0 hz1 hz2 rfl (by decide) ⟨b, off, none⟩ gs.length cap (gs.map Pv) (by simp) (by
          intro j u hj
          rw [add_noneF]
          rw [List.getElem?_map] at hj
          obtain ⟨y, hy, rfl⟩ := Option.map_eq_some_iff.1 hj
          have hjl := (List.getElem?_eq_some_iff.1 hy).1
          refine hbl.cell _ _ ?_
          rw [Array.getElem?_toList, hcell j hjl, List.getD_eq_getElem?_getD, hy]
          rfl) ⟨s, 0, none⟩ 1 1 [Pv p] rfl hnew (by omega) (by unfold maxLen; omega) (by omega)
      refine ⟨v', w', r1, ?_, ⟨r3.os, r3.tape, r3.output, r3.size, fun k hk _ => r3.block k hk (by simp)⟩⟩
      have e : gs.map Pv ++ [Pv p] = (gs ++ [p]).map Pv := by simp
      rw [e] at r2
      have := Pp.own r2 (by simp)
      rcases this with ⟨q1, q2⟩ | ⟨b2, o2, c2, C2, q1, q2, q3⟩
      · exact .inl ⟨q1, q2⟩
      · exact .inr ⟨b2, o2, c2, C2, q1, by omega, q3⟩
/-- Bins in a slice: where each lies, and what was added to it. -/
structure Ml (lo f : Nat) (w : World) (v : Value) (P : List (Nat × List Nat)) : Prop where
  pp : Pp lo w v (P.map (·.1))
  bz : ∀ q ∈ P, Bz w q.1 f q.2 ∧ Fin9 q.2 ∧ lo ≤ q.1
  nd : (P.map (·.1)).Nodup
theorem Bz.keep {w w' : World} {g f : Nat} {L : List Nat} (h : Bz w g f L) (hb : w'.heap[g]? = w.heap[g]?) : Bz w' g f L := by
  unfold Bz Bs Bn Bl at h ⊢; rw [hb]; exact h
theorem Pp.keep {lo : Nat} {w w' : World} {v : Value} {gs : List Nat} (h : Pp lo w v gs) (hb : ∀ b, v.ownBlock = some b → w'.heap[b]? = w.heap[b]?) : Pp lo w' v gs := by
  rcases h with h | ⟨b, off, cap, C, rfl, h1, h2, h3⟩
  · exact .inl h
  · exact .inr ⟨b, off, cap, C, rfl, h1, by rw [hb b rfl]; exact h2, h3⟩
theorem Pp.blk {lo : Nat} {w : World} {v : Value} {gs : List Nat} (h : Pp lo w v gs) {b : Nat} (hb : v.ownBlock = some b) : ∃ C : Array Value, w.heap[b]? = some (.cells C 76 (0, 0)) := by
  rcases h with ⟨rfl, _⟩ | ⟨b', off, cap, C, rfl, h1, h2, h3⟩
  · cases hb
  · cases hb; exact ⟨C, h2⟩
theorem Bz.ne {w : World} {g f b : Nat} {L : List Nat} (h : Bz w g f L) {C : Array Value} (hb : w.heap[b]? = some (.cells C 76 (0, 0))) : g ≠ b := by
  rintro rfl
  unfold Bz Bs Bn Bl at h
  rw [h] at hb
  cases hb
theorem Ml.below {lo f : Nat} {w w' : World} {v : Value} {P : List (Nat × List Nat)} (h : Ml lo f w v P) (hb : Below w.heap.size w w') : Ml lo f w' v P :=
  ⟨h.pp.keep (fun b hv => by obtain ⟨C, hC⟩ := h.pp.blk hv; exact hb.block b (Array.getElem?_eq_some_iff.1 hC).1), fun q hq => ⟨(h.bz q hq).1.below hb (h.bz q hq).1.lt, (h.bz q hq).2⟩, h.nd⟩
/-- One more. -/
theorem Ml.more {lo f : Nat} {w w' : World} {v v' : Value} {P : List (Nat × List Nat)} {g : Nat} {L : List Nat} (h : Ml lo f w v P) (hg : w.grownBy w' v.ownBlock) (hp : Pp lo w' v' (P.map (·.1) ++ [g])) (hB : Bz w g f L) (hF : Fin9 L) (hlo : lo ≤ g) (hn : g ∉ P.map (·.1)) : Ml lo f w' v' (P ++ [(g, L)]) := by
  have kp : ∀ g' L', Bz w g' f L' → Bz w' g' f L' := fun g' L' hb => hb.keep (hg.block g' hb.lt (fun e => by
    obtain ⟨C, hC⟩ := h.pp.blk e.symm
    exact hb.ne hC rfl))
  refine ⟨by rw [List.map_append]; exact hp, fun q hq => ?_, ?_⟩
  · rcases List.mem_append.1 hq with hq | hq
    · exact ⟨kp _ _ (h.bz q hq).1, (h.bz q hq).2⟩
    · obtain rfl := List.mem_singleton.1 hq
      exact ⟨kp _ _ hB, hF, hlo⟩
  · rw [List.map_append]
    refine List.nodup_append.2 ⟨h.nd, by simp, ?_⟩
    intro a ha b hb
    simp at hb
    subst hb
    rintro rfl
    exact hn ha
end Go.Proofs.YtjpaocgimdinmaaGreatDoor

/- Bins alike: plainly. -/
namespace Go.Proofs.YtjpaocgimdinmaaGreatDoor
open Go Go.RowKit
set_option linter.unusedVariables false
set_option maxRecDepth 20000
set_option linter.unusedSimpArgs false

theorem kvz_perm (f : Nat) {L M : List Nat} (h : L.Perm M) : kvz f L = kvz f M := by
  have hz : (ZL L).Perm (ZL M) := h.map _
  have e : SL (ZL L) = SL (ZL M) := funext (fun t => SL_perm hz t)
  unfold kvz
  rw [tL_perm hz, e]
theorem bdW_perm (f : Nat) {L M : List Nat} (h : L.Perm M) : bdW f L = bdW f M := by
  have hz : (ZL L).Perm (ZL M) := h.map _
  unfold bdW
  rw [tL_perm hz, h.length_eq]
theorem sum_fv (L : List Nat) : sumL (ZL L) = fvL L * 16384 := by
  induction L with
  | nil => rfl
  | cons x L ih =>
    show zW x + sumL (ZL L) = (fvW x + fvL L) * 16384
    rw [ih, Int.add_mul]; rfl
theorem fo8_cmp (V U : Int) (m : Nat) (hm : m ≤ 200000) (hV : V.natAbs < 2 ^ m) (hU : U.natAbs < 2 ^ m) : cmpV (dN (fo8 V)) (dX (fo8 V)) (dE (fo8 V)) (dN (fo8 U)) (dX (fo8 U)) (dE (fo8 U)) = cmpZ V U := by
  have h1 := fo8_fo V m hm hV
  have h2 := fo8_fo U m hm hU
  obtain ⟨n, X, e, q1, F, _⟩ := fo8_frm V m hm hV
  obtain ⟨n', X', e', q2, F', _⟩ := fo8_frm U m hm hU
  rw [q1] at h1 ⊢
  rw [q2] at h2 ⊢
  show cmpV n X e n' X' e' = _
  rw [cmp_fo h1 h2, cmpZ_scale V U UU U_pos]
theorem fv_EB {x : Nat} (h : Wd x ∧ finW x) : (fvW x).natAbs < 2 ^ EB := by
  obtain ⟨m, hm⟩ : ∃ m : Nat, m = 2098 := ⟨_, rfl⟩
  obtain ⟨b, hb⟩ : ∃ b : Nat, b = EB := ⟨_, rfl⟩
  have := top_fv h.1 h.2 m hm
  rw [← hb]
  exact Nat.lt_of_lt_of_le this (Nat.pow_le_pow_right (by decide) (by rw [hm, hb]; decide))
theorem pos_word {K : Nat} (hK : K < 9218868437227405312) : negW K = false ∧ magW K = K ∧ (Wd K ∧ finW K) ∧ fvW K = (vK K : Int) := by
  have h1 : negW K = false := by unfold negW; simp; omega
  have h2 : magW K = K := by unfold magW; omega
  refine ⟨h1, h2, ⟨by unfold Wd; omega, by unfold finW; rw [h2]; exact hK⟩, ?_⟩
  unfold fvW
  rw [h1, h2]; rfl
/-- How far what is kept may be from the sum. -/
theorem alike_bound (f : Nat) (L : List Nat) (hf0 : 1 ≤ f) (hf : f ≤ 8) (hF : Fin9 L) (hl : L.length ≤ 1099511627776) (hT : 0 ≤ tL (ZL L)) :
    bdW f L ≤ 9218868437227405312 ∧ (bdW f L < 9218868437227405312 → 0 < fvW (bdW f L) ∧ ((fvL L - kvz f L).natAbs : Int) < fvW (bdW f L)) := by
  have b2 := tL_hi L hF
  have hne : L ≠ [] := by rintro rfl; revert hT; decide
  have hlen : 1 ≤ L.length := by
    rcases Nat.eq_zero_or_pos L.length with q | q
    · exact absurd (List.eq_nil_of_length_eq_zero q) hne
    · exact q
  have hj : -1000 ≤ tL (ZL L) - 34 - f + 1 ∧ tL (ZL L) - 34 - f + 1 ≤ 1000 := by omega
  obtain ⟨X, e, s1, s2, s3, F, hX, s6, s7⟩ := ib_sz (L.length : Nat) (tL (ZL L) - 34 - f + 1) (by omega) (by omega) (by omega) hj (32 * (tL (ZL L) - 34 - f + 1)) (.inl rfl)
  have hdec : decide (((L.length : Nat) : Int) < 0) = false := by simp
  have hib : ib (L.length : Nat) (tL (ZL L) - 34 - f + 1) = some (false, X, e) := by unfold ib; rw [s1, hdec]
  rw [hdec] at F
  have hbd : bdW f L = rW 2 false X e := by
    unfold bdW
    rw [if_neg (by omega), hib, rndS_form 2 false X e (by omega) (by omega)]
    unfold rS wd64
    rw [if_neg hX]
    simp
  have hle := rW_le 2 false X e F
  rw [hbd]
  refine ⟨hle, fun hK => ?_⟩
  obtain ⟨p1, p2, p3, p4⟩ := pos_word hK
  have hu := near_up F hK
  have hrs : rS false X = false := by unfold rS; rw [if_neg hX]
  rw [hrs] at hu
  have hof : ofK false (rW 2 false X e) = fo8 (fvW (rW 2 false X e)) := by
    have := of_fo8 p3.1 p3.2
    rw [p1, p2] at this
    exact this
  rw [hof] at hu
  have hoff := kv_off (ZL L) (ZL_div L) f hf
  rw [sum_fv] at hoff
  have hoff2 : (fvL L - kvz f L) * 16384 = lowB (ZL L) (tL (ZL L) + 1 - f).toNat := by
    rw [Int.sub_mul]; unfold kvz; omega
  by_cases hc : tL (ZL L) + 1 ≤ f
  · rw [show (tL (ZL L) + 1 - (f : Int)).toNat = 0 by omega, lowB_zero] at hoff2
    have hz : fvL L - kvz f L = 0 := by omega
    have hpos : 0 < fvW (rW 2 false X e) := by
      by_cases q : fvW (rW 2 false X e) = 0
      · exfalso
        rw [q] at hu
        have e0 : fo8 0 = some (false, 0, 0) := mkS_zero _ _
        rw [e0] at hu
        have : cmpV false 0 0 false X e = -1 := by
          unfold cmpV sgn
          rw [if_pos rfl, if_neg hX]
          simp
        rw [show cmpV (dN (some (false, 0, 0))) (dX (some (false, 0, 0))) (dE (some (false, 0, 0))) false X e = -1 from this] at hu
        omega
      · rw [p4] at q ⊢; omega
    exact ⟨hpos, by rw [hz]; exact hpos⟩
  · obtain ⟨c, hcc⟩ : ∃ c : Nat, tL (ZL L) + 1 - f = c := ⟨(tL (ZL L) + 1 - f).toNat, by omega⟩
    have hV := vb_mul c (L.length : Nat) (fun q => by omega)
    have hVb := vb_EB c (L.length : Nat) (by omega) (by omega)
    have hfo := ib_fo8 (L.length : Nat) (tL (ZL L) - 34 - f + 1) (vb c (L.length : Nat)) (by omega) (by omega) hj c (by omega) hV EB (Nat.le_trans EB5 (by decide)) hVb
    rw [hib] at hfo
    have hu2 : 0 ≤ cmpV (dN (fo8 (fvW (rW 2 false X e)))) (dX (fo8 (fvW (rW 2 false X e)))) (dE (fo8 (fvW (rW 2 false X e)))) (dN (fo8 (vb c (L.length : Nat)))) (dX (fo8 (vb c (L.length : Nat)))) (dE (fo8 (vb c (L.length : Nat)))) := by
      rw [← hfo]; exact hu
    rw [fo8_cmp _ _ EB (Nat.le_trans EB5 (by decide)) (fv_EB p3) hVb] at hu2
    have hge := cmpZ_ge.1 hu2
    rw [show (tL (ZL L) + 1 - (f : Int)).toNat = c by omega] at hoff2
    have hneZ : ZL L ≠ [] := by intro q; exact hne (List.map_eq_nil_iff.1 q)
    have hlow := lowB_abs (ZL L) c hneZ
    rw [show (ZL L).length = L.length from List.length_map ..] at hlow
    have e4 : ((L.length * 2 ^ (32 * c) : Nat) : Int) = vb c (L.length : Nat) * 16384 := by rw [hV, Int.natCast_mul]
    obtain ⟨Z, hZ⟩ : ∃ Z : Nat, Z = L.length * 2 ^ (32 * c) := ⟨_, rfl⟩
    rw [← hZ] at hlow e4
    have hp : 0 < Z := by omega
    constructor <;> omega
theorem alike_none (f : Nat) (L : List Nat) (hT : tL (ZL L) = -1) : bdW f L = 0 ∧ fvL L = 0 ∧ kvz f L = 0 := by
  have hz := tL_none (ZL L) hT
  have h1 : ∀ M : List Int, (∀ z ∈ M, z = 0) → sumL M = 0 ∧ ∀ t, SL M t = 0 := by
    intro M
    induction M with
    | nil => intro _; exact ⟨rfl, fun _ => rfl⟩
    | cons z M ih =>
      intro h
      obtain ⟨q1, q2⟩ := ih (fun y hy => h y (List.mem_cons_of_mem _ hy))
      have hz0 := h z (List.mem_cons_self ..)
      subst hz0
      refine ⟨by show 0 + sumL M = 0; omega, fun t => ?_⟩
      show ss 0 t + SL M t = 0
      have : ss 0 t = 0 := by unfold ss sl; simp
      rw [this, q2 t]; rfl
  obtain ⟨q1, q2⟩ := h1 (ZL L) hz
  refine ⟨by unfold bdW; rw [if_pos hT], ?_, ?_⟩
  · have := sum_fv L; omega
  · unfold kvz
    have e : kf f (tL (ZL L)) (SL (ZL L)) = fun _ => 0 := by funext k; unfold kf; split; exact q2 _; rfl
    rw [e]
    have hk : ∀ n, kv (tL (ZL L)) (fun _ => 0) n = 0 := by
      intro n
      induction n with
      | zero => rfl
      | succ n ih => show kv (tL (ZL L)) (fun _ => 0) n + vb _ 0 = 0; rw [ih, vb_zero]; rfl
    exact hk 8
theorem fvL_perm {L M : List Nat} (h : L.Perm M) : fvL L = fvL M := by
  have h1 := sum_fv L
  have h2 := sum_fv M
  have h3 := sumL_perm (h.map zW)
  have h4 : sumL (ZL L) = sumL (ZL M) := h3
  omega
theorem fvL_EB (L : List Nat) (hF : Fin9 L) (hl : L.length ≤ 4000) : (fvL L).natAbs < 2 ^ EB := by
  obtain ⟨m, hm⟩ : ∃ m : Nat, m = 2098 := ⟨_, rfl⟩
  obtain ⟨b, hb⟩ : ∃ b : Nat, b = EB := ⟨_, rfl⟩
  have h1 : ∀ M : List Nat, Fin9 M → (fvL M).natAbs ≤ M.length * 2 ^ m := by
    intro M
    induction M with
    | nil => intro _; simp [fvL]
    | cons x M ih =>
      intro h
      have h2 := ih (fun y hy => h y (List.mem_cons_of_mem _ hy))
      have h3 := h x (List.mem_cons_self ..)
      have h4 := top_fv h3.1 h3.2 m hm
      show (fvW x + fvL M).natAbs ≤ (M.length + 1) * 2 ^ m
      rw [Nat.succ_mul]
      omega
  have h2 := h1 L hF
  rw [← hb]
  have h3 : L.length * 2 ^ m ≤ 4096 * 2 ^ m := Nat.mul_le_mul_right _ (by omega)
  have h4 : 4096 * 2 ^ m = 2 ^ (12 + m) := by rw [Nat.pow_add]
  have h5 : 2 ^ (12 + m) < 2 ^ b := Nat.pow_lt_pow_right (by decide) (by rw [hm, hb]; decide)
  omega
end Go.Proofs.YtjpaocgimdinmaaGreatDoor

/- Bins alike: what the walk needs. -/
namespace Go.Proofs.YtjpaocgimdinmaaGreatDoor
open Go Go.RowKit
set_option linter.unusedVariables false
set_option maxRecDepth 20000
set_option linter.unusedSimpArgs false

/-- A list from behind. -/
def bk (xs : List Nat) (n k : Nat) : List Nat := (List.range k).map (fun j => xs.getD (n - 1 - j) 0)
theorem bk_len (xs : List Nat) (n k : Nat) : (bk xs n k).length = k := by unfold bk; simp
theorem bk_succ (xs : List Nat) (n k : Nat) : bk xs n (k + 1) = bk xs n k ++ [xs.getD (n - 1 - k) 0] := by unfold bk; rw [List.range_succ, List.map_append]; rfl
theorem bk_all (xs : List Nat) (n : Nat) (hn : n = xs.length) : bk xs n n = xs.reverse := by
  subst hn
  have h : ∀ k, k ≤ xs.length → bk xs xs.length k = (xs.drop (xs.length - k)).reverse := by
    intro k
    induction k with
    | zero => intro _; simp [bk]
    | succ k ih =>
      intro hk
      rw [bk_succ, ih (by omega), List.drop_eq_getElem_cons (show xs.length - (k + 1) < xs.length by omega), List.reverse_cons, show xs.length - (k + 1) + 1 = xs.length - k by omega]
      congr 2
      rw [List.getD_eq_getElem?_getD, show xs.length - 1 - k = xs.length - (k + 1) by omega, List.getElem?_eq_getElem (by omega)]
      rfl
  have := h xs.length (Nat.le_refl _)
  rw [Nat.sub_self, List.drop_zero] at this
  exact this
theorem Fs.move {B : Nat} {w w' : World} {ao : Option Addr} {xs : List Nat} (h : Fs B w ao xs) (hb : Below B w w') (hB : B ≤ w'.heap.size) : Fs w'.heap.size w' ao xs := fun hne => by
  obtain ⟨b, off, h1, h2, h3⟩ := h hne
  exact ⟨b, off, by omega, h2, fun i hi => (hb.cell (p := ⟨b, off + i, none⟩) h1).trans (h3 i hi)⟩
theorem Fr.fs {lo : Nat} {w : World} {v : Value} {L : List Nat} (h : Fr lo w v L) : ∃ ao cap, v = .slice ao L.length cap ∧ Fs w.heap.size w ao L := by
  rcases h.shape with ⟨rfl, rfl⟩ | ⟨g, cap, rfl, _, hg, _, _, hc⟩
  · exact ⟨none, 0, rfl, fun hne => absurd rfl hne⟩
  · exact ⟨_, _, rfl, fun _ => ⟨g, 0, hg, rfl, fun i hi => by rw [Nat.zero_add]; exact hc i hi⟩⟩
/-- The one list and the other. -/
theorem back_perm (xs : List Nat) (n : Nat) (hn : n = xs.length) : (pkc (fx xs.reverse) 1 0 n).Perm (pkc (fx xs) 1 0 n) := by
  have e1 := pkc_flat (fx xs) xs fz (fun i _ => rfl) n (by omega)
  have e2 := pkc_flat (fx xs.reverse) xs.reverse fz (fun i _ => rfl) n (by rw [List.length_reverse]; omega)
  have t1 : xs.take n = xs := List.take_of_length_le (by omega)
  have t2 : xs.reverse.take n = xs.reverse := List.take_of_length_le (by rw [List.length_reverse]; omega)
  rw [e1, e2, t1, t2]
  exact flat_rev xs fz (fun x => by unfold fz; split <;> simp)
theorem wp_append9 {w : World} {o : Oper} {a : Act} {K : Act → World → Prop} {Q : Exit → Act → World → Prop} (s x : Operand) (t : TypeId)
    (ho : o.op = .call { callee := .builtin .append, args := #[s, x], argTypes := #[t, t] }) (v u : Value) (hs : a.eval s = v) (hx : a.eval x = u) (v' : Value) (w' : World)
    (hrun : (Builtin.append_ #[t, t] o.type #[v, u]).run Tryz.prog w = .ok v' w') (h : K (a.put o.dst v') w') : Oper.wp Tryz.prog o a w K Q := by
  unfold Oper.wp
  simp [execOp, ho, resolve, invoke, builtin, hs, hx, hrun, Result.andThen]
  exact h
theorem Pp.lo {lo : Nat} {w : World} {v : Value} {gs : List Nat} (h : Pp lo w v gs) {b : Nat} (hb : v.ownBlock = some b) : lo ≤ b := by
  rcases h with ⟨rfl, _⟩ | ⟨b', off, cap, C, rfl, h1, h2, h3⟩
  · cases hb
  · cases hb; exact h1
theorem Bz.drew {w : World} {g f : Nat} {L : List Nat} (h : Bz w g f L) : Bz w.drew g f L := h
theorem ite_mp9 {c : Prop} [Decidable c] {A B : Prop} (hc : c) (h : A) : if c then A else B := by rw [if_pos hc]; exact h
theorem same9 {w : World} {a b : Option Addr} {c d X : Nat} {n : Bool} {e : Int} (h1 : Arg w a (ws X).length c (ws X)) (h2 : Arg w b (ws X).length d (ws X)) (hl : (ws X).length ≤ 8192) :
    Calls Tryz.prog 22 #[.agg #[.bool n, .slice a (ws X).length c, .int .i64 e], .agg #[.bool n, .slice b (ws X).length d, .int .i64 e]] w fun r w' => r = .returned (.bool true) ∧ Below w.heap.size w w' :=
  rSame3_any n e (ws X) a b (ws X).length c d w rfl (Nat.le_trans h1.big (by decide)) h1.rd h2.rd
attribute [local go_sem] B.f64bits in
set_option maxHeartbeats 400000 in
theorem alike_any (x : Nat) (w : World) : Calls Tryz.prog 29 #[.float .f64 x, .float .f64 x] w fun r w' => r = .returned (.bool true) ∧ w' = w := by
  go_enter Tryz.func29, Tryz.ntmps29
  go_wp2
  go_ret
  exact ⟨by simp, rfl⟩
theorem W64.rev {xs : List Nat} (h : W64 xs) : W64 xs.reverse := fun y hy => h y (List.mem_reverse.1 hy)
theorem len_rev9 {xs : List Nat} {n : Nat} (h : n = xs.length) : n = xs.reverse.length := by rw [List.length_reverse]; exact h
end Go.Proofs.YtjpaocgimdinmaaGreatDoor

/- The document's dyads by value. -/
namespace Go.Proofs.YtjpaocgimdinmaaGreatDoor
open Go Go.RowKit
set_option linter.unusedVariables false
set_option maxRecDepth 20000
set_option linter.unusedSimpArgs false

theorem rof8 (x : Nat) (hx : Wd x ∧ finW x) (w : World) :
    Calls Tryz.prog 30 #[.float .f64 x] w fun r w' => (∃ v, r = .returned (.tuple #[.agg #[.bool (dN (fo8 (fvW x))), v, .int .i64 (dE (fo8 (fvW x)))], .int .i64 0]) ∧ Nt w.heap.size w' v (dX (fo8 (fvW x)))) ∧ Below w.heap.size w w' := by
  obtain ⟨h1, h2, h3, _⟩ := wd64_bw (negW x) (magW x) (Nat.le_of_lt hx.2)
  have := rOf3_any (negW x) (magW x / 4503599627370496) (magW x % 4503599627370496) h2 h3 w
  rw [← h1, ← wd_of x hx.1] at this
  refine this.mono ?_
  rintro r w' ⟨⟨v, rfl, hN⟩, hb⟩
  have e := of_fo8 hx.1 hx.2
  unfold ofK at e
  rw [e] at hN ⊢
  have he : ofE (magW x / 4503599627370496) = 0 := by unfold ofE; rw [if_neg (by have := hx.2; omega)]
  rw [he]
  exact ⟨⟨v, rfl, hN⟩, hb⟩
theorem radd8 (V U : Int) (m : Nat) (hm : m ≤ 100000) (hV : V.natAbs < 2 ^ m) (hU : U.natAbs < 2 ^ m) (w : World) (a b : Option Addr) (c d : Nat) (h1 : Arg w a (ws (dX (fo8 V))).length c (ws (dX (fo8 V)))) (h2 : Arg w b (ws (dX (fo8 U))).length d (ws (dX (fo8 U)))) :
    Calls Tryz.prog 31 #[.agg #[.bool (dN (fo8 V)), .slice a (ws (dX (fo8 V))).length c, .int .i64 (dE (fo8 V))], .agg #[.bool (dN (fo8 U)), .slice b (ws (dX (fo8 U))).length d, .int .i64 (dE (fo8 U))]] w fun r w' =>
      (∃ v, r = .returned (.tuple #[.agg #[.bool (dN (fo8 (V + U))), v, .int .i64 (dE (fo8 (V + U)))], .int .i64 0]) ∧ Nt w.heap.size w' v (dX (fo8 (V + U)))) ∧ Below w.heap.size w w' := by
  obtain ⟨l1, l2, l3, _⟩ := fo8_len V m (by omega) hV
  obtain ⟨k1, k2, k3, _⟩ := fo8_len U m (by omega) hU
  have := rAdd_any3 h1 h2 (by omega) (by omega) (dN (fo8 V)) (dN (fo8 U)) (dE (fo8 V)) (dE (fo8 U)) l2 l3 k2 k3
  rw [val_ws, val_ws, fo8_self V m (by omega) hV, fo8_self U m (by omega) hU, fo8_add V U m hm hV hU] at this
  refine this.mono ?_
  rintro r w' ⟨⟨v, rfl, hN⟩, hb⟩
  have e2 : 2 ^ (m + 1) = 2 * 2 ^ m := by rw [Nat.pow_succ, Nat.mul_comm]
  rw [fo8_er (V + U) (m + 1) (by omega) (by omega)]
  exact ⟨⟨v, rfl, hN⟩, hb⟩
theorem rsub8 (V U : Int) (m : Nat) (hm : m ≤ 100000) (hV : V.natAbs < 2 ^ m) (hU : U.natAbs < 2 ^ m) (w : World) (a b : Option Addr) (c d : Nat) (h1 : Arg w a (ws (dX (fo8 V))).length c (ws (dX (fo8 V)))) (h2 : Arg w b (ws (dX (fo8 U))).length d (ws (dX (fo8 U)))) :
    Calls Tryz.prog 32 #[.agg #[.bool (dN (fo8 V)), .slice a (ws (dX (fo8 V))).length c, .int .i64 (dE (fo8 V))], .agg #[.bool (dN (fo8 U)), .slice b (ws (dX (fo8 U))).length d, .int .i64 (dE (fo8 U))]] w fun r w' =>
      (∃ v, r = .returned (.tuple #[.agg #[.bool (dN (fo8 (V - U))), v, .int .i64 (dE (fo8 (V - U)))], .int .i64 0]) ∧ Nt w.heap.size w' v (dX (fo8 (V - U)))) ∧ Below w.heap.size w w' := by
  obtain ⟨l1, l2, l3, _⟩ := fo8_len V m (by omega) hV
  obtain ⟨k1, k2, k3, _⟩ := fo8_len U m (by omega) hU
  have := rSub_any3 h1 h2 (by omega) (by omega) (dN (fo8 V)) (dN (fo8 U)) (dE (fo8 V)) (dE (fo8 U)) l2 l3 k2 k3
  rw [val_ws, val_ws, fo8_self V m (by omega) hV, fo8_neg U m (by omega) hU, fo8_add V (-U) m hm hV (by omega), show V + -U = V - U by omega] at this
  refine this.mono ?_
  rintro r w' ⟨⟨v, rfl, hN⟩, hb⟩
  have e2 : 2 ^ (m + 1) = 2 * 2 ^ m := by rw [Nat.pow_succ, Nat.mul_comm]
  rw [fo8_er (V - U) (m + 1) (by omega) (by omega)]
  exact ⟨⟨v, rfl, hN⟩, hb⟩
theorem rround8 (V : Int) (m : Nat) (hm : m ≤ 100000) (hV : V.natAbs < 2 ^ m) (mode : Int) (w : World) (a : Option Addr) (c : Nat) (h1 : Arg w a (ws (dX (fo8 V))).length c (ws (dX (fo8 V)))) :
    Calls Tryz.prog 124 #[.agg #[.bool (dN (fo8 V)), .slice a (ws (dX (fo8 V))).length c, .int .i64 (dE (fo8 V))], .int .i64 mode] w fun r w' =>
      r = .returned (.tuple #[.float .f64 (rndS (fo8 V) mode).1, .int .i64 (rndS (fo8 V) mode).2]) ∧ Below w.heap.size w w' := by
  obtain ⟨l1, l2, l3, _⟩ := fo8_len V m (by omega) hV
  have := rRound_any h1 (by omega) (dN (fo8 V)) (dE (fo8 V)) mode l2 l3
  rw [val_ws, fo8_self V m (by omega) hV] at this
  exact this
/-- Of, of what is no finite number. -/
theorem rof9_odd (x : Nat) (hx : Wd x ∧ ¬ finW x) (w : World) :
    Calls Tryz.prog 30 #[.float .f64 x] w fun r w' => (∃ v n X e, r = .returned (.tuple #[.agg #[.bool n, v, .int .i64 e], .int .i64 30]) ∧ Nt w.heap.size w' v X ∧ (ws X).length ≤ 8192) ∧ Below w.heap.size w w' := by
  have hm : ¬ magW x < 9218868437227405312 := hx.2
  have hm2 : magW x < 9223372036854775808 := by unfold magW; omega
  have h1 : x = B.bw (negW x) (magW x / 4503599627370496) (magW x % 4503599627370496) := by
    have := wd_of x hx.1
    unfold wd64 at this
    unfold B.bw
    cases h : negW x <;> simp only [h] at this ⊢ <;> simp at this ⊢ <;> omega
  have := rOf3_any (negW x) (magW x / 4503599627370496) (magW x % 4503599627370496) (by omega) (by omega) w
  rw [← h1] at this
  refine this.mono ?_
  rintro r w' ⟨⟨v, rfl, hN⟩, hb⟩
  have he : ofE (magW x / 4503599627370496) = 30 := by unfold ofE; rw [if_pos (by omega)]
  have hr : ofR (negW x) (magW x / 4503599627370496) (magW x % 4503599627370496) = some (false, 0, 0) ∨ ofR (negW x) (magW x / 4503599627370496) (magW x % 4503599627370496) = none := by
    unfold ofR
    rw [if_pos (by omega)]
    first | exact .inl rfl | exact .inr rfl
  rw [he]
  refine ⟨⟨v, _, _, _, rfl, hN, ?_⟩, hb⟩
  rcases hr with hr | hr <;> rw [hr] <;> exact frmLen (mkS_frm (mkS_zero false 0))
theorem rneg9 (V : Int) (m : Nat) (hm : m ≤ 100000) (hV : V.natAbs < 2 ^ m) (w : World) (a : Option Addr) (c : Nat) (h1 : Arg w a (ws (dX (fo8 V))).length c (ws (dX (fo8 V)))) :
    Calls Tryz.prog 33 #[.agg #[.bool (dN (fo8 V)), .slice a (ws (dX (fo8 V))).length c, .int .i64 (dE (fo8 V))]] w fun r w' => (∃ v, r = .returned (.agg #[.bool (dN (fo8 (-V))), v, .int .i64 (dE (fo8 (-V)))]) ∧ Nt w.heap.size w' v (dX (fo8 (-V)))) ∧ Below w.heap.size w w' := by
  obtain ⟨l1, l2, l3, _⟩ := fo8_len V m (by omega) hV
  have := rNeg_any h1 (by omega) (dN (fo8 V)) (dE (fo8 V)) l2 l3
  rw [val_ws, fo8_neg V m (by omega) hV] at this
  exact this
theorem rsign9 (V : Int) (m : Nat) (hm : m ≤ 100000) (hV : V.natAbs < 2 ^ m) (w : World) (a : Option Addr) (c : Nat) (h1 : Arg w a (ws (dX (fo8 V))).length c (ws (dX (fo8 V)))) :
    Calls Tryz.prog 34 #[.agg #[.bool (dN (fo8 V)), .slice a (ws (dX (fo8 V))).length c, .int .i64 (dE (fo8 V))]] w fun r w' => (∃ z, r = .returned (.int .i64 z) ∧ ((z == 0) = decide (V = 0))) ∧ Below w.heap.size w w' := by
  have := rSign_any3 h1 (dN (fo8 V)) (dE (fo8 V))
  refine this.mono ?_
  rintro r w' ⟨rfl, hb⟩
  refine ⟨⟨_, rfl, ?_⟩, hb⟩
  rw [val_ws]
  obtain ⟨n, X, e, q1, F, q2, _⟩ := fo8_frm V m (by omega) hV
  rw [q1]
  show (sgn n X == 0) = decide (V = 0)
  unfold sgn
  by_cases h : X = 0
  · rw [if_pos h]; simp [q2.1 h]
  · rw [if_neg h]
    have : ¬ V = 0 := fun q => h (q2.2 q)
    cases n <;> simp [this]
theorem rcmp9 (V U : Int) (m : Nat) (hm : m ≤ 100000) (hV : V.natAbs < 2 ^ m) (hU : U.natAbs < 2 ^ m) (w : World) (a b : Option Addr) (c d : Nat) (h1 : Arg w a (ws (dX (fo8 V))).length c (ws (dX (fo8 V)))) (h2 : Arg w b (ws (dX (fo8 U))).length d (ws (dX (fo8 U)))) :
    Calls Tryz.prog 35 #[.agg #[.bool (dN (fo8 V)), .slice a (ws (dX (fo8 V))).length c, .int .i64 (dE (fo8 V))], .agg #[.bool (dN (fo8 U)), .slice b (ws (dX (fo8 U))).length d, .int .i64 (dE (fo8 U))]] w fun r w' => r = .returned (.int .i64 (cmpZ V U)) ∧ Below w.heap.size w w' := by
  obtain ⟨l1, l2, l3, _⟩ := fo8_len V m (by omega) hV
  obtain ⟨k1, k2, k3, _⟩ := fo8_len U m (by omega) hU
  have := rCmp_any3 h1 h2 (by omega) (by omega) (dN (fo8 V)) (dN (fo8 U)) (dE (fo8 V)) (dE (fo8 U)) l2 l3 k2 k3
  rw [val_ws, val_ws, fo8_cmp V U m (by omega) hV hU] at this
  exact this
/-- While the document's sum is made. -/
structure Sm (w : World) (L : List Nat) (G K : Nat) (nV : Bool) (vV : Value) (eV : Int) (XV : Nat) (u : World) : Prop where
  sum : ∃ v, Dk u G (dN (fo8 (fvL L))) v (dE (fo8 (fvL L))) ∧ Nt w.heap.size u v (dX (fo8 (fvL L)))
  kd : Dk u K nV vV eV
  kn : Nt w.heap.size u vV XV
  bel : Below w.heap.size w u
  ne : K ≠ G
  lo : w.heap.size ≤ G
theorem Sm.below {w : World} {L : List Nat} {G K : Nat} {nV : Bool} {vV : Value} {eV : Int} {XV : Nat} {u u' : World} (h : Sm w L G K nV vV eV XV u) (hb : Below u.heap.size u u') : Sm w L G K nV vV eV XV u' := by
  obtain ⟨v, h1, h2⟩ := h.sum
  exact ⟨⟨v, h1.below hb, h2.below hb⟩, h.kd.below hb, h.kn.below hb, h.bel.trans (hb.mono h.bel.size), h.ne, h.lo⟩
theorem Sm.set {w : World} {L M : List Nat} {G K : Nat} {nV : Bool} {vV : Value} {eV : Int} {XV : Nat} {u : World} (h : Sm w L G K nV vV eV XV u) {v : Value} (hN : Nt w.heap.size u v (dX (fo8 (fvL M)))) : Sm w M G K nV vV eV XV (st3 u G (.bool (dN (fo8 (fvL M)))) v (.int .i64 (dE (fo8 (fvL M))))) := by
  obtain ⟨v0, h1, h2⟩ := h.sum
  have hbt := st3_but8 G u (.bool (dN (fo8 (fvL M)))) v (.int .i64 (dE (fo8 (fvL M))))
  exact ⟨⟨v, h1.set _ _ _, hN.dk8 h1 hbt⟩, h.kd.but8 hbt h.ne, h.kn.dk8 h1 hbt, But.below h.bel hbt h.bel.size h.lo, h.ne, h.lo⟩
theorem fvL_one (A : List Nat) (x : Nat) : fvL (A ++ [x]) = fvL A + fvW x := by rw [fvL_append]; simp [fvL]
theorem dN_fo8 (V : Int) (m : Nat) (hm : m ≤ 200000) (hV : V.natAbs < 2 ^ m) : dN (fo8 V) = decide (V < 0) := by
  obtain ⟨n, X, e, q1, F, q2, q3, _⟩ := fo8_frm V m hm hV
  rw [q1]
  show n = _
  by_cases h : V = 0
  · have hX := q2.2 h
    rcases F.odd with q | q
    · omega
    · rw [q.2.1, h]; rfl
  · exact q3 h
theorem size_pos9 : (FloatKind.f64.format.order 9218868437227405312 0 == some .gt) = true := by
  have e := gt64 false false 9218868437227405312 0 (by decide) (by decide)
  rw [show wd64 false 9218868437227405312 = 9218868437227405312 from rfl, show wd64 false 0 = 0 from rfl] at e
  rw [e]
  simp [sK]
end Go.Proofs.YtjpaocgimdinmaaGreatDoor

