/- finite, told. -/
import Derived.Test.YtnnlicahgdcbdaaDoorE12x
import Derived.Test.YtnnlicahgdcbdaaDoorJ3x
import Derived.Deep.Cut
namespace Go.Proofs.YtnnlicahgdcbdaaDoor
open Go.RowKit
set_option linter.unusedVariables false
set_option maxRecDepth 20000
set_option linter.unusedSimpArgs false

/-- The document's Of: whether a number is finite. -/
theorem rof_fin8 (x : Nat) (hx : Wd x) (w : World) : Calls Tryd.prog 54 #[.float .f64 x] w fun r w' => (∃ n ao c e er, ∃ X, r = .returned (.tuple #[.agg #[.bool n, .slice ao (ws X).length c, .int .i64 e], .int .i64 er]) ∧ (er == 0) = decide (finW x)) ∧ Below w.heap.size w w' := by
  obtain ⟨s, e, f, he, hf, h1, h2⟩ := bwz x hx
  have := rOf3_any s e f he hf w
  rw [← h1] at this
  refine this.mono ?_
  rintro r w' ⟨⟨v, rfl, hN⟩, hb⟩
  obtain ⟨ao, c, rfl, _⟩ := hN.shape
  refine ⟨⟨_, ao, c, _, ofE e, _, rfl, ?_⟩, hb⟩
  unfold ofE
  rw [Bool.eq_iff_iff]
  simp only [beq_iff_eq, decide_eq_true_eq]
  unfold finW magW
  rw [h1]
  unfold B.bw
  constructor
  · intro q
    split at q
    · omega
    · cases s <;> simp <;> omega
  · intro q
    rw [if_neg]
    intro h
    subst h
    cases s <;> simp at q <;> omega
set_option maxHeartbeats 4000000 in
theorem finite8 (w : World) (ao : Option Addr) (n c : Nat) (xs : List Nat) (hn : n = xs.length) (hr : Fs w.heap.size w ao xs) (hw : W64 xs) (hb : n ≤ 4611686018427387904) :
    Calls Tryd.prog 24 #[.slice ao n c] w fun r w' => ∃ v L, r = .returned v ∧ FinL L ∧ L.length ≤ 1000 ∧ Fr w.heap.size w' v L ∧ Below w.heap.size w w' := by
  have HA := Aside.intro (And.intro hn (And.intro hr hw))
  clear hn hr hw
  go_enter Tryd.func24, Tryd.ntmps24
  go_wp2_with fail
  go_loopg [3, 4] n (fun gk ov iv wr => ∃ (i : Nat) (L : List Nat), gk + i = n ∧ iv = .int .i64 (i : Nat) ∧ Aside (FinL L ∧ L.length ≤ 1000 ∧ Fr w.heap.size wr ov L ∧ Below w.heap.size w wr))
  case atStart => exact ⟨0, [], by omega, rfl, FinL.nil, by simp, Fr.nil _ _, Below.refl _ _⟩
  case round =>
    obtain ⟨i, L, hgi, rfl, HW⟩ := hrel
    obtain ⟨bo, m, cp, rfl⟩ := HW.out.2.2.1.slice
    have hm : m = L.length := by rcases HW.out.2.2.1.shape with ⟨h, h'⟩ | ⟨g, cap, h, _⟩ <;> (cases h; first | rfl | (rw [h']; rfl))
    by_cases hi : i < n
    · by_cases hL : m < 1000
      · have HM := Aside.intro (And.intro hm hL)
        clear hm
        obtain ⟨b, off, rfl, hc⟩ := HA.out.2.1.at HW.out.2.2.2 i (by have := HA.out.1; omega)
        obtain ⟨x, hx⟩ : ∃ x, x = xs.getD i 0 := ⟨_, rfl⟩
        rw [← hx] at hc
        have HX : Aside (Wd x) := by rw [hx]; exact HA.out.2.2.get i
        have HO := hid (rof_fin8 x HX.out wr)
        clear hx
        go_wp2_with fail
        with_reducible refine HO.out.mono ?_
        rintro r w1 ⟨⟨dn, da, dc, de, er, dX, rfl, her⟩, hb1⟩
        have hc1 : w1.cell? ⟨b, off + i, none⟩ = some (.float .f64 x) := by
          rw [← hc]; exact hb1.cell (p := ⟨b, off + i, none⟩) (World.block_lt_of_cell? wr _ hc)
        by_cases hf : finW x
        · rw [decide_eq_true hf] at her
          obtain ⟨W2, hW2⟩ : ∃ W, W = w1.alloc (.cells #[.bool dn, .slice da (ws dX).length dc, .int .i64 de] 37) := ⟨_, rfl⟩
          obtain ⟨W, hW⟩ : ∃ W, W = W2.alloc (.cells #[.float .f64 x] 28) := ⟨_, rfl⟩
          have hbx : Below wr.heap.size wr W := by
            subst hW; subst hW2
            have q := hb1.trans ((below_alloc w1 (.cells #[.bool dn, .slice da (ws dX).length dc, .int .i64 de] 37)).mono hb1.size)
            exact q.trans ((below_alloc _ _).mono q.size)
          have hcx : W.cell? ⟨W2.heap.size, 0, none⟩ = some (.float .f64 x) := by subst hW; unfold World.cell?; simp only [heap_alloc_new]; rfl
          have hfr := HW.out.2.2.1.below hbx
          have hbw := HW.out.2.2.2.trans (hbx.mono HW.out.2.2.2.size)
          obtain ⟨v5, w5, hap, hf5, hg5⟩ := append_f8 W w.heap.size _ L x W2.heap.size hfr hcx (by have := HW.out.2.1; omega) hbw.size
          have HAP := hid hap
          have H5 : Aside (FinL (L ++ [x]) ∧ (L ++ [x]).length ≤ 1000 ∧ Fr w.heap.size w5 v5 (L ++ [x]) ∧ Below w.heap.size w w5) := by
            refine ⟨HW.out.1.append (fun y hy => ?_), ?_, hf5, hbw.grown hg5 hbw.size (fun k hk => (hfr.lt hk).1)⟩
            · simp at hy; subst hy; exact ⟨HX.out, hf⟩
            · rw [List.length_append, List.length_singleton]; have := HM.out; omega
          have hd2 : W2.cell? ⟨b, off + i, none⟩ = some (.float .f64 x) := by subst hW2; exact Lib.cell?_alloc_some _ hc1
          clear hap hf5 hg5 hfr hbw hcx hbx hb1 hf HO
          go_upto_region 7 with fail
          rw [← hW2]
          clear hW2
          go_wp2_with (at_builtin; rw [← hW]; refine wpList_append8 rfl (.tmp 28) (.tmp 33) 22 rfl _ _ rfl rfl _ _ HAP.out ?_)
          go_roundg (gk - 1)
          case measure => omega
          case rel => exact ⟨i + 1, _, by omega, by simp, H5⟩
        · rw [decide_eq_false hf] at her
          have H5 : Aside (FinL L ∧ L.length ≤ 1000 ∧ Fr w.heap.size (w1.alloc (.cells #[.bool dn, .slice da (ws dX).length dc, .int .i64 de] 37)) (.slice bo m cp) L ∧ Below w.heap.size w (w1.alloc (.cells #[.bool dn, .slice da (ws dX).length dc, .int .i64 de] 37))) := by
            have q := hb1.trans ((below_alloc w1 (.cells #[.bool dn, .slice da (ws dX).length dc, .int .i64 de] 37)).mono hb1.size)
            exact ⟨HW.out.1, HW.out.2.1, HW.out.2.2.1.below q, HW.out.2.2.2.trans (q.mono HW.out.2.2.2.size)⟩
          clear hb1 hf HO
          go_wp2
          go_roundg (gk - 1)
          case measure => omega
          case rel => exact ⟨i + 1, _, by omega, by simp, H5⟩
      · clear hm
        go_wp2
        go_ret
        exact ⟨_, L, rfl, HW.out⟩
    · clear hm
      go_wp2
      go_ret
      exact ⟨_, L, rfl, HW.out⟩

theorem fvL_take0 (L : List Nat) : fvL (L.take 0) = 0 := by simp [fvL]
set_option maxHeartbeats 4000000 in
theorem told8 (w : World) (ao : Option Addr) (n c : Nat) (L : List Nat) (hn : n = L.length) (hl : n ≤ 1000) (hF : FinL L) (hr : Fs w.heap.size w ao L) :
    Calls Tryd.prog 25 #[.slice ao n c] w fun r w' => r = .returned (.pointer (some ⟨w.heap.size, 0, none⟩)) ∧ Sx (fun j => w.heap.size ≤ j ∧ j < w'.heap.size) w' w.heap.size n (fvL L) (n * n) ∧ Below w.heap.size w w' := by
  have HA := Aside.intro (And.intro hn (And.intro hF hr))
  clear hn hF hr
  go_enter Tryd.func25, Tryd.ntmps25
  go_wp2_with fail
  refine (new8 w).mono ?_
  rintro r w1 ⟨rfl, h1, h2, _⟩
  have H0 : Aside (Sx (fun j => w.heap.size ≤ j ∧ j < w1.heap.size) w1 w.heap.size 0 (fvL (L.take 0)) (0 * 0) ∧ Below w.heap.size w w1) := by
    rw [fvL_take0]; exact ⟨h1, h2⟩
  clear h1 h2
  go_wp2_with fail
  go_loopg [4] n (fun gk iv wr => ∃ i : Nat, gk + i = n ∧ iv = .int .i64 (i : Nat) ∧ Aside (Sx (fun j => w.heap.size ≤ j ∧ j < wr.heap.size) wr w.heap.size i (fvL (L.take i)) (i * i) ∧ Below w.heap.size w wr))
  case atStart => exact ⟨0, by omega, rfl, H0⟩
  case round =>
    clear H0
    obtain ⟨i, hgi, rfl, HW⟩ := hrel
    by_cases hi : i < n
    · have HI : Aside (i < L.length) := by have := HA.out.1; exact Aside.intro (by omega)
      obtain ⟨b, off, rfl, hc⟩ := HA.out.2.2.at HW.out.2 i HI.out
      obtain ⟨x, hx⟩ : ∃ x, x = L.getD i 0 := ⟨_, rfl⟩
      rw [← hx] at hc
      have hii : i * i ≤ 1000 * 1000 := Nat.mul_le_mul (by omega) (by omega)
      have hfx := HA.out.2.1.get i HI.out
      rw [← hx] at hfx
      have HD := hid (add_ok8 _ wr _ _ _ _ x HW.out.1 (by omega) hfx.1 hfx.2 (by omega))
      have HE : Aside (fvL (L.take (i + 1)) = fvL (L.take i) + fvW x ∧ i * i ≤ 1000 * 1000 ∧ i < 1000) := by rw [fvL_take L i HI.out, hx]; exact ⟨rfl, hii, by omega⟩
      clear hii hfx hx
      go_wp2_with fail
      with_reducible refine HD.out.mono ?_
      rintro r w3 ⟨rfl, hs, ht⟩
      have H3 : Aside (Sx (fun j => w.heap.size ≤ j ∧ j < w3.heap.size) w3 w.heap.size (i + 1) (fvL (L.take (i + 1))) ((i + 1) * (i + 1)) ∧ Below w.heap.size w w3) := by
        obtain ⟨e1, e2, e3⟩ := HE.out
        rw [e1]
        have e4 : (i + 1) * (i + 1) = i * i + i + i + 1 := by grind
        refine ⟨(hs.inter HW.out.2.size ht.size).more ?_ ?_, Tch.below HW.out.2 ht (fun j q => q.1) HW.out.2.size⟩
        · omega
        · omega
      clear hs ht HD
      go_wp2
      go_roundg (gk - 1)
      case measure => omega
      case rel => exact ⟨i + 1, by omega, by simp, H3⟩
    · obtain rfl : i = n := by omega
      obtain rfl : gk = 0 := by omega
      have H1 : Aside (Sx (fun j => w.heap.size ≤ j ∧ j < wr.heap.size) wr w.heap.size i (fvL L) (i * i) ∧ Below w.heap.size w wr) := by
        have := HW.out
        rw [show L.take i = L by rw [HA.out.1, List.take_length]] at this
        exact this
      clear HW
      go_wp2
      go_ret
      exact ⟨rfl, H1.out⟩
end Go.Proofs.YtnnlicahgdcbdaaDoor

/- pick, mixed: numbers in another order. -/
namespace Go.Proofs.YtnnlicahgdcbdaaDoor
open Go.RowKit
set_option linter.unusedVariables false
set_option maxRecDepth 20000
set_option linter.unusedSimpArgs false

set_option maxHeartbeats 1000000 in
theorem pick8 (c : Int) (m : Nat) (w : World) (h0 : -9223372036854775808 ≤ c) (h1 : c ≤ 9223372036854775807) (hm : 0 < m) (hm2 : m ≤ 1000000) :
    Calls Tryd.prog 27 #[.int .i64 c, .int .i64 (m : Nat)] w fun r w' => ∃ p : Nat, r = .returned (.int .i64 (p : Nat)) ∧ p < m ∧ w' = w := by
  by_cases h : c < 0
  · go_enter Tryd.func27, Tryd.ntmps27
    go_wp2
    have e1 : (-(c + 1)).tmod (m : Int) = -(c + 1) % (m : Int) := Int.tmod_eq_emod_of_nonneg (by omega)
    rw [Int.neg_tmod] at e1
    have e2 := Int.emod_nonneg (-(c + 1)) (b := (m : Int)) (by omega)
    have e3 := Int.emod_lt_of_pos (-(c + 1)) (b := (m : Int)) (by omega)
    obtain ⟨p, hp⟩ : ∃ p : Nat, (p : Int) = -(c + 1) % (m : Int) := ⟨(-(c + 1) % (m : Int)).toNat, by omega⟩
    rw [e1, ← hp]
    exact bodyPost_ret (v := .int .i64 (p : Nat)) (by simp [results, Tryd.results27, go_sem]) rfl ⟨p, rfl, by omega, rfl⟩
  · go_enter Tryd.func27, Tryd.ntmps27
    go_wp2
    have e2 := Int.emod_nonneg c (b := (m : Int)) (by omega)
    have e3 := Int.emod_lt_of_pos c (b := (m : Int)) (by omega)
    obtain ⟨p, hp⟩ : ∃ p : Nat, (p : Int) = c % (m : Int) := ⟨(c % (m : Int)).toNat, by omega⟩
    rw [← hp]
    exact bodyPost_ret (v := .int .i64 (p : Nat)) (by simp [results, Tryd.results27, go_sem]) rfl ⟨p, rfl, by omega, rfl⟩

/-- What is taken out, the last one in its place. -/
theorem swap_perm (R : List Nat) (k : Nat) (hk : k < R.length) : (R.getD k 0 :: ((R.set k (R.getD (R.length - 1) 0)).take (R.length - 1))).Perm R := by
  obtain ⟨P, x, rfl⟩ : ∃ P x, R = P ++ [x] := ⟨R.dropLast, R.getLast (by intro e; subst e; simp at hk), (List.dropLast_concat_getLast _).symm⟩
  have hl : (P ++ [x]).length - 1 = P.length := by simp
  have hx : (P ++ [x]).getD P.length 0 = x := by simp [List.getD_eq_getElem?_getD]
  rw [hl, hx]
  by_cases h : k = P.length
  · subst h
    rw [hx, List.set_append_right _ _ (Nat.le_refl _), List.take_left' rfl]
    exact (List.perm_append_comm (l₁ := [x]) (l₂ := P))
  · have hk2 : k < P.length := by simp at hk; omega
    rw [List.set_append_left _ _ hk2, List.take_left' (by simp)]
    have e : (P ++ [x]).getD k 0 = P[k] := by rw [List.getD_eq_getElem?_getD, List.getElem?_append_left hk2, List.getElem?_eq_getElem hk2]; rfl
    rw [e]
    have hP : P = P.take k ++ P[k] :: P.drop (k + 1) := by rw [List.getElem_cons_drop, List.take_append_drop]
    have hS : P.set k x = P.take k ++ x :: P.drop (k + 1) := by
      rw [List.set_eq_take_append_cons_drop, if_pos hk2]
    rw [hS]
    have h1 : (P[k] :: (P.take k ++ x :: P.drop (k + 1))).Perm (P[k] :: x :: (P.take k ++ P.drop (k + 1))) := (List.perm_middle).cons _
    have h2 : (P ++ [x]).Perm (x :: P) := List.perm_append_comm (l₁ := P) (l₂ := [x])
    have h3 : (x :: P).Perm (x :: P[k] :: (P.take k ++ P.drop (k + 1))) := by
      refine List.Perm.cons _ ?_
      conv => lhs; rw [hP]
      exact List.perm_middle
    exact h1.trans ((List.Perm.swap _ _ _).trans (h3.symm.trans h2.symm))
theorem fvL_perm {A B : List Nat} (h : A.Perm B) : fvL A = fvL B := by
  induction h with
  | nil => rfl
  | cons x _ ih => simp only [fvL, ih]
  | swap x y l => simp only [fvL]; omega
  | trans _ _ ih1 ih2 => exact ih1.trans ih2
theorem FinL.perm {A B : List Nat} (h : FinL A) (p : A.Perm B) : FinL B := fun x hx => h x (p.mem_iff.2 hx)

/-- Several put behind none. -/
theorem append_all8 (w : World) (v : Value) (L : List Nat) (hv : Fr 0 w v L) (hne : v ≠ .slice none 0 0) (hl : L.length ≤ 1000) :
    ∃ v' w', (Builtin.append_ #[22, 22] 22 #[.slice none 0 0, v]).run Tryd.prog w = .ok v' w' ∧ Fr w.heap.size w' v' L ∧ Below w.heap.size w w' := by
  obtain ⟨i0, hi, hz0, hz1, hz2⟩ := info_parts Tryd.info_f8
  rcases hv.shape with ⟨rfl, _⟩ | ⟨g, cap, rfl, hlo, hg, hc, hm, hcell⟩
  · exact absurd rfl hne
  · obtain ⟨v', w', r1, r2, r3, _, r5⟩ := run_append_own_at (P := Tryd.prog) w w.heap.size 22 22 28 i0 (.float .f64 0) 1 8 Tryd.desc_f8 hi hz0 hz1 hz2 rfl (by decide) (.slice none 0 0) 0 [] (World.ownsRow_nil _ _ _ _) ⟨g, 0, none⟩ L.length cap (L.map Fw) (by simp) (by
      intro j u hj
      have hj2 : j < L.length := by have := (List.getElem?_eq_some_iff.1 hj).1; simpa using this
      rw [Addr.add_lit, Nat.zero_add, hcell j hj2, ← hj, List.getElem?_map, List.getElem?_eq_getElem hj2, List.getD_eq_getElem?_getD, List.getElem?_eq_getElem hj2]
      rfl) (by
      intro u hu
      obtain ⟨x, _, rfl⟩ := List.mem_map.1 hu
      rfl) (by unfold maxLen; omega) (by omega) (Nat.le_refl _)
    refine ⟨v', w', r1, ?_, (Below.refl _ _).grown r3 (Nat.le_refl _) (fun k hk => by simp [Value.ownBlock] at hk)⟩
    unfold Fr
    simpa using r2
/-- A number written into a row. -/
theorem Fr.put8 {lo : Nat} {w : World} {g m cap : Nat} {R : List Nat} (h : Fr lo w (.slice (some ⟨g, 0, none⟩) m cap) R) (k x : Nat) (hk : k < R.length) : Fr lo (w.setCell ⟨g, k, none⟩ (.float .f64 x)) (.slice (some ⟨g, 0, none⟩) m cap) (R.set k x) := by
  have hml : m = R.length := by rcases h.shape with ⟨q, _⟩ | ⟨g, cap, q, _⟩ <;> (cases q; try rfl)
  subst hml
  unfold Fr at h ⊢
  rw [List.length_set]
  refine ⟨by simp, ?_⟩
  rcases h.2 with ⟨e, hn⟩ | ⟨g', cap', cur, e, hlo, hg, hnc, hm, hs, ht⟩
  · omega
  · cases e
    refine .inr ⟨g, cap, cur.set! k (.float .f64 x), rfl, hlo, ?_, hnc, hm, by simpa using hs, ?_⟩
    · simp only [World.setCell, Array.getElem?_modify, hg]
      simp
    · have e : (R.set k x).map Fw = (R.map Fw).set k (.float .f64 x) := by rw [List.map_set]; rfl
      rw [e, ← ht]
      simp [List.take_set]
/-- A row cut shorter. -/
theorem Fr.cut8 {lo : Nat} {w : World} {g m cap : Nat} {R : List Nat} (h : Fr lo w (.slice (some ⟨g, 0, none⟩) m cap) R) (j : Nat) (hj : j ≤ R.length) : Fr lo w (.slice (some ⟨g, 0, none⟩) j cap) (R.take j) := by
  have e : (R.take j).length = j := by simp; omega
  unfold Fr at h ⊢
  rw [e]
  refine ⟨by simp; omega, ?_⟩
  rcases h.2 with ⟨e, hn⟩ | ⟨g', cap', cur, e, hlo, hg, hnc, hm, hs, ht⟩
  · cases e
  · cases e
    refine .inr ⟨g, cap, cur, rfl, hlo, hg, by omega, hm, hs, ?_⟩
    rw [List.map_take, ← ht]
    simp [List.take_take]
    omega
theorem append_f9 (w : World) (lo : Nat) (v : Value) (l : List Nat) (x s : Nat) (hown : Fr lo w v l) (hx : w.cell? ⟨s, 0, none⟩ = some (.float .f64 x)) (hl : l.length ≤ 2000000) (hlo : lo ≤ w.heap.size) :
    ∃ v' w', (Builtin.append_ #[22, 22] 22 #[v, .slice (some ⟨s, 0, none⟩) 1 1]).run Tryd.prog w = .ok v' w' ∧ Fr lo w' v' (l ++ [x]) ∧ w.grownBy w' v.ownBlock ∧ (v'.ownBlock = v.ownBlock ∨ ∃ g, v'.ownBlock = some g ∧ w.heap.size ≤ g) := by
  obtain ⟨i0, hi, hz0, hz1, hz2⟩ := info_parts Tryd.info_f8
  obtain ⟨v', w', r1, r2, r3, _, r5⟩ := run_append_own_at (P := Tryd.prog) w lo 22 22 28 i0 (.float .f64 0) 1 8 Tryd.desc_f8 hi hz0 hz1 hz2 rfl (by decide) v l.length (l.map Fw) hown ⟨s, 0, none⟩ 1 1 [.float .f64 x] rfl (by
      intro j u hj
      match j, hj with
      | 0, hj => simp at hj; subst hj; simpa [Addr.add] using hx) (by intro u hu; simp at hu; subst hu; rfl) (by unfold maxLen; omega) (by omega) hlo
  refine ⟨v', w', r1, by unfold Fr; rw [List.length_append, List.map_append]; exact r2, r3, ?_⟩
  rcases r5 with q | q
  · exact .inl q
  · exact .inr ⟨_, q, Nat.le_refl _⟩
/-- What stands while mixed walks. -/
structure Mx (w : World) (L : List Nat) (gl cap : Nat) (R O : List Nat) (ov : Value) (wr : World) : Prop where
  left : Fr w.heap.size wr (.slice (some ⟨gl, 0, none⟩) R.length cap) R
  out : Fr w.heap.size wr ov O
  apart : ov.ownBlock ≠ some gl
  perm : (O ++ R).Perm L
  bel : Below w.heap.size w wr
  len : O.length + R.length = L.length

theorem Fr.len8 {lo : Nat} {w : World} {ao : Option Addr} {m c : Nat} {L : List Nat} (h : Fr lo w (.slice ao m c) L) : m = L.length := by
  rcases h.shape with ⟨q, q2⟩ | ⟨g, cap, q, _⟩
  · cases q; rw [q2]; rfl
  · cases q; rfl
theorem Mx.next {w : World} {L : List Nat} {gl cap : Nat} {R O : List Nat} {ov : Value} {wr : World} (h : Mx w L gl cap R O ov wr) (p : Nat) (hp : p < R.length) {v' : Value} {w1 w2 : World} (hb : Below wr.heap.size wr w1)
    (k1 : Fr w.heap.size w2 v' (O ++ [R.getD p 0])) (k2 : w1.grownBy w2 ov.ownBlock) (k3 : v'.ownBlock = ov.ownBlock ∨ ∃ g, v'.ownBlock = some g ∧ w1.heap.size ≤ g) :
    Fr w.heap.size w2 (.slice (some ⟨gl, 0, none⟩) R.length cap) R ∧ Below w.heap.size w w2 ∧
      Mx w L gl cap ((R.set p (R.getD (R.length - 1) 0)).take (R.length - 1)) (O ++ [R.getD p 0]) v' (w2.setCell ⟨gl, p, none⟩ (.float .f64 (R.getD (R.length - 1) 0))) := by
  have hL : Fr w.heap.size w2 (.slice (some ⟨gl, 0, none⟩) R.length cap) R := (h.left.below hb).keep k2 (fun g hg => fun e => h.apart (by simp [Value.ownBlock] at hg; rw [hg]; exact e))
  have hlt := h.left.lt (g := gl) rfl
  have hap : v'.ownBlock ≠ some gl := by
    rcases k3 with q | ⟨g, q, q2⟩
    · rw [q]; exact h.apart
    · rw [q]; intro e; injection e with e; have := hb.size; omega
  have hbw : Below w.heap.size w w1 := h.bel.trans (hb.mono h.bel.size)
  have hB : Below w.heap.size w w2 := hbw.grown k2 hbw.size (fun k hk => (h.out.lt hk).1)
  have ht : ((R.set p (R.getD (R.length - 1) 0)).take (R.length - 1)).length = R.length - 1 := by simp
  refine ⟨hL, hB, ⟨?_, ?_, hap, ?_, But.below hB ((But.refl gl _).set p _) hB.size hlt.1, ?_⟩⟩
  · rw [ht]
    exact (hL.put8 p _ hp).cut8 (R.length - 1) (by simp)
  · exact k1.set hap _ _
  · have := (swap_perm R p hp).append_left O
    rw [List.append_assoc]
    exact this.trans h.perm
  · rw [ht, List.length_append, List.length_singleton]
    have := h.len
    omega
section
attribute [local go_sem] st_float
set_option maxHeartbeats 8000000 in
theorem mixed8 (w : World) (v : Value) (L : List Nat) (hv : Fr 0 w v L) (hl : L.length ≤ 1000) (bo : Option Addr) (nb cb : Nat) (bs : List Int) (hnb : nb = bs.length) (hbs : Is7 w.heap.size w bo bs) (hbw : I64 bs) (hnb2 : nb ≤ 4611686018427387904) :
    Calls Tryd.prog 26 #[v, .slice bo nb cb] w fun r w' => ∃ v' M, r = .returned v' ∧ M.Perm L ∧ Fr w.heap.size w' v' M ∧ Below w.heap.size w w' := by
  by_cases hnil : v = .slice none 0 0
  · subst hnil
    have hL : L = [] := by rcases hv.shape with ⟨_, q⟩ | ⟨g, cap, q, _⟩; exact q; cases q
    subst hL
    clear hv hl hnb hbs hbw hnb2
    go_enter Tryd.func26, Tryd.ntmps26
    go_wp2_with fail
    go_loopg [5, 6] 0 (fun gk lv ov wr => lv = .slice none 0 0 ∧ ov = .slice none 0 0 ∧ wr = w)
    case atStart => exact ⟨rfl, rfl, rfl⟩
    case round =>
      obtain ⟨rfl, rfl, rfl⟩ := hrel
      go_wp2
      go_ret
      exact ⟨_, [], rfl, List.Perm.refl _, Fr.nil _ _, Below.refl _ _⟩
  · obtain ⟨v1, w1, hap, hf1, hb1⟩ := append_all8 w v L hv hnil hl
    have HAP := hid hap
    have hv1 : ∃ gl cap, v1 = .slice (some ⟨gl, 0, none⟩) L.length cap ∨ L = [] := by
      rcases hf1.shape with ⟨_, q⟩ | ⟨g, cap, q, _⟩
      · exact ⟨0, 0, .inr q⟩
      · exact ⟨g, cap, .inl q⟩
    obtain ⟨gl, cap, hv1⟩ := hv1
    obtain ⟨n, hn⟩ : ∃ n, n = L.length := ⟨_, rfl⟩
    rcases hv1 with rfl | hL0
    · have H0 : Aside (Mx w L gl cap L [] (.slice none 0 0) w1) := ⟨hf1, Fr.nil _ _, by simp [Value.ownBlock], by simp, hb1, by simp⟩
      have HA := Aside.intro (And.intro hnb (And.intro hbs (And.intro hbw (And.intro hl hn))))
      clear hap hf1 hb1 hv hnil hnb hbs hbw hn
      go_enter Tryd.func26, Tryd.ntmps26
      go_wp2_with (at_builtin; refine wpList_append8 rfl (.tmp 9) (.tmp 10) 22 rfl _ _ rfl rfl _ _ HAP.out ?_)
      go_loopg [5, 6] n (fun gk lv ov wr => ∃ R O : List Nat, gk = R.length ∧ lv = .slice (some ⟨gl, 0, none⟩) R.length cap ∧ Aside (Mx w L gl cap R O ov wr))
      case atStart => exact ⟨L, [], HA.out.2.2.2.2, rfl, H0⟩
      case round =>
        clear H0
        obtain ⟨R, O, hgk, rfl, HW⟩ := hrel
        obtain ⟨mr, hmr⟩ : ∃ m, m = R.length := ⟨_, rfl⟩
        rw [← hmr] at hgk ⊢
        obtain ⟨oo, mo, co, rfl⟩ := HW.out.out.slice
        have hmo := HW.out.out.len8
        have hlen := HW.out.len
        have hl2 := HA.out.2.2.2.1
        have hmr2 : mr ≤ 1000 := by omega
        have hmo2 : mo ≤ 1000 := by omega
        have hcp : mr ≤ cap := by
          rcases HW.out.left.shape with ⟨q, _⟩ | ⟨g', cap', q, _, _, q1, _, _⟩
          · cases q
          · cases q; omega
        have HMR := Aside.intro (And.intro hmr (And.intro hmo hgk))
        clear hmo hlen hl2 hmr hgk
        by_cases h0 : 0 < mr
        · have key : ∀ (c : Int), -9223372036854775808 ≤ c → c ≤ 9223372036854775807 → Hid (∀ u, Calls Tryd.prog 27 #[.int .i64 c, .int .i64 (mr : Nat)] u fun r w' => ∃ p : Nat, r = .returned (.int .i64 (p : Nat)) ∧ p < mr ∧ w' = u) := fun c q1 q2 => hid (fun u => pick8 c mr u q1 q2 h0 (by omega))
          by_cases hb0 : 0 < nb
          · obtain ⟨q, hq⟩ : ∃ q, q = mo % nb := ⟨_, rfl⟩
            have hqn : q < nb := by rw [hq]; exact Nat.mod_lt _ hb0
            have hrem : ((mo : Int)).tmod (nb : Int) = (q : Int) := by rw [hq]; exact (Int.tmod_eq_emod_of_nonneg (by omega)).trans (Int.natCast_emod _ _).symm
            obtain ⟨b, off, rfl, hc⟩ := HA.out.2.1.at HW.out.bel q (by rw [← HA.out.1]; exact hqn)
            obtain ⟨c, hcc⟩ : ∃ c, c = bs.getD q 0 := ⟨_, rfl⟩
            have hcw := HA.out.2.2.1 q
            rw [← hcc] at hc hcw
            have HP := key c hcw.1 hcw.2
            clear key hcc hcw hq
            go_wp2_with fail
            with_reducible refine (HP.out _).mono ?_
            rintro r w2 ⟨p, rfl, hp, rfl⟩
            have hpR : p < R.length := by have := HMR.out.1; omega
            obtain ⟨x, hx⟩ : ∃ x, x = R.getD p 0 := ⟨_, rfl⟩
            obtain ⟨y, hy⟩ : ∃ x, x = R.getD (R.length - 1) 0 := ⟨_, rfl⟩
            obtain ⟨hgl, hcell⟩ : gl < w2.heap.size ∧ ∀ i, i < R.length → w2.cell? ⟨gl, i, none⟩ = some (.float .f64 (R.getD i 0)) := by
              rcases HW.out.left.shape with ⟨q, _⟩ | ⟨g', cap', q, _, q1, _, _, q2⟩
              · cases q
              · cases q; exact ⟨q1, q2⟩
            have hcx : w2.cell? ⟨gl, p, none⟩ = some (.float .f64 x) := by rw [hx]; exact hcell p hpR
            obtain ⟨W3, hW3⟩ : ∃ W, W = w2.alloc (.cells #[.float .f64 x] 28) := ⟨_, rfl⟩
            have hb3 : Below w2.heap.size w2 W3 := by subst hW3; exact below_alloc _ _
            have hc3 : W3.cell? ⟨w2.heap.size, 0, none⟩ = some (.float .f64 x) := by subst hW3; unfold World.cell?; simp only [heap_alloc_new]; rfl
            obtain ⟨v4, w4, hap4, hf4, hg4, ho4⟩ := append_f9 W3 w.heap.size _ O x w2.heap.size (HW.out.out.below hb3) hc3 (by have := HMR.out; omega) (Nat.le_trans HW.out.bel.size hb3.size)
            have HAP4 := hid hap4
            obtain ⟨n1, n2, n3⟩ := HW.out.next p hpR hb3 (by rw [← hx]; exact hf4) hg4 ho4
            rw [← hx, ← hy] at n3
            have hcell4 : ∀ i, i < R.length → w4.cell? ⟨gl, i, none⟩ = some (.float .f64 (R.getD i 0)) := by
              rcases n1.shape with ⟨q, _⟩ | ⟨g', cap', q, _, _, _, _, q2⟩
              · cases q
              · cases q; exact q2
            have hc4 : w4.cell? ⟨gl, mr - 1, none⟩ = some (.float .f64 y) := by rw [hy, HMR.out.1]; exact hcell4 _ (by omega)
            have hc5 : w4.cell? ⟨gl, p, none⟩ = some (.float .f64 x) := by rw [hx]; exact hcell4 _ hpR
            have hfz : w4.frozen? ⟨gl, p, none⟩ = false := by
              rcases n1.2 with ⟨q, _⟩ | ⟨g', cap', cur, q, _, hgc, _⟩
              · cases q
              · cases q; simp [World.frozen?, hgc]
            have H4 := Aside.intro (And.intro n3 hpR)
            have hm1 : (mr : Int) - 1 = ((mr - 1 : Nat) : Int) := by omega
            have hrl : ((R.set p y).take (R.length - 1)).length = mr - 1 := by simp; have := HMR.out.1; omega
            have HRL := Aside.intro hrl
            clear hap4 hf4 hg4 ho4 n1 n2 n3 hb3 hc3 hcell hcell4 hx hy hpR hgl hrl
            go_upto_region 9 with fail
            go_wp2_with (at_builtin; rw [← hW3]; refine wpList_append8 rfl (.tmp 32) (.tmp 37) 22 rfl _ _ rfl rfl _ _ HAP4.out ?_)
            go_roundg (mr - 1)
            case measure => have := HMR.out.2.2; omega
            case rel =>
              refine ⟨_, _, HRL.out.symm, ?_, H4.out.1⟩
              rw [HRL.out]
          · have HP := key (mo : Int) (by omega) (by omega)
            clear key
            go_wp2_with fail
            with_reducible refine (HP.out _).mono ?_
            rintro r w2 ⟨p, rfl, hp, rfl⟩
            have hpR : p < R.length := by have := HMR.out.1; omega
            obtain ⟨x, hx⟩ : ∃ x, x = R.getD p 0 := ⟨_, rfl⟩
            obtain ⟨y, hy⟩ : ∃ x, x = R.getD (R.length - 1) 0 := ⟨_, rfl⟩
            obtain ⟨hgl, hcell⟩ : gl < w2.heap.size ∧ ∀ i, i < R.length → w2.cell? ⟨gl, i, none⟩ = some (.float .f64 (R.getD i 0)) := by
              rcases HW.out.left.shape with ⟨q, _⟩ | ⟨g', cap', q, _, q1, _, _, q2⟩
              · cases q
              · cases q; exact ⟨q1, q2⟩
            have hcx : w2.cell? ⟨gl, p, none⟩ = some (.float .f64 x) := by rw [hx]; exact hcell p hpR
            obtain ⟨W3, hW3⟩ : ∃ W, W = w2.alloc (.cells #[.float .f64 x] 28) := ⟨_, rfl⟩
            have hb3 : Below w2.heap.size w2 W3 := by subst hW3; exact below_alloc _ _
            have hc3 : W3.cell? ⟨w2.heap.size, 0, none⟩ = some (.float .f64 x) := by subst hW3; unfold World.cell?; simp only [heap_alloc_new]; rfl
            obtain ⟨v4, w4, hap4, hf4, hg4, ho4⟩ := append_f9 W3 w.heap.size _ O x w2.heap.size (HW.out.out.below hb3) hc3 (by have := HMR.out; omega) (Nat.le_trans HW.out.bel.size hb3.size)
            have HAP4 := hid hap4
            obtain ⟨n1, n2, n3⟩ := HW.out.next p hpR hb3 (by rw [← hx]; exact hf4) hg4 ho4
            rw [← hx, ← hy] at n3
            have hcell4 : ∀ i, i < R.length → w4.cell? ⟨gl, i, none⟩ = some (.float .f64 (R.getD i 0)) := by
              rcases n1.shape with ⟨q, _⟩ | ⟨g', cap', q, _, _, _, _, q2⟩
              · cases q
              · cases q; exact q2
            have hc4 : w4.cell? ⟨gl, mr - 1, none⟩ = some (.float .f64 y) := by rw [hy, HMR.out.1]; exact hcell4 _ (by omega)
            have hc5 : w4.cell? ⟨gl, p, none⟩ = some (.float .f64 x) := by rw [hx]; exact hcell4 _ hpR
            have hfz : w4.frozen? ⟨gl, p, none⟩ = false := by
              rcases n1.2 with ⟨q, _⟩ | ⟨g', cap', cur, q, _, hgc, _⟩
              · cases q
              · cases q; simp [World.frozen?, hgc]
            have H4 := Aside.intro (And.intro n3 hpR)
            have hm1 : (mr : Int) - 1 = ((mr - 1 : Nat) : Int) := by omega
            have hrl : ((R.set p y).take (R.length - 1)).length = mr - 1 := by simp; have := HMR.out.1; omega
            have HRL := Aside.intro hrl
            clear hap4 hf4 hg4 ho4 n1 n2 n3 hb3 hc3 hcell hcell4 hx hy hpR hgl hrl
            go_upto_region 9 with fail
            go_wp2_with (at_builtin; rw [← hW3]; refine wpList_append8 rfl (.tmp 32) (.tmp 37) 22 rfl _ _ rfl rfl _ _ HAP4.out ?_)
            go_roundg (mr - 1)
            case measure => have := HMR.out.2.2; omega
            case rel =>
              refine ⟨_, _, HRL.out.symm, ?_, H4.out.1⟩
              rw [HRL.out]
        · obtain rfl : mr = 0 := by omega
          have H1 : Aside (O.Perm L ∧ Fr w.heap.size wr (.slice oo mo co) O ∧ Below w.heap.size w wr) := by
            have q := HW.out.perm
            have q0 : R = [] := List.eq_nil_of_length_eq_zero HMR.out.1.symm
            rw [q0, List.append_nil] at q
            exact ⟨q, HW.out.out, HW.out.bel⟩
          clear HW
          go_wp2
          go_ret
          exact ⟨_, O, rfl, H1.out⟩
    · subst hL0
      have hv0 : v1 = .slice none 0 0 ∨ ∃ g cap, v1 = .slice (some ⟨g, 0, none⟩) 0 cap := by
        rcases hf1.shape with ⟨q, _⟩ | ⟨g, cap, q, _⟩
        · exact .inl q
        · exact .inr ⟨g, cap, q⟩
      have HB := Aside.intro hb1
      clear hap hf1 hb1 hv hnil hnb hbs hbw hn hl hnb2
      rcases hv0 with rfl | ⟨g, cap, rfl⟩
      all_goals (
        go_enter Tryd.func26, Tryd.ntmps26
        go_wp2_with (at_builtin; refine wpList_append8 rfl (.tmp 9) (.tmp 10) 22 rfl _ _ rfl rfl _ _ HAP.out ?_)
        go_loopg [5, 6] 0 (fun gk lv ov wr => (∃ ao c, lv = .slice ao 0 c) ∧ ov = .slice none 0 0 ∧ wr = w1)
        case atStart => exact ⟨⟨_, _, rfl⟩, rfl, rfl⟩
        case round =>
          obtain ⟨⟨ao, c, rfl⟩, rfl, rfl⟩ := hrel
          go_wp2
          go_ret
          exact ⟨_, [], rfl, List.Perm.refl _, Fr.nil _ _, HB.out⟩)
end
end Go.Proofs.YtnnlicahgdcbdaaDoor

/- SpreadOrder: any order, any cut, merged either way. -/
namespace Go.Proofs.YtnnlicahgdcbdaaDoor
open Go.RowKit
set_option linter.unusedVariables false
set_option maxRecDepth 20000
set_option linter.unusedSimpArgs false

theorem Fs.of_fr {lo : Nat} {w : World} {ao : Option Addr} {n c : Nat} {L : List Nat} (h : Fr lo w (.slice ao n c) L) : Fs w.heap.size w ao L := by
  intro hne
  rcases h.shape with ⟨_, q⟩ | ⟨g, cap, q, _, hg, _, _, hc⟩
  · exact absurd q hne
  · cases q
    exact ⟨g, 0, hg, rfl, fun i hi => by rw [Nat.zero_add]; exact hc i hi⟩
theorem Fs.bel8 {B : Nat} {w w' : World} {ao : Option Addr} {L : List Nat} (h : Fs B w ao L) (hb : Below B w w') (hB : B ≤ w'.heap.size) : Fs w'.heap.size w' ao L := by
  intro hne
  obtain ⟨b, off, h1, h2, h3⟩ := h hne
  exact ⟨b, off, Nat.lt_of_lt_of_le h1 hB, h2, fun i hi => (hb.cell (p := ⟨b, off + i, none⟩) h1).trans (h3 i hi)⟩
theorem Fs.take8 {B : Nat} {w : World} {ao : Option Addr} {L : List Nat} (h : Fs B w ao L) (k : Nat) : Fs B w ao (L.take k) := by
  intro hne
  obtain ⟨b, off, h1, h2, h3⟩ := h (by intro e; subst e; simp at hne)
  refine ⟨b, off, h1, h2, fun i hi => ?_⟩
  have hi2 : i < k ∧ i < L.length := by simp at hi; omega
  rw [h3 i hi2.2, List.getD_eq_getElem?_getD, List.getD_eq_getElem?_getD, List.getElem?_take, if_pos hi2.1]
theorem Fs.drop8 {B : Nat} {w : World} {g off0 : Nat} {L : List Nat} (h : Fs B w (some ⟨g, 0, none⟩) L) (k j : Nat) (hj : k < L.length → j = k) : Fs B w (some ⟨g, j, none⟩) (L.drop k) := by
  intro hne
  have hk : k < L.length := by
    by_cases q : k < L.length
    · exact q
    · exact absurd (List.drop_eq_nil_of_le (by omega)) hne
  obtain ⟨b, off, h1, h2, h3⟩ := h (by intro e; subst e; simp at hk)
  cases h2
  refine ⟨g, j, h1, rfl, fun i hi => ?_⟩
  rw [List.length_drop] at hi
  have := h3 (k + i) (by omega)
  rw [Nat.zero_add] at this
  rw [hj hk, this, List.getD_eq_getElem?_getD, List.getD_eq_getElem?_getD, List.getElem?_drop]
theorem fvL_cut (L : List Nat) (k : Nat) : fvL (L.take k) + fvL (L.drop k) = fvL L := by rw [← fvL_append, List.take_append_drop]
theorem FinL.take {A : List Nat} (h : FinL A) (i : Nat) : FinL (A.take i) := fun x hx => h x (List.mem_of_mem_take hx)
theorem sq8 {a b : Nat} (ha : a ≤ 1000) (hb : b ≤ 1000) : a * b ≤ 1000000 := Nat.le_trans (Nat.mul_le_mul ha hb) (by decide)
/-- The interval from a to b. -/
abbrev Iv (a b : Nat) : Nat → Prop := fun j => a ≤ j ∧ j < b
theorem Sx.bel9 {a b : Nat} {w w' : World} {g n : Nat} {V : Int} {c : Nat} (h : Sx (Iv a b) w g n V c) (hb : Below w.heap.size w w') : Sx (Iv a b) w' g n V c := Sx.below h hb

set_option maxHeartbeats 16000000 in
theorem walk_SpreadOrder (xs : List Nat) (bs : List Int) (a1 a2 : Option Addr) (n1 n2 c1 c2 : Nat) (cut : Int) (w : World) (hT : Tab w) (e1 : n1 = xs.length) (e2 : n2 = bs.length) (f1 : Fs w.heap.size w a1 xs) (f2 : Is7 w.heap.size w a2 bs) (k1 : W64 xs) (k2 : I64 bs)
    (m1 : n1 ≤ 4611686018427387904) (m2 : n2 ≤ 4611686018427387904) (hc0 : -9223372036854775808 ≤ cut) (hc1 : cut ≤ 9223372036854775807) :
    Calls Tryd.prog 5 #[.slice a1 n1 c1, .slice a2 n2 c2, .int .i64 cut] w fun r w' => r = .returned (.bool true) ∧ Below w.heap.size w w' := by
  have HR := Aside.intro (And.intro hT (And.intro (And.intro e1 (And.intro f1 (And.intro k1 m1))) (And.intro e2 (And.intro f2 (And.intro k2 m2)))))
  clear hT e1 e2 f1 f2 k1 k2 m1 m2
  go_enter Tryd.func5, Tryd.ntmps5
  go_wp2_with fail
  refine (awake8 w HR.out.1).mono ?_
  rintro r w1 ⟨rfl, hb⟩
  have B1 := Aside.intro hb
  have HF : Hid (Calls Tryd.prog 24 #[.slice a1 n1 c1] w1 fun r w' => ∃ v L, r = .returned v ∧ FinL L ∧ L.length ≤ 1000 ∧ Fr w1.heap.size w' v L ∧ Below w1.heap.size w1 w') := by
    obtain ⟨q1, q2, q3, q4⟩ := HR.out.2.1
    exact finite8 w1 a1 n1 c1 xs q1 (q2.bel8 hb hb.size) q3 q4
  clear hb
  go_wp2_with fail
  with_reducible refine HF.out.mono ?_
  rintro r w2 ⟨v, L, rfl, hL1, hL2, hL3, hb⟩
  have B2 := Aside.intro (B1.out.trans (hb.mono B1.out.size))
  obtain ⟨n, hn⟩ : ∃ n, n = L.length := ⟨_, rfl⟩
  rcases hL3.shape with ⟨rfl, rfl⟩ | ⟨gv, cp, rfl, _, hgv, hcp, _, _⟩
  · obtain ⟨z, hz0⟩ : ∃ z : Nat, z = 0 := ⟨_, rfl⟩
    clear hz0 z
    have HL := Aside.intro (And.intro hL1 (And.intro hL2 (And.intro hn (And.intro hL3 (Fs.of_fr hL3)))))
    clear hL1 hL2 hL3 hb HF hn
    have HA := hid (told8 w2 (none) 0 0 ([] : List Nat) rfl (by decide) HL.out.1 HL.out.2.2.2.2)
    go_wp2_with fail
    with_reducible refine HA.out.mono ?_
    rintro r w3 ⟨rfl, s1, hb⟩
    have S3 := Aside.intro (And.intro s1 (And.intro hb (B2.out.trans (hb.mono B2.out.size))))
    have HM : Hid (Calls Tryd.prog 26 #[.slice (none) 0 0, .slice a2 n2 c2] w3 fun r w' => ∃ v' M, r = .returned v' ∧ M.Perm ([] : List Nat) ∧ Fr w3.heap.size w' v' M ∧ Below w3.heap.size w3 w') := by
      obtain ⟨q1, q2, q3, q4⟩ := HR.out.2.2
      have q2' : Is7 w3.heap.size w3 a2 bs := by
        intro hne
        obtain ⟨b, off, h1, h2, h3⟩ := q2 hne
        exact ⟨b, off, Nat.lt_of_lt_of_le h1 S3.out.2.2.size, h2, fun i hi => (S3.out.2.2.cell (p := ⟨b, off + i, none⟩) h1).trans (h3 i hi)⟩
      exact mixed8 w3 _ ([] : List Nat) ((HL.out.2.2.2.1.below hb).mono (Nat.zero_le _)) HL.out.2.1 a2 n2 c2 bs q1 q2' q3 q4
    clear s1 hb HA
    go_wp2_with fail
    with_reducible refine HM.out.mono ?_
    rintro r w4 ⟨vm, M, rfl, hp, hf, hb⟩
    obtain ⟨am, nm, cm, rfl⟩ := hf.slice
    have hnm := hf.len8
    have hMl : M.length = ([] : List Nat).length := hp.length_eq
    have HB := hid (told8 w4 am nm cm M hnm (by have := HL.out.2.1; omega) (HL.out.1.perm hp.symm) (Fs.of_fr hf))
    have S4 := Aside.intro (And.intro (S3.out.1.bel9 hb) (And.intro (S3.out.2.1.trans (hb.mono S3.out.2.1.size)) (And.intro (S3.out.2.2.trans (hb.mono S3.out.2.2.size)) (And.intro (fvL_perm hp) (And.intro hMl hnm)))))
    have HZ34 : Aside (w3.heap.size ≤ w4.heap.size) := hb.size
    clear hp hf hb hnm hMl HM
    go_wp2_with fail
    with_reducible refine HB.out.mono ?_
    rintro r w5 ⟨rfl, s1, hb⟩
    have S5 := Aside.intro (And.intro (S4.out.1.bel9 hb) (And.intro (show Sx (Iv w4.heap.size w5.heap.size) w5 w4.heap.size nm (fvL ([] : List Nat)) (nm * nm) by rw [← S4.out.2.2.2.1]; exact s1) (And.intro (S4.out.2.1.trans (hb.mono S4.out.2.1.size)) (S4.out.2.2.1.trans (hb.mono S4.out.2.2.1.size)))))
    have HZ45 : Aside (w4.heap.size ≤ w5.heap.size ∧ w.heap.size ≤ w5.heap.size) := ⟨hb.size, Nat.le_trans S4.out.2.2.1.size hb.size⟩
    have HPk := hid (pick8 cut (0 + 1) w5 hc0 hc1 (by omega) (by omega))
    rw [show ((0 + 1 : Nat) : Int) = 1 from rfl] at HPk
    clear s1 hb HB
    go_wp2_with fail
    with_reducible refine HPk.out.mono ?_
    rintro r u ⟨k, rfl, hk, rfl⟩
    obtain rfl : k = 0 := by omega
    clear HPk hk
    have FS : Aside (∀ W, Below w2.heap.size w2 W → Fs W.heap.size W (none) (([] : List Nat).take 0)) := fun W hW => (HL.out.2.2.2.2.bel8 hW hW.size).take8 0
    have HK : Aside (0 = (([] : List Nat).take 0).length ∧ 0 ≤ 1000 ∧ FinL (([] : List Nat).take 0)) := ⟨by simp, by omega, HL.out.1.take 0⟩
    have HC := hid (told8 u (none) 0 0 (([] : List Nat).take 0) HK.out.1 HK.out.2.1 HK.out.2.2 (FS.out u S5.out.2.2.1))
    go_wp2_with fail
    with_reducible refine HC.out.mono ?_
    rintro r w6 ⟨rfl, s1, hb⟩
    have S6 := Aside.intro (And.intro (S5.out.1.bel9 hb) (And.intro (S5.out.2.1.bel9 hb) (And.intro (show Sx (Iv u.heap.size w6.heap.size) w6 u.heap.size 0 (fvL (([] : List Nat).take 0)) (0 * 0) from s1) (And.intro (S5.out.2.2.1.trans (hb.mono S5.out.2.2.1.size)) (And.intro (S5.out.2.2.2.trans (hb.mono S5.out.2.2.2.size)) hb.size)))))
    clear s1 hb HC
    have HD := hid (told8 w6 (none) 0 (0) (([] : List Nat).drop 0) (by simp) (by omega) (HL.out.1.drop 0) (fun q => by simp at q))
    go_wp2_with fail
    with_reducible refine HD.out.mono ?_
    rintro r w7 ⟨rfl, s1, hb⟩
    have S7 := Aside.intro (And.intro (S6.out.1.bel9 hb) (And.intro (S6.out.2.1.bel9 hb) (And.intro (S6.out.2.2.1.bel9 hb) (And.intro (show Sx (Iv w6.heap.size w7.heap.size) w7 w6.heap.size 0 (fvL (([] : List Nat).drop 0)) (0 * 0) from s1) (And.intro (S6.out.2.2.2.1.trans (hb.mono S6.out.2.2.2.1.size)) (And.intro (S6.out.2.2.2.2.1.trans (hb.mono S6.out.2.2.2.2.1.size)) (And.intro S6.out.2.2.2.2.2 hb.size)))))))
    clear s1 hb HD
    have HC := hid (told8 w7 (none) 0 0 (([] : List Nat).take 0) HK.out.1 HK.out.2.1 HK.out.2.2 (FS.out w7 S7.out.2.2.2.2.1))
    go_wp2_with fail
    with_reducible refine HC.out.mono ?_
    rintro r w8 ⟨rfl, s1, hb⟩
    have S8 := Aside.intro (And.intro (S7.out.1.bel9 hb) (And.intro (S7.out.2.1.bel9 hb) (And.intro (S7.out.2.2.1.bel9 hb) (And.intro (S7.out.2.2.2.1.bel9 hb) (And.intro (show Sx (Iv w7.heap.size w8.heap.size) w8 w7.heap.size 0 (fvL (([] : List Nat).take 0)) (0 * 0) from s1) (And.intro (S7.out.2.2.2.2.2.1.trans (hb.mono S7.out.2.2.2.2.2.1.size)) (And.intro S7.out.2.2.2.2.2.2.1 (And.intro S7.out.2.2.2.2.2.2.2 hb.size))))))))
    clear s1 hb HC
    have hz : Aside (w2.heap.size ≤ w3.heap.size ∧ w3.heap.size ≤ w4.heap.size ∧ w4.heap.size ≤ u.heap.size) := ⟨S3.out.2.1.size, HZ34.out, HZ45.out.1⟩
    have sqa : Aside (0 * 0 ≤ 1000000 ∧ 0 * 0 ≤ 1000000 ∧ 0 * 0 ≤ 1000000 ∧ 0 * 0 ≤ 1000000) := ⟨sq8 (by omega) (by omega), sq8 (by omega) (by omega), sq8 (by omega) (by omega), sq8 (by omega) (by omega)⟩
    have HMg := hid (merge8 (Iv u.heap.size w6.heap.size) (Iv w6.heap.size w7.heap.size) w8 u.heap.size w6.heap.size 0 0 _ _ _ _ S8.out.2.2.1 S8.out.2.2.2.1 (fun j q1 q2 => by have := q1.2; have := q2.1; omega) (by omega) (by decide))
    go_wp2_with fail
    with_reducible refine HMg.out.mono ?_
    rintro r w9 ⟨rfl, s1, t1⟩
    have S9 : Aside (Sx (Iv w2.heap.size w3.heap.size) w9 w2.heap.size 0 (fvL ([] : List Nat)) (0 * 0) ∧ Sx (Iv w4.heap.size u.heap.size) w9 w4.heap.size nm (fvL ([] : List Nat)) (nm * nm) ∧ Sx (Gr (Iv u.heap.size w6.heap.size) w8 w9) w9 u.heap.size 0 (fvL ([] : List Nat)) (0 * 0 * 0 * 0) ∧ Sx (Iv w6.heap.size w7.heap.size) w9 w6.heap.size 0 (fvL (([] : List Nat).drop 0)) (0 * 0) ∧ Sx (Iv w7.heap.size w8.heap.size) w9 w7.heap.size 0 (fvL (([] : List Nat).take 0)) (0 * 0) ∧ Below w.heap.size w w9 ∧ w8.heap.size ≤ w9.heap.size) := by
      obtain ⟨z1, z2, z3⟩ := hz.out
      have z4 := S8.out.2.2.2.2.2.2.1
      have z5 := S8.out.2.2.2.2.2.2.2.1
      have z6 := S8.out.2.2.2.2.2.2.2.2
      refine ⟨S8.out.1.keep t1 (fun j q1 q2 => by have := q1.2; have := q2.1; omega), S8.out.2.1.keep t1 (fun j q1 q2 => by have := q1.2; have := q2.1; omega), by rw [← fvL_cut ([] : List Nat) 0]; exact s1, S8.out.2.2.2.1.keep t1 (fun j q1 q2 => by have := q1.1; have := q2.2; omega), S8.out.2.2.2.2.1.keep t1 (fun j q1 q2 => by have := q1.1; have := q2.2; omega), Tch.below S8.out.2.2.2.2.2.1 t1 (fun j q => Nat.le_trans HZ45.out.2 q.1) S8.out.2.2.2.2.2.1.size, t1.size⟩
    clear s1 t1 HMg
    have HMg := hid (merge8 (Iv w6.heap.size w7.heap.size) (Iv w7.heap.size w8.heap.size) w9 w6.heap.size w7.heap.size 0 0 _ _ _ _ S9.out.2.2.2.1 S9.out.2.2.2.2.1 (fun j q1 q2 => by have := q1.2; have := q2.1; omega) (by omega) (by decide))
    go_wp2_with fail
    with_reducible refine HMg.out.mono ?_
    rintro r w10 ⟨rfl, s1, t1⟩
    have S10 : Aside (Sx (Iv w2.heap.size w3.heap.size) w10 w2.heap.size 0 (fvL ([] : List Nat)) (0 * 0) ∧ Sx (Iv w4.heap.size u.heap.size) w10 w4.heap.size nm (fvL ([] : List Nat)) (nm * nm) ∧ Sx (Gr (Iv u.heap.size w6.heap.size) w8 w9) w10 u.heap.size 0 (fvL ([] : List Nat)) (0 * 0 * 0 * 0) ∧ Sx (Gr (Iv w6.heap.size w7.heap.size) w9 w10) w10 w6.heap.size (0) (fvL ([] : List Nat)) (0 * 0 * 0 * (0)) ∧ Below w.heap.size w w10) := by
      obtain ⟨z1, z2, z3⟩ := hz.out
      have z4 := S8.out.2.2.2.2.2.2.1
      have z5 := S8.out.2.2.2.2.2.2.2.1
      have z6 := S8.out.2.2.2.2.2.2.2.2
      refine ⟨S9.out.1.keep t1 (fun j q1 q2 => by have := q1.2; have := q2.1; omega), S9.out.2.1.keep t1 (fun j q1 q2 => by have := q1.2; have := q2.1; omega), S9.out.2.2.1.keep t1 (fun j q1 q2 => by
        rcases q1 with q1 | q1
        · have := q1.2; have := q2.1; omega
        · have := q1.1; have := q2.2; omega), by rw [← fvL_cut ([] : List Nat) 0, Int.add_comm]; exact s1, Tch.below S9.out.2.2.2.2.2.1 t1 (fun j q => Nat.le_trans (Nat.le_trans HZ45.out.2 z4) q.1) S9.out.2.2.2.2.2.1.size⟩
    clear s1 t1 HMg
    have HX := hid (alike8 _ _ w10 _ _ _ _ _ _ _ S10.out.1 S10.out.2.1 (HR.out.1.belows S10.out.2.2.2.2))
    go_wp2_with fail
    with_reducible refine HX.out.mono ?_
    rintro r w11 ⟨rfl, hb⟩
    have S11 := Aside.intro (And.intro (S10.out.1.bel9 hb) (And.intro (S10.out.2.2.1.below hb) (And.intro (S10.out.2.2.2.1.below hb) (S10.out.2.2.2.2.trans (hb.mono S10.out.2.2.2.2.size)))))
    clear hb HX
    have HX := hid (alike8 _ _ w11 _ _ _ _ _ _ _ S11.out.1 S11.out.2.1 (HR.out.1.belows S11.out.2.2.2))
    go_wp2_with fail
    with_reducible refine HX.out.mono ?_
    rintro r w12 ⟨rfl, hb⟩
    have S12 := Aside.intro (And.intro (S11.out.1.bel9 hb) (And.intro (S11.out.2.2.1.below hb) (S11.out.2.2.2.trans (hb.mono S11.out.2.2.2.size))))
    clear hb HX
    have HX := hid (alike8 _ _ w12 _ _ _ _ _ _ _ S12.out.1 S12.out.2.1 (HR.out.1.belows S12.out.2.2))
    go_wp2_with fail
    with_reducible refine HX.out.mono ?_
    rintro r w13 ⟨rfl, hb⟩
    have S13 := Aside.intro (S12.out.2.2.trans (hb.mono S12.out.2.2.size))
    clear hb HX
    go_wp2
    go_ret
    exact ⟨rfl, S13.out⟩
  · rw [← hn] at hL3 hcp ⊢
    clear hgv
    have HL := Aside.intro (And.intro hL1 (And.intro hL2 (And.intro hn (And.intro hL3 (Fs.of_fr hL3)))))
    clear hL1 hL2 hL3 hb HF hn
    have hn5 : n ≤ 1000 := by have := HL.out.2.1; have := HL.out.2.2.1; omega
    have HA := hid (told8 w2 (some ⟨gv, 0, none⟩) n cp L HL.out.2.2.1 hn5 HL.out.1 HL.out.2.2.2.2)
    go_wp2_with fail
    with_reducible refine HA.out.mono ?_
    rintro r w3 ⟨rfl, s1, hb⟩
    have S3 := Aside.intro (And.intro s1 (And.intro hb (B2.out.trans (hb.mono B2.out.size))))
    have HM : Hid (Calls Tryd.prog 26 #[.slice (some ⟨gv, 0, none⟩) n cp, .slice a2 n2 c2] w3 fun r w' => ∃ v' M, r = .returned v' ∧ M.Perm L ∧ Fr w3.heap.size w' v' M ∧ Below w3.heap.size w3 w') := by
      obtain ⟨q1, q2, q3, q4⟩ := HR.out.2.2
      have q2' : Is7 w3.heap.size w3 a2 bs := by
        intro hne
        obtain ⟨b, off, h1, h2, h3⟩ := q2 hne
        exact ⟨b, off, Nat.lt_of_lt_of_le h1 S3.out.2.2.size, h2, fun i hi => (S3.out.2.2.cell (p := ⟨b, off + i, none⟩) h1).trans (h3 i hi)⟩
      exact mixed8 w3 _ L ((HL.out.2.2.2.1.below hb).mono (Nat.zero_le _)) HL.out.2.1 a2 n2 c2 bs q1 q2' q3 q4
    clear s1 hb HA
    go_wp2_with fail
    with_reducible refine HM.out.mono ?_
    rintro r w4 ⟨vm, M, rfl, hp, hf, hb⟩
    obtain ⟨am, nm, cm, rfl⟩ := hf.slice
    have hnm := hf.len8
    have hMl : M.length = L.length := hp.length_eq
    have HB := hid (told8 w4 am nm cm M hnm (by have := HL.out.2.1; omega) (HL.out.1.perm hp.symm) (Fs.of_fr hf))
    have S4 := Aside.intro (And.intro (S3.out.1.bel9 hb) (And.intro (S3.out.2.1.trans (hb.mono S3.out.2.1.size)) (And.intro (S3.out.2.2.trans (hb.mono S3.out.2.2.size)) (And.intro (fvL_perm hp) (And.intro hMl hnm)))))
    have HZ34 : Aside (w3.heap.size ≤ w4.heap.size) := hb.size
    clear hp hf hb hnm hMl HM
    go_wp2_with fail
    with_reducible refine HB.out.mono ?_
    rintro r w5 ⟨rfl, s1, hb⟩
    have S5 := Aside.intro (And.intro (S4.out.1.bel9 hb) (And.intro (show Sx (Iv w4.heap.size w5.heap.size) w5 w4.heap.size nm (fvL L) (nm * nm) by rw [← S4.out.2.2.2.1]; exact s1) (And.intro (S4.out.2.1.trans (hb.mono S4.out.2.1.size)) (S4.out.2.2.1.trans (hb.mono S4.out.2.2.1.size)))))
    have HZ45 : Aside (w4.heap.size ≤ w5.heap.size ∧ w.heap.size ≤ w5.heap.size) := ⟨hb.size, Nat.le_trans S4.out.2.2.1.size hb.size⟩
    have HPk := hid (pick8 cut (n + 1) w5 hc0 hc1 (by omega) (by omega))
    rw [show ((n + 1 : Nat) : Int) = (n : Int) + 1 from by omega] at HPk
    clear s1 hb HB
    go_wp2_with fail
    with_reducible refine HPk.out.mono ?_
    rintro r u ⟨k, rfl, hk, rfl⟩
    have hkn : k ≤ n := by omega
    clear HPk hk
    have FS : Aside (∀ W, Below w2.heap.size w2 W → Fs W.heap.size W (some ⟨gv, 0, none⟩) (L.take k)) := fun W hW => (HL.out.2.2.2.2.bel8 hW hW.size).take8 k
    have HK : Aside (k = (L.take k).length ∧ k ≤ 1000 ∧ FinL (L.take k)) := ⟨by rw [List.length_take]; have := HL.out.2.2.1; omega, by omega, HL.out.1.take k⟩
    have HC := hid (told8 u (some ⟨gv, 0, none⟩) k cp (L.take k) HK.out.1 HK.out.2.1 HK.out.2.2 (FS.out u S5.out.2.2.1))
    go_wp2_with fail
    with_reducible refine HC.out.mono ?_
    rintro r w6 ⟨rfl, s1, hb⟩
    have S6 := Aside.intro (And.intro (S5.out.1.bel9 hb) (And.intro (S5.out.2.1.bel9 hb) (And.intro (show Sx (Iv u.heap.size w6.heap.size) w6 u.heap.size k (fvL (L.take k)) (k * k) from s1) (And.intro (S5.out.2.2.1.trans (hb.mono S5.out.2.2.1.size)) (And.intro (S5.out.2.2.2.trans (hb.mono S5.out.2.2.2.size)) hb.size)))))
    clear s1 hb HC
    by_cases hck : cp = k
    · obtain rfl := hck
      have HD := hid (told8 w6 (some ⟨gv, 0, none⟩) (n - cp) (0) (L.drop cp) (by rw [List.length_drop]; have := HL.out.2.2.1; omega) (by omega) (HL.out.1.drop cp) ((HL.out.2.2.2.2.bel8 S6.out.2.2.2.1 S6.out.2.2.2.1.size).drop8 (off0 := 0) cp 0 (fun q => by have := HL.out.2.2.1; omega)))
      rw [show n - cp = 0 by omega] at HD
      go_wp2_with fail
      with_reducible refine HD.out.mono ?_
      rintro r w7 ⟨rfl, s1, hb⟩
      have S7 := Aside.intro (And.intro (S6.out.1.bel9 hb) (And.intro (S6.out.2.1.bel9 hb) (And.intro (S6.out.2.2.1.bel9 hb) (And.intro (show Sx (Iv w6.heap.size w7.heap.size) w7 w6.heap.size 0 (fvL (L.drop cp)) (0 * 0) from s1) (And.intro (S6.out.2.2.2.1.trans (hb.mono S6.out.2.2.2.1.size)) (And.intro (S6.out.2.2.2.2.1.trans (hb.mono S6.out.2.2.2.2.1.size)) (And.intro S6.out.2.2.2.2.2 hb.size)))))))
      clear s1 hb HD
      have HC := hid (told8 w7 (some ⟨gv, 0, none⟩) cp cp (L.take cp) HK.out.1 HK.out.2.1 HK.out.2.2 (FS.out w7 S7.out.2.2.2.2.1))
      go_wp2_with fail
      with_reducible refine HC.out.mono ?_
      rintro r w8 ⟨rfl, s1, hb⟩
      have S8 := Aside.intro (And.intro (S7.out.1.bel9 hb) (And.intro (S7.out.2.1.bel9 hb) (And.intro (S7.out.2.2.1.bel9 hb) (And.intro (S7.out.2.2.2.1.bel9 hb) (And.intro (show Sx (Iv w7.heap.size w8.heap.size) w8 w7.heap.size cp (fvL (L.take cp)) (cp * cp) from s1) (And.intro (S7.out.2.2.2.2.2.1.trans (hb.mono S7.out.2.2.2.2.2.1.size)) (And.intro S7.out.2.2.2.2.2.2.1 (And.intro S7.out.2.2.2.2.2.2.2 hb.size))))))))
      clear s1 hb HC
      have hz : Aside (w2.heap.size ≤ w3.heap.size ∧ w3.heap.size ≤ w4.heap.size ∧ w4.heap.size ≤ u.heap.size) := ⟨S3.out.2.1.size, HZ34.out, HZ45.out.1⟩
      have sqa : Aside (cp * cp ≤ 1000000 ∧ 0 * 0 ≤ 1000000 ∧ 0 * (cp + 0) ≤ 1000000 ∧ cp * (0 + cp) ≤ 1000000) := ⟨sq8 (by omega) (by omega), sq8 (by omega) (by omega), sq8 (by omega) (by omega), sq8 (by omega) (by omega)⟩
      have HMg := hid (merge8 (Iv u.heap.size w6.heap.size) (Iv w6.heap.size w7.heap.size) w8 u.heap.size w6.heap.size cp 0 _ _ _ _ S8.out.2.2.1 S8.out.2.2.2.1 (fun j q1 q2 => by have := q1.2; have := q2.1; omega) (by omega) (by have := sqa.out; omega))
      go_wp2_with fail
      with_reducible refine HMg.out.mono ?_
      rintro r w9 ⟨rfl, s1, t1⟩
      have S9 : Aside (Sx (Iv w2.heap.size w3.heap.size) w9 w2.heap.size n (fvL L) (n * n) ∧ Sx (Iv w4.heap.size u.heap.size) w9 w4.heap.size nm (fvL L) (nm * nm) ∧ Sx (Gr (Iv u.heap.size w6.heap.size) w8 w9) w9 u.heap.size (cp + 0) (fvL L) (cp * cp + 0 * 0 + 0 * (cp + 0)) ∧ Sx (Iv w6.heap.size w7.heap.size) w9 w6.heap.size 0 (fvL (L.drop cp)) (0 * 0) ∧ Sx (Iv w7.heap.size w8.heap.size) w9 w7.heap.size cp (fvL (L.take cp)) (cp * cp) ∧ Below w.heap.size w w9 ∧ w8.heap.size ≤ w9.heap.size) := by
        obtain ⟨z1, z2, z3⟩ := hz.out
        have z4 := S8.out.2.2.2.2.2.2.1
        have z5 := S8.out.2.2.2.2.2.2.2.1
        have z6 := S8.out.2.2.2.2.2.2.2.2
        refine ⟨S8.out.1.keep t1 (fun j q1 q2 => by have := q1.2; have := q2.1; omega), S8.out.2.1.keep t1 (fun j q1 q2 => by have := q1.2; have := q2.1; omega), by rw [← fvL_cut L cp]; exact s1, S8.out.2.2.2.1.keep t1 (fun j q1 q2 => by have := q1.1; have := q2.2; omega), S8.out.2.2.2.2.1.keep t1 (fun j q1 q2 => by have := q1.1; have := q2.2; omega), Tch.below S8.out.2.2.2.2.2.1 t1 (fun j q => Nat.le_trans HZ45.out.2 q.1) S8.out.2.2.2.2.2.1.size, t1.size⟩
      clear s1 t1 HMg
      have HMg := hid (merge8 (Iv w6.heap.size w7.heap.size) (Iv w7.heap.size w8.heap.size) w9 w6.heap.size w7.heap.size 0 cp _ _ _ _ S9.out.2.2.2.1 S9.out.2.2.2.2.1 (fun j q1 q2 => by have := q1.2; have := q2.1; omega) (by omega) (by have := sqa.out; omega))
      go_wp2_with fail
      with_reducible refine HMg.out.mono ?_
      rintro r w10 ⟨rfl, s1, t1⟩
      have S10 : Aside (Sx (Iv w2.heap.size w3.heap.size) w10 w2.heap.size n (fvL L) (n * n) ∧ Sx (Iv w4.heap.size u.heap.size) w10 w4.heap.size nm (fvL L) (nm * nm) ∧ Sx (Gr (Iv u.heap.size w6.heap.size) w8 w9) w10 u.heap.size (cp + 0) (fvL L) (cp * cp + 0 * 0 + 0 * (cp + 0)) ∧ Sx (Gr (Iv w6.heap.size w7.heap.size) w9 w10) w10 w6.heap.size (0 + cp) (fvL L) (0 * 0 + cp * cp + cp * (0 + cp)) ∧ Below w.heap.size w w10) := by
        obtain ⟨z1, z2, z3⟩ := hz.out
        have z4 := S8.out.2.2.2.2.2.2.1
        have z5 := S8.out.2.2.2.2.2.2.2.1
        have z6 := S8.out.2.2.2.2.2.2.2.2
        refine ⟨S9.out.1.keep t1 (fun j q1 q2 => by have := q1.2; have := q2.1; omega), S9.out.2.1.keep t1 (fun j q1 q2 => by have := q1.2; have := q2.1; omega), S9.out.2.2.1.keep t1 (fun j q1 q2 => by
          rcases q1 with q1 | q1
          · have := q1.2; have := q2.1; omega
          · have := q1.1; have := q2.2; omega), by rw [← fvL_cut L cp, Int.add_comm]; exact s1, Tch.below S9.out.2.2.2.2.2.1 t1 (fun j q => Nat.le_trans (Nat.le_trans HZ45.out.2 z4) q.1) S9.out.2.2.2.2.2.1.size⟩
      clear s1 t1 HMg
      have HX := hid (alike8 _ _ w10 _ _ _ _ _ _ _ S10.out.1 S10.out.2.1 (HR.out.1.belows S10.out.2.2.2.2))
      go_wp2_with fail
      with_reducible refine HX.out.mono ?_
      rintro r w11 ⟨rfl, hb⟩
      have S11 := Aside.intro (And.intro (S10.out.1.bel9 hb) (And.intro (S10.out.2.2.1.below hb) (And.intro (S10.out.2.2.2.1.below hb) (S10.out.2.2.2.2.trans (hb.mono S10.out.2.2.2.2.size)))))
      clear hb HX
      have HX := hid (alike8 _ _ w11 _ _ _ _ _ _ _ S11.out.1 S11.out.2.1 (HR.out.1.belows S11.out.2.2.2))
      go_wp2_with fail
      with_reducible refine HX.out.mono ?_
      rintro r w12 ⟨rfl, hb⟩
      have S12 := Aside.intro (And.intro (S11.out.1.bel9 hb) (And.intro (S11.out.2.2.1.below hb) (S11.out.2.2.2.trans (hb.mono S11.out.2.2.2.size))))
      clear hb HX
      have HX := hid (alike8 _ _ w12 _ _ _ _ _ _ _ S12.out.1 S12.out.2.1 (HR.out.1.belows S12.out.2.2))
      go_wp2_with fail
      with_reducible refine HX.out.mono ?_
      rintro r w13 ⟨rfl, hb⟩
      have S13 := Aside.intro (S12.out.2.2.trans (hb.mono S12.out.2.2.size))
      clear hb HX
      go_wp2
      go_ret
      exact ⟨rfl, S13.out⟩
    · skip
      have HD := hid (told8 w6 (some ⟨gv, k, none⟩) (n - k) (cp - k) (L.drop k) (by rw [List.length_drop]; have := HL.out.2.2.1; omega) (by omega) (HL.out.1.drop k) ((HL.out.2.2.2.2.bel8 S6.out.2.2.2.1 S6.out.2.2.2.1.size).drop8 (off0 := 0) k k (fun _ => rfl)))
      go_wp2_with fail
      with_reducible refine HD.out.mono ?_
      rintro r w7 ⟨rfl, s1, hb⟩
      have S7 := Aside.intro (And.intro (S6.out.1.bel9 hb) (And.intro (S6.out.2.1.bel9 hb) (And.intro (S6.out.2.2.1.bel9 hb) (And.intro (show Sx (Iv w6.heap.size w7.heap.size) w7 w6.heap.size (n - k) (fvL (L.drop k)) ((n - k) * (n - k)) from s1) (And.intro (S6.out.2.2.2.1.trans (hb.mono S6.out.2.2.2.1.size)) (And.intro (S6.out.2.2.2.2.1.trans (hb.mono S6.out.2.2.2.2.1.size)) (And.intro S6.out.2.2.2.2.2 hb.size)))))))
      clear s1 hb HD
      have HC := hid (told8 w7 (some ⟨gv, 0, none⟩) k cp (L.take k) HK.out.1 HK.out.2.1 HK.out.2.2 (FS.out w7 S7.out.2.2.2.2.1))
      go_wp2_with fail
      with_reducible refine HC.out.mono ?_
      rintro r w8 ⟨rfl, s1, hb⟩
      have S8 := Aside.intro (And.intro (S7.out.1.bel9 hb) (And.intro (S7.out.2.1.bel9 hb) (And.intro (S7.out.2.2.1.bel9 hb) (And.intro (S7.out.2.2.2.1.bel9 hb) (And.intro (show Sx (Iv w7.heap.size w8.heap.size) w8 w7.heap.size k (fvL (L.take k)) (k * k) from s1) (And.intro (S7.out.2.2.2.2.2.1.trans (hb.mono S7.out.2.2.2.2.2.1.size)) (And.intro S7.out.2.2.2.2.2.2.1 (And.intro S7.out.2.2.2.2.2.2.2 hb.size))))))))
      clear s1 hb HC
      have hz : Aside (w2.heap.size ≤ w3.heap.size ∧ w3.heap.size ≤ w4.heap.size ∧ w4.heap.size ≤ u.heap.size) := ⟨S3.out.2.1.size, HZ34.out, HZ45.out.1⟩
      have sqa : Aside (k * k ≤ 1000000 ∧ (n - k) * (n - k) ≤ 1000000 ∧ (n - k) * (k + (n - k)) ≤ 1000000 ∧ k * ((n - k) + k) ≤ 1000000) := ⟨sq8 (by omega) (by omega), sq8 (by omega) (by omega), sq8 (by omega) (by omega), sq8 (by omega) (by omega)⟩
      have HMg := hid (merge8 (Iv u.heap.size w6.heap.size) (Iv w6.heap.size w7.heap.size) w8 u.heap.size w6.heap.size k (n - k) _ _ _ _ S8.out.2.2.1 S8.out.2.2.2.1 (fun j q1 q2 => by have := q1.2; have := q2.1; omega) (by omega) (by have := sqa.out; omega))
      go_wp2_with fail
      with_reducible refine HMg.out.mono ?_
      rintro r w9 ⟨rfl, s1, t1⟩
      have S9 : Aside (Sx (Iv w2.heap.size w3.heap.size) w9 w2.heap.size n (fvL L) (n * n) ∧ Sx (Iv w4.heap.size u.heap.size) w9 w4.heap.size nm (fvL L) (nm * nm) ∧ Sx (Gr (Iv u.heap.size w6.heap.size) w8 w9) w9 u.heap.size (k + (n - k)) (fvL L) (k * k + (n - k) * (n - k) + (n - k) * (k + (n - k))) ∧ Sx (Iv w6.heap.size w7.heap.size) w9 w6.heap.size (n - k) (fvL (L.drop k)) ((n - k) * (n - k)) ∧ Sx (Iv w7.heap.size w8.heap.size) w9 w7.heap.size k (fvL (L.take k)) (k * k) ∧ Below w.heap.size w w9 ∧ w8.heap.size ≤ w9.heap.size) := by
        obtain ⟨z1, z2, z3⟩ := hz.out
        have z4 := S8.out.2.2.2.2.2.2.1
        have z5 := S8.out.2.2.2.2.2.2.2.1
        have z6 := S8.out.2.2.2.2.2.2.2.2
        refine ⟨S8.out.1.keep t1 (fun j q1 q2 => by have := q1.2; have := q2.1; omega), S8.out.2.1.keep t1 (fun j q1 q2 => by have := q1.2; have := q2.1; omega), by rw [← fvL_cut L k]; exact s1, S8.out.2.2.2.1.keep t1 (fun j q1 q2 => by have := q1.1; have := q2.2; omega), S8.out.2.2.2.2.1.keep t1 (fun j q1 q2 => by have := q1.1; have := q2.2; omega), Tch.below S8.out.2.2.2.2.2.1 t1 (fun j q => Nat.le_trans HZ45.out.2 q.1) S8.out.2.2.2.2.2.1.size, t1.size⟩
      clear s1 t1 HMg
      have HMg := hid (merge8 (Iv w6.heap.size w7.heap.size) (Iv w7.heap.size w8.heap.size) w9 w6.heap.size w7.heap.size (n - k) k _ _ _ _ S9.out.2.2.2.1 S9.out.2.2.2.2.1 (fun j q1 q2 => by have := q1.2; have := q2.1; omega) (by omega) (by have := sqa.out; omega))
      go_wp2_with fail
      with_reducible refine HMg.out.mono ?_
      rintro r w10 ⟨rfl, s1, t1⟩
      have S10 : Aside (Sx (Iv w2.heap.size w3.heap.size) w10 w2.heap.size n (fvL L) (n * n) ∧ Sx (Iv w4.heap.size u.heap.size) w10 w4.heap.size nm (fvL L) (nm * nm) ∧ Sx (Gr (Iv u.heap.size w6.heap.size) w8 w9) w10 u.heap.size (k + (n - k)) (fvL L) (k * k + (n - k) * (n - k) + (n - k) * (k + (n - k))) ∧ Sx (Gr (Iv w6.heap.size w7.heap.size) w9 w10) w10 w6.heap.size (n - k + k) (fvL L) ((n - k) * (n - k) + k * k + k * (n - k + k)) ∧ Below w.heap.size w w10) := by
        obtain ⟨z1, z2, z3⟩ := hz.out
        have z4 := S8.out.2.2.2.2.2.2.1
        have z5 := S8.out.2.2.2.2.2.2.2.1
        have z6 := S8.out.2.2.2.2.2.2.2.2
        refine ⟨S9.out.1.keep t1 (fun j q1 q2 => by have := q1.2; have := q2.1; omega), S9.out.2.1.keep t1 (fun j q1 q2 => by have := q1.2; have := q2.1; omega), S9.out.2.2.1.keep t1 (fun j q1 q2 => by
          rcases q1 with q1 | q1
          · have := q1.2; have := q2.1; omega
          · have := q1.1; have := q2.2; omega), by rw [← fvL_cut L k, Int.add_comm]; exact s1, Tch.below S9.out.2.2.2.2.2.1 t1 (fun j q => Nat.le_trans (Nat.le_trans HZ45.out.2 z4) q.1) S9.out.2.2.2.2.2.1.size⟩
      clear s1 t1 HMg
      have HX := hid (alike8 _ _ w10 _ _ _ _ _ _ _ S10.out.1 S10.out.2.1 (HR.out.1.belows S10.out.2.2.2.2))
      go_wp2_with fail
      with_reducible refine HX.out.mono ?_
      rintro r w11 ⟨rfl, hb⟩
      have S11 := Aside.intro (And.intro (S10.out.1.bel9 hb) (And.intro (S10.out.2.2.1.below hb) (And.intro (S10.out.2.2.2.1.below hb) (S10.out.2.2.2.2.trans (hb.mono S10.out.2.2.2.2.size)))))
      clear hb HX
      have HX := hid (alike8 _ _ w11 _ _ _ _ _ _ _ S11.out.1 S11.out.2.1 (HR.out.1.belows S11.out.2.2.2))
      go_wp2_with fail
      with_reducible refine HX.out.mono ?_
      rintro r w12 ⟨rfl, hb⟩
      have S12 := Aside.intro (And.intro (S11.out.1.bel9 hb) (And.intro (S11.out.2.2.1.below hb) (S11.out.2.2.2.trans (hb.mono S11.out.2.2.2.size))))
      clear hb HX
      have HX := hid (alike8 _ _ w12 _ _ _ _ _ _ _ S12.out.1 S12.out.2.1 (HR.out.1.belows S12.out.2.2))
      go_wp2_with fail
      with_reducible refine HX.out.mono ?_
      rintro r w13 ⟨rfl, hb⟩
      have S13 := Aside.intro (S12.out.2.2.trans (hb.mono S12.out.2.2.size))
      clear hb HX
      go_wp2
      go_ret
      exact ⟨rfl, S13.out⟩
end Go.Proofs.YtnnlicahgdcbdaaDoor

/- SpreadOrder: what came in. -/
namespace Go.Proofs.YtnnlicahgdcbdaaDoor
open Go.RowKit
set_option linter.unusedVariables false
set_option maxRecDepth 20000
theorem walk2_SpreadOrder (o1 : Option Addr) (n1 c1 : Nat) (x1 : List Nat) (o2 : Option Addr) (n2 c2 : Nat) (x2 : List Int) (cut : Int) (w : World) (hT : Tab w) (w1 : CameF w o1 n1 c1 x1) (w2 : CameI w o2 n2 c2 x2) (w3 : (Lit.int .i64 cut).wf = true)
    (b1 : n1 ≤ 17592186043904) (b2 : n2 ≤ 17592186043904) :
    Calls Tryd.prog 5 #[.slice o1 n1 c1, .slice o2 n2 c2, .int .i64 cut] w fun r w' => r = .returned (.bool true) ∧ Below w.heap.size w w' := by
  have hw' : -9223372036854775808 ≤ cut ∧ cut ≤ 9223372036854775807 := by
    simp [Lit.wf, IntKind.min, IntKind.max, IntKind.signed, IntKind.bits] at w3
    omega
  exact walk_SpreadOrder x1 x2 o1 o2 n1 n2 c1 c2 cut w hT w1.len w2.len w1.rd w2.rd w1.wf w2.wf (by omega) (by omega) hw'.1 hw'.2
end Go.Proofs.YtnnlicahgdcbdaaDoor

