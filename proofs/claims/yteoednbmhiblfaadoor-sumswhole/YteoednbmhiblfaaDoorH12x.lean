/- live: the law's first look. -/
import Derived.Test.YteoednbmhiblfaaDoorD24x
import Derived.Test.YteoednbmhiblfaaDoorN1x
import Derived.Test.YteoednbmhiblfaaDoorD7x
import Derived.Test.YteoednbmhiblfaaDoorM1x
import Derived.BigQuiet
import Derived.Test.YteoednbmhiblfaaDoorW10x
import Derived.OwnWalk
import Derived.ArgAppend
import Derived.Maps.AppendAt
import Derived.WalkMore
import Derived.Deep.RegionHeld
import Derived.Test.YteoednbmhiblfaaDoorS11ax
import Derived.ProofKit
import Derived.OpenShut
import Derived.ChangeOld
import Derived.ChangeArms
import Derived.SizedLaws
import Derived.Laws.Cover2
import Derived.KernelRfl
namespace Go.Proofs.YteoednbmhiblfaaDoor
open Go.RowKit J
set_option linter.unusedVariables false
set_option maxRecDepth 20000
set_option linter.unusedSimpArgs false

theorem ldexp_pow10 (e E : Nat) (x : Int) (w : World) (he0 : 0 < e) (he1 : e < 2047) (hE0 : 0 < E) (hE : E < 2047) (hx0 : -3000 ≤ x) (hx1 : x ≤ 3000) (hxE : (E : Int) = x + e) :
    Calls Tryd.prog 31 #[.float .f64 (B.bw false e 0), .int .i64 x] w fun r w' => r = .returned (.float .f64 (B.bw false E 0)) ∧ w' = w := by
  have hb : B.bw false e 0 = e * 4503599627370496 + 0 := by unfold B.bw; simp
  have hd : B.bw false E 0 = E * 4503599627370496 + 0 := by unfold B.bw; simp
  exact B.ldexp_norm (B.bw false e 0) e 0 (B.bw false E 0) x (x + ((e : Int) - 1023)) ((E : Int) * 4503599627370496) w (by rw [hb]; omega) hx0 hx1 he0 he1 (by omega)
    (by rw [B.eq_zero false e 0 (by omega) (by omega)]; simp; omega) (hid fun u => B.isInf0 e 0 (by omega) (by omega) u) (hid fun u => B.nan_no e 0 (by omega) (by omega) u) (hid fun u => B.normalize_any e 0 he0 (by omega) (by omega) u)
    (B.bw_exp false e 0 (by omega) (by omega)) (B.mask_clear e 0 (by omega) (by omega)) rfl (by omega) (by omega) (by omega) (by omega) (by omega) (B.join_exp E 0 (by omega) (by omega)) (B.mul_one _ (by rw [hd]; omega) (by rw [hd]; omega) _)
set_option maxHeartbeats 1000000 in
theorem Ldexp100 (w : World) : Calls Tryd.prog 14 #[.float .f64 4607182418800017408, .int .i64 100] w fun r w' => r = .returned (.float .f64 5057542381537067008) ∧ w' = w := by
  have H := hid (ldexp_pow10 1023 1123 100 w (by decide) (by decide) (by decide) (by decide) (by decide) (by decide) (by decide))
  rw [show B.bw false 1023 0 = 4607182418800017408 by decide, show B.bw false 1123 0 = 5057542381537067008 by decide] at H
  go_enter Tryd.func14, Tryd.ntmps14
  go_wp2_with fail
  refine H.out.mono ?_
  rintro r w1 ⟨rfl, rfl⟩
  go_wp2
  go_ret
  exact ⟨rfl, rfl⟩
def lvL : List Nat := [4607182418800017408, 5057542381537067008, 4607182418800017408, 14280914418391842816]
theorem lv_run : runF lvL = 0 := by kernel_rfl
theorem lv_ne : plF (neF lvL).1 (neF lvL).2 = 4611686018427387904 := by kernel_rfl
theorem lv_run2 : runF [4607182418800017408, 4611686018427387904] = 4613937818241073152 := by kernel_rfl
theorem lv_s : sS lvL = ⟨0, 0, 0, 0, 0, 4⟩ := by kernel_rfl
theorem lv_v (k : Nat) (hk : k = 2149) : vS lvL = ((2 ^ k : Nat) : Int) := by
  obtain ⟨j, hj⟩ : ∃ j, j = 2144 := ⟨_, rfl⟩
  obtain ⟨i, hi⟩ : ∃ i, i = 2248 := ⟨_, rfl⟩
  obtain ⟨m, hm⟩ : ∃ m, m = 2148 := ⟨_, rfl⟩
  have h1 := pT_one m hm
  have h2 := pT_pow 5057542381537067008 false j i (by decide) (by decide) (by decide) (by rw [hj]; decide) (by omega)
  have h3 := pT_pow 14280914418391842816 true j i (by decide) (by decide) (by decide) (by rw [hj]; decide) (by omega)
  simp only [vS, lvL, List.foldl_cons, List.foldl_nil]
  rw [h1, h2, h3, show k = m + 1 by omega, Nat.pow_succ]
  unfold sgn7
  simp only [Bool.false_eq_true, if_false, if_true]
  generalize (2 ^ m : Nat) = A
  generalize (2 ^ i : Nat) = C
  omega
theorem lv_rd : rd7 (vS lvL) (sS lvL) 0 0 0 = (4611686018427387904, 0) := by
  obtain ⟨k, hk⟩ : ∃ k, k = 2149 := ⟨_, rfl⟩
  rw [lv_v k hk, lv_s]
  have h0 : ((2 ^ k : Nat) : Int) ≠ 0 := by have := Nat.two_pow_pos k; omega
  have e : ahd ((2 ^ k : Nat) : Int) ⟨0, 0, 0, 0, 0, 4⟩ 0 0 0 = (0, false, 0) := by
    unfold ahd
    rw [if_neg (by decide), if_neg h0]
  have ex : exV ((2 ^ k : Nat) : Int) = some (false, 1, 1) := by
    unfold exV
    rw [decide_eq_false (Int.not_lt.mpr (Int.natCast_nonneg _)), Int.natAbs_natCast, mkS_pow7, hk]
    kernel_rfl
  have e2 : rndS (mkS (dN (some (false, 1, 1))) (dX (some (false, 1, 1))) (dE (some (false, 1, 1)))) 0 = (4611686018427387904, 0) := by kernel_rfl
  unfold rd7
  rw [e, ex, e2]
  rfl

set_option maxHeartbeats 4000000 in
theorem live10 (w : World) (hT : Tab w) : Calls Tryd.prog 5 #[] w fun r w' => r = .returned (.bool true) ∧ Below w.heap.size w w' := by
  have HL := hid (fun u : World => Ldexp100 u)
  have hneg : ∀ u : World, Sem.run Tryd.prog (Op.unary UnOp.neg (Value.float FloatKind.f64 5057542381537067008)) u = .ok (.float .f64 14280914418391842816) u := fun u => by kernel_rfl
  have HT := Aside.intro hT
  clear hT
  go_enter Tryd.func5, Tryd.ntmps5
  go_wp2_with fail
  refine (HL.out _).mono ?_
  rintro r u ⟨rfl, rfl⟩
  clear HL
  obtain ⟨W, hW⟩ : ∃ W, W = u.alloc (.cells #[.float .f64 4607182418800017408, .float .f64 5057542381537067008, .float .f64 4607182418800017408, .float .f64 14280914418391842816] 24) := ⟨_, rfl⟩
  have HW : Aside (Bl W u.heap.size 24 [.float .f64 4607182418800017408, .float .f64 5057542381537067008, .float .f64 4607182418800017408, .float .f64 14280914418391842816] ∧ Below u.heap.size u W ∧ u.heap.size < W.heap.size) := by
    rw [hW]; exact ⟨Bl.new _ _ _, bel_alloc _ _, by simp⟩
  have HF : Aside (∀ v : World, Below W.heap.size W v → Fs v.heap.size v (some ⟨u.heap.size, 0, none⟩) lvL) := fun v hb => by
    have hbl := HW.out.1.below hb HW.out.2.2
    refine fun _ => ⟨u.heap.size, 0, hbl.lt, rfl, fun i hi => ?_⟩
    have hc : i = 0 ∨ i = 1 ∨ i = 2 ∨ i = 3 := by simp [lvL] at hi; omega
    rw [Nat.zero_add]
    rcases hc with rfl | rfl | rfl | rfl <;> exact hbl.cell _ _ rfl
  have hW64 : W64 lvL := by intro x hx; simp only [lvL, List.mem_cons, List.not_mem_nil, or_false] at hx; rcases hx with rfl | rfl | rfl | rfl <;> decide
  have E1 := hid (Exact10 lvL (some ⟨u.heap.size, 0, none⟩) 4 4 0 0 0 W rfl (HF.out W (Below.refl _ _)) hW64 (HT.out.belows HW.out.2.1) (by decide) (by decide) (by decide) (by decide) (by decide) (by decide))
  rw [lv_rd] at E1
  have E2 := hid (fun (v : World) (hb : Below W.heap.size W v) => Running10 lvL (some ⟨u.heap.size, 0, none⟩) 4 4 v rfl (HF.out v hb) hW64 (by decide) (by decide))
  rw [lv_run] at E2
  have E3 := hid (fun (v : World) (hb : Below W.heap.size W v) => Neumaier10 lvL (some ⟨u.heap.size, 0, none⟩) 4 4 v rfl (HF.out v hb) hW64 (by decide))
  rw [lv_ne] at E3
  have q1 : (FloatKind.f64.format.order 4611686018427387904 4611686018427387904 == some .eq) = true := by kernel_rfl
  have q2 : (FloatKind.f64.format.order 0 0 == some .eq) = true := by kernel_rfl
  have q3 : (FloatKind.f64.format.order 4613937818241073152 4613937818241073152 == some .eq) = true := by kernel_rfl
  have HWW := Aside.intro hW
  clear hW hW64
  go_wp2_with fail
  rw [← HWW.out]
  refine (E1.out).mono ?_
  rintro r v1 ⟨rfl, hb1⟩
  have B1 := Aside.intro hb1
  clear hb1 E1
  go_wp2_with fail
  refine (E2.out _ B1.out).mono ?_
  rintro r v2 ⟨rfl, hb2⟩
  have B2 := Aside.intro (B1.out.trans (hb2.mono B1.out.size))
  clear hb2 E2
  go_wp2_with fail
  refine (E3.out _ B2.out).mono ?_
  rintro r v3 ⟨rfl, hb3⟩
  have B3 := Aside.intro (B2.out.trans (hb3.mono B2.out.size))
  clear hb3 E3
  obtain ⟨W2, hW2⟩ : ∃ W2, W2 = v3.alloc (.cells #[.float .f64 4607182418800017408, .float .f64 4611686018427387904] 24) := ⟨_, rfl⟩
  have H2 : Aside (Bl W2 v3.heap.size 24 [.float .f64 4607182418800017408, .float .f64 4611686018427387904] ∧ Below v3.heap.size v3 W2 ∧ v3.heap.size < W2.heap.size) := by
    rw [hW2]; exact ⟨Bl.new _ _ _, bel_alloc _ _, by simp⟩
  have E4 := hid (Running10 [4607182418800017408, 4611686018427387904] (some ⟨v3.heap.size, 0, none⟩) 2 2 W2 rfl (fun _ => ⟨v3.heap.size, 0, H2.out.2.2, rfl, fun i hi => by
    have hc : i = 0 ∨ i = 1 := by simp at hi; omega
    rw [Nat.zero_add]
    rcases hc with rfl | rfl <;> exact H2.out.1.cell _ _ rfl⟩) (by intro x hx; simp only [List.mem_cons, List.not_mem_nil, or_false] at hx; rcases hx with rfl | rfl <;> decide) (by decide) (by decide))
  rw [lv_run2] at E4
  have HW2 := Aside.intro hW2
  clear hW2
  go_wp2_with fail
  rw [← HW2.out]
  refine (E4.out).mono ?_
  rintro r v4 ⟨rfl, hb4⟩
  have B4 := Aside.intro hb4
  clear hb4 E4
  go_wp2
  go_ret
  have b1 := HW.out.2.1.trans (B3.out.mono HW.out.2.1.size)
  have b2 := b1.trans (H2.out.2.1.mono b1.size)
  exact ⟨rfl, b2.trans (B4.out.mono b2.size)⟩
end Go.Proofs.YteoednbmhiblfaaDoor

/- Numbers that are lent: the document's Lent, AsLent. -/
namespace Go.Proofs.YteoednbmhiblfaaDoor
open Go.RowKit J
set_option linter.unusedVariables false
set_option maxRecDepth 20000
set_option linter.unusedSimpArgs false
attribute [local go_sem] st_float

def Fw10 (n : Nat) : Value := .float .f64 n
theorem Tryd.und_floats : Tryd.prog.underlying 23 = some (.slice 24) := by kernel_rfl
theorem Tryd.info_f64 : (Tryd.prog.info? 24).map (fun i => (i.zero, i.size, i.bytes)) = some (some (.float .f64 0), 1, 8) := by kernel_rfl
/-- Block g is a row of these numbers, all of it, free to be written. -/
def OwnF (w : World) (g : Nat) (L : List Nat) : Prop := w.heap[g]? = some (.cells (L.map Fw10).toArray 24 (0, 0))
theorem OwnF.lt {w : World} {g : Nat} {L : List Nat} (h : OwnF w g L) : g < w.heap.size := (Array.getElem?_eq_some_iff.1 h).1
theorem OwnF.cell {w : World} {g : Nat} {L : List Nat} (h : OwnF w g L) (i : Nat) (hi : i < L.length) : w.cell? ⟨g, i, none⟩ = some (.float .f64 (L.getD i 0)) := by
  unfold OwnF at h
  simp [World.cell?, h, Fw10, hi]
theorem OwnF.frozen {w : World} {g : Nat} {L : List Nat} (h : OwnF w g L) (i : Nat) : w.frozen? ⟨g, i, none⟩ = false := by
  unfold OwnF at h
  simp [World.frozen?, h]
theorem OwnF.set {w : World} {g : Nat} {L : List Nat} (h : OwnF w g L) (i x : Nat) : OwnF (w.setCell ⟨g, i, none⟩ (.float .f64 x)) g (L.set i x) := by
  unfold OwnF at h ⊢
  simp only [World.setCell, Array.getElem?_modify, h]
  simp [Fw10, List.map_set]
theorem OwnF.drew {w : World} {g : Nat} {L : List Nat} (h : OwnF w g L) : OwnF w.drew g L := h
theorem OwnF.below {w w' : World} {g B : Nat} {L : List Nat} (h : OwnF w g L) (hb : Below B w w') (hg : g < B) : OwnF w' g L := by
  unfold OwnF at h ⊢
  rw [hb.block g hg]; exact h
theorem OwnF.fs {w : World} {g B : Nat} {L : List Nat} (h : OwnF w g L) (hg : g < B) (n : Nat) : Fs B w (some ⟨g, 0, none⟩) (L.take n) := by
  intro _
  refine ⟨g, 0, hg, rfl, fun i hi => ?_⟩
  rw [List.length_take] at hi
  rw [Nat.zero_add, h.cell i (by omega)]
  congr 2
  rw [List.getD_eq_getElem?_getD, List.getD_eq_getElem?_getD, List.getElem?_take, if_pos (by omega)]
theorem make_floats (z : Int) (n : Nat) (hz : z = (n : Int)) (hn : n ≤ 17592186044416) (w : World) :
    (Instr.makeSlice 23 (.int .i64 z) (.int .i64 z)).run Tryd.prog w = .ok (.slice (some ⟨w.heap.size, 0, none⟩) n n) (w.alloc (.cells (madeCells #[.float .f64 0] n) 24)) := by
  subst hz
  exact run_make_row' 23 24 (.float .f64 0) 8 Tryd.und_floats Tryd.info_f64 rfl .i64 .i64 n (by omega) (by omega) w
theorem OwnF.made (w : World) (n : Nat) : OwnF (w.alloc (.cells (madeCells #[.float .f64 0] n) 24)) w.heap.size (List.replicate n 0) := by
  unfold OwnF
  have h1 := heap_alloc_new w (.cells (madeCells #[.float .f64 0] n) 24)
  rw [h1]
  congr 2
  apply Array.toList_inj.1
  rw [toList_madeCells_one]
  simp [Fw10]
theorem copy_floats (w : World) (g dLen dCap : Nat) (ao : Option Addr) (sLen sCap B : Nat) (ty : TypeId)
    (L xs : List Nat) (hO : OwnF w g L) (hL : dLen ≤ L.length) (hx : sLen = xs.length) (hR : Fs B w ao xs) (hle : sLen ≤ dLen) :
    ∃ w', (Builtin.copy_ #[23, 23] ty #[.slice (some ⟨g, 0, none⟩) dLen dCap, .slice ao sLen sCap]).run Tryd.prog w = .ok (.int .i64 (sLen : Int)) w' ∧ OwnF w' g (xs ++ L.drop sLen) ∧ But g w w' := by
  subst hx
  have hmin : Nat.min xs.length dLen = xs.length := Nat.min_eq_left hle
  by_cases h0 : xs = []
  · subst h0
    exact ⟨w, run_copy_none (P := Tryd.prog) w 23 23 ty 24 _ _ _ _ _ _ Tryd.und_floats (by kernel_rfl) (by simp at hmin ⊢), by simpa using hO, But.refl _ _⟩
  · obtain ⟨b, off, hlt, rfl, hc⟩ := hR h0
    have hadd : ∀ j, (⟨b, off, none⟩ : Addr).add j = ⟨b, off + j, none⟩ := by intro j; unfold Addr.add; split <;> simp_all
    have hrun := run_copy_row (P := Tryd.prog) w 23 23 ty 24 g 0 dLen dCap ⟨b, off, none⟩ xs.length sCap (L.map Fw10).toArray 24 (xs.map Fw10) Tryd.und_floats (by kernel_rfl) hO (by rw [hmin]; simp) (by
      intro j v hv
      rw [hadd]
      have hj : j < xs.length := by
        have := (List.getElem?_eq_some_iff.1 hv).1
        simpa using this
      rw [hc j hj]
      simp [hj, Fw10] at hv
      simp [hj, ← hv]) (by simp; omega) (by
      intro v hv
      obtain ⟨n, _, rfl⟩ := List.mem_map.1 hv
      rfl)
    refine ⟨w.setRow g (((xs ++ L.drop xs.length).map Fw10)).toArray, ?_, setRow_heap w g _ _ 24 _ hO, ⟨rfl, rfl, rfl, by simp [World.setRow], fun k _ hk => setRow_other w g k _ hk⟩⟩
    simpa [List.map_append, List.map_drop, goInt] using hrun
theorem Fs.but {B g : Nat} {w w' : World} {ao : Option Addr} {xs : List Nat} (h : Fs B w ao xs) (hb : But g w w') (hB : B ≤ w.heap.size) (hg : B ≤ g) : Fs B w' ao xs := by
  intro hne
  obtain ⟨b, off, h1, h2, h3⟩ := h hne
  refine ⟨b, off, h1, h2, fun i hi => ?_⟩
  rw [← h3 i hi]
  exact World.cell?_of_block (a := ⟨b, off + i, none⟩) (hb.block b (by omega) (by omega))

end Go.Proofs.YteoednbmhiblfaaDoor

/- The program's Halving. -/
namespace Go.Proofs.YteoednbmhiblfaaDoor
open Go.RowKit J
set_option linter.unusedVariables false
set_option maxRecDepth 20000
set_option linter.unusedSimpArgs false
attribute [local go_sem] st_float

set_option maxHeartbeats 2000000 in
theorem clone10 (xs : List Nat) (a : Option Addr) (n c : Nat) (w : World) (hn : n = xs.length) (hF : Fs w.heap.size w a xs) (hm : n ≤ 17592186043904) :
    Calls Tryd.prog 23 #[.slice a n c] w fun r w' => (∃ v', r = .returned v' ∧ w'.ownsRow w.heap.size 24 1 v' n (xs.map Fw10)) ∧ Below w.heap.size w w' := by
  obtain ⟨i0, hi, hz0, hz1, hz2⟩ := info_parts Tryd.info_f64
  have q25 : ∀ (w : World) (a : Option Addr) (n c n' c' : Nat), (binOp .eql 23 (.slice a n c) (.slice none n' c')).run Tryd.prog w = .ok (.bool a.isNone) w := fun w a n c n' c' => Lib.run_eql_slice_nil w _ _ a n c n' c' Tryd.und_floats
  cases a with
  | none =>
    have hx : xs = [] := by
      by_cases h : xs = []
      · exact h
      · obtain ⟨_, _, _, e, _⟩ := hF h; cases e
    subst hx
    simp only [List.length_nil] at hn
    subst hn
    clear hF hm
    go_enter Tryd.func23, Tryd.ntmps23
    go_wp2
    go_ret
    exact ⟨⟨_, rfl, World.ownsRow_nil w w.heap.size 24 1⟩, Below.refl _ _⟩
  | some ad =>
    have A := Aside.intro (And.intro hn (And.intro hF hm))
    clear hF hm hn
    go_enter Tryd.func23, Tryd.ntmps23
    go_wp2_with (at_builtin; refine wpList_append_own _ rfl _ _ 23 rfl w.heap.size 24 i0 (.float .f64 0) 1 8 Tryd.und_floats hi hz0 hz1 hz2 rfl (by decide) _ _ _ rfl (World.ownsRow_made w #[] 0 (Nat.le_refl _) (Nat.zero_le _) (by simp)) ad n c (xs.map Fw10) rfl ?qc1 ?qc2 ?qc3 ?qc4 ?qc5 ?qc6 ?_)
    case qc1 => simp [A.out.1]
    case qc2 =>
      intro j u hj
      have hj2 : j < xs.length := by have := (List.getElem?_eq_some_iff.1 hj).1; simpa using this
      obtain ⟨b, off, e, hc⟩ := A.out.2.1.at (Below.refl _ _) j hj2
      cases e
      rw [Addr.add_lit]
      refine Lib.cell?_alloc_some _ ?_
      rw [hc, ← hj, List.getElem?_map, List.getElem?_eq_getElem hj2, List.getD_eq_getElem?_getD, List.getElem?_eq_getElem hj2]
      rfl
    case qc3 => intro u hu; obtain ⟨x, _, rfl⟩ := List.mem_map.1 hu; rfl
    case qc4 => have := A.out.1; have := A.out.2.2; unfold maxLen; omega
    case qc5 => have := A.out.1; have := A.out.2.2; omega
    case qc6 => simp
    intro v' w1 hown hgrow hnil
    go_wp2
    go_ret
    refine ⟨⟨v', rfl, ?_⟩, ?_⟩
    · simpa using hown
    · exact ((Below.refl _ w).alloc (Nat.le_refl _) _).grown hgrow (by simp) (by intro k hk; simp [Value.ownBlock] at hk; omega)
/-- A row of words in a block: it reads so. -/
def Rw10 (w : World) (g : Nat) (C : List Value) (n : Nat) (R : List Nat) : Prop := Bl w g 24 C ∧ n ≤ C.length ∧ R.length = n ∧ ∀ j, j < n → ∃ z, C[j]? = some (.float .f64 z) ∧ Is z (nrm (R.getD j 0))
theorem own_row10 {w : World} {lo n : Nat} {v : Value} {xs : List Nat} (h : w.ownsRow lo 24 1 v n (xs.map Fw10)) (hW : W64 xs) (hn : n = xs.length) : (v = .slice none 0 0 ∧ n = 0) ∨ ∃ g C, v = .slice (some ⟨g, 0, none⟩) n C.length ∧ lo ≤ g ∧ Rw10 w g C n xs ∧ C.length ≤ maxLen := by
  rcases h.2 with ⟨rfl, hn0⟩ | ⟨g, cap, cur, rfl, hlo, hg, hn1, hm, hs, ht⟩
  · exact .inl ⟨rfl, by simpa using hn0⟩
  · refine .inr ⟨g, cur.toList, ?_, hlo, ⟨?_, ?_, hn.symm, fun j hj => ?_⟩, ?_⟩
    · congr 1
      simp at hs ⊢
      omega
    · unfold Bl; simpa using hg
    · simp at hs ⊢; omega
    · refine ⟨xs.getD j 0, ?_, Is.self (hW.get j)⟩
      have e : (cur.toList.take n)[j]? = some (Fw10 (xs.getD j 0)) := by
        have ht2 : cur.toList.take n = xs.map Fw10 := by simpa using ht
        rw [ht2, List.getElem?_map, List.getElem?_eq_getElem (by omega), List.getD_eq_getElem?_getD, List.getElem?_eq_getElem (by omega)]
        rfl
      rw [List.getElem?_take, if_pos hj] at e
      exact e
    · simp at hs ⊢; omega
theorem two_get : ∀ (l : List Nat) (j : Nat), j < l.length / 2 → (two l).getD j 0 = plF (l.getD (2 * j) 0) (l.getD (2 * j + 1) 0)
  | [], j, h => by simp at h
  | [a], j, h => by simp at h
  | a :: b :: l, 0, h => by simp [two]
  | a :: b :: l, j + 1, h => by
    have ih := two_get l j (by simp at h; omega)
    rw [show 2 * (j + 1) = 2 * j + 1 + 1 by omega]
    simpa [two] using ih
theorem two_last : ∀ (l : List Nat), l.length % 2 = 1 → (two l).getD (l.length / 2) 0 = l.getD (l.length - 1) 0
  | [], h => by simp at h
  | [a], h => by simp [two]
  | a :: b :: l, h => by
    have hl : l.length % 2 = 1 := by simp at h; omega
    have ih := two_last l hl
    have e1 : (a :: b :: l).length / 2 = l.length / 2 + 1 := by simp; omega
    have e2 : (a :: b :: l).length - 1 = (l.length - 1) + 1 + 1 := by simp; omega
    rw [e1, e2]
    simpa [two] using ih
end Go.Proofs.YteoednbmhiblfaaDoor

/- The program's Halving: its loops. -/
namespace Go.Proofs.YteoednbmhiblfaaDoor
open Go.RowKit J
set_option linter.unusedVariables false
set_option maxRecDepth 20000
set_option linter.unusedSimpArgs false
attribute [local go_sem] st_float

/-- While a row is made: what stands ahead of i is the next row's, what stands from 2 i on is this row's. -/
structure Hv10 (w : World) (g cap p : Nat) (R : List Nat) (i : Nat) (wr : World) (C : List Value) : Prop where
  hbl : Bl wr g 24 C
  hcap : C.length = cap
  hroom : p ≤ cap
  hdone : ∀ j, j < i → ∃ z, C[j]? = some (.float .f64 z) ∧ Is z (nrm ((two R).getD j 0))
  hrest : ∀ j, 2 * i ≤ j → j < p → ∃ z, C[j]? = some (.float .f64 z) ∧ Is z (nrm (R.getD j 0))
  hbel : Below w.heap.size w wr
  hown : w.heap.size ≤ g
theorem Hv10.of {w wr : World} {g cap p : Nat} {R : List Nat} {C : List Value} (h : Rw10 wr g C p R) (hc : C.length = cap) (hb : Below w.heap.size w wr) (hg : w.heap.size ≤ g) : Hv10 w g cap p R 0 wr C :=
  ⟨h.1, hc, by have := h.2.1; omega, fun j hj => by omega, fun j _ hj => h.2.2.2 j hj, hb, hg⟩
theorem Hv10.set {w wr u : World} {g cap p : Nat} {R : List Nat} {i z : Nat} {C : List Value} (h : Hv10 w g cap p R i wr C) (hb : Below wr.heap.size wr u) (hi : i < p / 2) (hR : R.length = p) (hz : Is z (nrm ((two R).getD i 0))) : Hv10 w g cap p R (i + 1) (u.setCell ⟨g, i, none⟩ (.float .f64 z)) (C.set i (.float .f64 z)) := by
  have hb2 := h.hbel.trans (hb.mono h.hbel.size)
  have hroom := h.hroom
  have hcap := h.hcap
  refine ⟨(h.hbl.below hb h.hbl.lt).set i _, by rw [List.length_set]; exact h.hcap, h.hroom, fun j hj => ?_, fun j hj hp => ?_, But.below hb2 ((But.refl g u).set i _) hb2.size h.hown, h.hown⟩
  · by_cases e : j = i
    · subst e
      exact ⟨z, by rw [List.getElem?_set_self (by omega)], hz⟩
    · rw [List.getElem?_set_ne (by omega)]
      exact h.hdone j (by omega)
  · rw [List.getElem?_set_ne (by omega)]
    exact h.hrest j (by omega) hp

set_option maxHeartbeats 8000000 in
theorem Halving10 (xs : List Nat) (a : Option Addr) (n c : Nat) (w : World) (hn : n = xs.length) (hF : Fs w.heap.size w a xs) (hW : W64 xs) (hm : n ≤ 17592186043904) :
    Calls Tryd.prog 10 #[.slice a n c] w fun r w' => r = .returned (.float .f64 (hvF xs)) ∧ Below w.heap.size w w' := by
  have H1 := hid (clone10 xs a n c w hn hF hm)
  have HX := Aside.intro (And.intro hn hW)
  have hmb : n ≤ 4611686018427387904 := by omega
  obtain ⟨Y, hY⟩ : ∃ Y, Y = hvF xs := ⟨_, rfl⟩
  rw [← hY]
  have HY := Aside.intro hY
  clear hY
  clear hn hF hW hm
  go_enter Tryd.func10, Tryd.ntmps10
  go_wp2_with fail
  refine (H1.out).mono ?_
  rintro r w1 ⟨⟨v, rfl, hv⟩, hb1⟩
  have B1 := Aside.intro hb1
  clear H1 hb1
  rcases own_row10 hv HX.out.2 HX.out.1 with ⟨rfl, hn0⟩ | ⟨g, C, rfl, hlo, hrow, hml⟩
  · subst hn0
    have hx : xs = [] := List.eq_nil_of_length_eq_zero (by rw [← HX.out.1])
    have HR := hid (Running10 [] none 0 0 w1 rfl (Fs.nil _ _ _) (fun x hx => by cases hx) (by omega) (by omega))
    have e0 : runF [] = Y := by rw [HY.out, hx]; decide
    rw [e0] at HR
    clear hv hx e0
    go_wp2
    go_loopg [3, 4] 1 (fun gk v m wr => v = .slice none 0 0 ∧ m = .int .i64 0 ∧ wr = w1)
    case atStart => exact ⟨rfl, by simp, rfl⟩
    case round =>
      obtain ⟨rfl, rfl, rfl⟩ := hrel
      go_wp2_with fail
      refine (HR.out).mono ?_
      rintro r w2 ⟨rfl, hb2⟩
      have B2 := Aside.intro (B1.out.trans (hb2.mono B1.out.size))
      clear hb2 HR
      go_wp2
      exact bodyPost_ret (v := .float .f64 Y) (by simp [results, Tryd.results10, go_sem]) rfl ⟨rfl, B2.out⟩
  · obtain ⟨cap, hcap⟩ : ∃ cap, cap = C.length := ⟨_, rfl⟩
    have H0 : Aside (Rw10 w1 g C n xs ∧ C.length = cap ∧ w.heap.size ≤ g) := ⟨hrow, hcap.symm, hlo⟩
    rw [← hcap]
    clear hv hrow hlo hcap hml
    go_wp2
    go_loopg [3, 4] n (fun gk v m wr => ∃ p : Nat, p ≤ gk ∧ p ≤ n ∧ v = .slice (some ⟨g, 0, none⟩) p cap ∧ m = .int .i64 (p : Nat) ∧ Aside (∃ r C, Rw10 wr g C p (twos r xs) ∧ C.length = cap ∧ Below w.heap.size w wr))
    case atStart => exact ⟨n, by omega, by omega, rfl, by simp, 0, C, H0.out.1, H0.out.2.1, B1.out⟩
    case round =>
      obtain ⟨p, hpg, hpn, rfl, rfl, HA⟩ := hrel
      obtain ⟨G, rfl⟩ : ∃ G, G = gk := ⟨_, rfl⟩
      by_cases hp : 1 < p
      · obtain ⟨h, hh⟩ : ∃ h, h = p / 2 := ⟨_, rfl⟩
        have hq1 : Int.tdiv (p : Int) 2 = (h : Int) := by rw [hh]; rfl
        have hhb : h < p ∧ 2 * h ≤ p ∧ p ≤ 2 * h + 1 := by omega
        obtain ⟨r, C0, hrw, hc0, hb0⟩ := HA.out
        have HV := Aside.intro (And.intro (Hv10.of (cap := cap) hrw hc0 hb0 H0.out.2.2) (And.intro hrw.2.2.1 (W64_twos r xs HX.out.2)))
        have HR := Aside.intro (twos_out r xs)
        obtain ⟨R, hR⟩ : ∃ R, R = twos r xs := ⟨_, rfl⟩
        rw [← hR] at HV HR
        have HH := Aside.intro (And.intro hh (And.intro hhb hR))
        clear hrw hc0 hb0 hR HA hh
        have hd1 : decide ((1 : Int) < (p : Int)) = true := by simp; omega
        go_wp2
        go_loopg [16] h (fun gk i wr => ∃ i' : Nat, gk + i' = h ∧ i = .int .i64 (i' : Nat) ∧ Aside (∃ C, Hv10 w g cap p R i' wr C))
        case atStart => exact ⟨0, by omega, by simp, C0, HV.out.1⟩
        case round =>
          obtain ⟨i, hgi, rfl, HI⟩ := hrel
          by_cases hi : i < h
          · obtain ⟨C1, hC1⟩ := HI.out
            obtain ⟨z1, hz1, hs1⟩ := hC1.hrest (2 * i) (Nat.le_refl _) (by omega)
            obtain ⟨z2, hz2, hs2⟩ := hC1.hrest (2 * i + 1) (by omega) (by omega)
            have HP : Hid (∀ u : World, Calls Tryd.prog 24 #[.float .f64 z1, .float .f64 z2] u fun r w' => ∃ z', r = .returned (.float .f64 z') ∧ Is z' (nrm ((two R).getD i 0)) ∧ Below u.heap.size u w') := fun u => by
              have h := plus10 hs1 hs2 u
              have e := add_nrm (getD_lt HV.out.2.2 (2 * i)) (getD_lt HV.out.2.2 (2 * i + 1))
              rw [two_get R i (by rw [HV.out.2.1]; have := HH.out.1; omega), plF_nrm]
              rw [show plF (nrm (R.getD (2 * i) 0)) (nrm (R.getD (2 * i + 1) 0)) = plF (R.getD (2 * i) 0) (R.getD (2 * i + 1) 0) from e] at h
              exact h
            have kS := Aside.intro (And.intro (hC1.hbl.drew.cell (2 * i) _ hz1) (hC1.hbl.drew.cell (2 * i + 1) _ hz2))
            have hx1 : IntKind.i64.wrap (2 * (i : Int)) = 2 * (i : Int) := by rw [IntKind.wrap_i64]; omega
            have hx2 : IntKind.i64.wrap (2 * (i : Int) + 1) = 2 * (i : Int) + 1 := by rw [IntKind.wrap_i64]; omega
            have ht1 : (2 * (i : Int)).toNat = 2 * i := by omega
            have ht2 : (2 * (i : Int) + 1).toNat = 2 * i + 1 := by omega
            have hb1 : 0 ≤ 2 * (i : Int) := by omega
            have hb2 : 2 * (i : Int) < (p : Int) := by omega
            have hb3 : 0 ≤ 2 * (i : Int) + 1 := by omega
            have hb4 : 2 * (i : Int) + 1 < (p : Int) := by omega
            have hi1 : i < p := by omega
            have hcl : ∃ v, C1[i]? = some v := ⟨_, List.getElem?_eq_getElem (by rw [hC1.hcap]; have := hC1.hroom; omega)⟩
            have HC1 := Aside.intro (And.intro hC1 hcl)
            clear hC1 hs1 hs2 hcl
            go_wp2_with fail
            refine until_region (fun u => u.cell? ⟨g, 2 * i, none⟩ = some (.float .f64 z1) ∧ u.cell? ⟨g, 2 * i + 1, none⟩ = some (.float .f64 z2)) 15 (by kernel_rfl) ?_
            refine until_take (i := 0) [14] (v := ?_) rfl (by kernel_rfl) (by kernel_rfl) (by kernel_rfl) (by kernel_rfl) (by kernel_rfl) (fun _ _ _ h => h) (Or.inl ⟨by rfl, ?_⟩) kS.out ?_
            rotate_left
            · intro u hSu
              try dsimp only at hSu
              first | (go_simp; done) | (go_simp; with_reducible rfl)
            try simp only [Act.put, List.setIfInBounds_toArray, List.set_cons_zero, List.set_cons_succ]
            refine until_take (i := 1) [14] (v := ?_) rfl (by kernel_rfl) (by kernel_rfl) (by kernel_rfl) (by kernel_rfl) (by kernel_rfl) (fun _ _ _ h => h) (Or.inl ⟨by rfl, ?_⟩) kS.out ?_
            rotate_left
            · intro u hSu
              try dsimp only at hSu
              first | (go_simp; done) | (go_simp; with_reducible rfl)
            try simp only [Act.put, List.setIfInBounds_toArray, List.set_cons_zero, List.set_cons_succ]
            refine until_take (i := 2) [5, 6, 13] (v := ?_) rfl (by kernel_rfl) (by kernel_rfl) (by kernel_rfl) (by kernel_rfl) (by kernel_rfl) (fun _ _ _ h => h) (Or.inl ⟨by rfl, ?_⟩) kS.out ?_
            rotate_left
            · intro u hSu
              try dsimp only at hSu
              first | (go_simp; done) | (go_simp; with_reducible rfl)
            try simp only [Act.put, List.setIfInBounds_toArray, List.set_cons_zero, List.set_cons_succ]
            refine until_take (i := 3) [4, 5, 6, 13] (v := ?_) rfl (by kernel_rfl) (by kernel_rfl) (by kernel_rfl) (by kernel_rfl) (by kernel_rfl) (fun _ _ _ h => h) (Or.inl ⟨by rfl, ?_⟩) kS.out ?_
            rotate_left
            · intro u hSu
              try dsimp only at hSu
              first | (go_simp; done) | (go_simp; with_reducible rfl)
            try simp only [Act.put, List.setIfInBounds_toArray, List.set_cons_zero, List.set_cons_succ]
            refine until_take (i := 4) [5, 6, 13] (v := ?_) rfl (by kernel_rfl) (by kernel_rfl) (by kernel_rfl) (by kernel_rfl) (by kernel_rfl) (fun _ _ _ h => h) (Or.inl ⟨by rfl, ?_⟩) kS.out ?_
            rotate_left
            · intro u hSu
              try dsimp only at hSu
              first | (go_simp; done) | (go_simp; with_reducible rfl)
            try simp only [Act.put, List.setIfInBounds_toArray, List.set_cons_zero, List.set_cons_succ]
            refine until_take (i := 5) [6, 13] (v := ?_) rfl (by kernel_rfl) (by kernel_rfl) (by kernel_rfl) (by kernel_rfl) (by kernel_rfl) (fun _ _ _ h => h) (Or.inl ⟨by rfl, ?_⟩) kS.out ?_
            rotate_left
            · intro u hSu
              try dsimp only at hSu
              first | (go_simp; done) | (go_simp; with_reducible rfl)
            try simp only [Act.put, List.setIfInBounds_toArray, List.set_cons_zero, List.set_cons_succ]
            refine until_take (i := 6) [13] (v := ?_) rfl (by kernel_rfl) (by kernel_rfl) (by kernel_rfl) (by kernel_rfl) (by kernel_rfl) (fun _ _ _ h => h) (Or.inl ⟨by rfl, ?_⟩) kS.out ?_
            rotate_left
            · intro u hSu
              try dsimp only at hSu
              first | (go_simp; done) | (go_simp; with_reducible rfl)
            try simp only [Act.put, List.setIfInBounds_toArray, List.set_cons_zero, List.set_cons_succ]
            refine until_take (i := 7) [11, 12, 13] (v := ?_) rfl (by kernel_rfl) (by kernel_rfl) (by kernel_rfl) (by kernel_rfl) (by kernel_rfl) (fun _ _ _ h => h) (Or.inl ⟨by rfl, ?_⟩) kS.out ?_
            rotate_left
            · intro u hSu
              try dsimp only at hSu
              first | (go_simp; done) | (go_simp; with_reducible rfl)
            try simp only [Act.put, List.setIfInBounds_toArray, List.set_cons_zero, List.set_cons_succ]
            refine until_take (i := 8) [9, 10, 11, 12, 13] (v := ?_) rfl (by kernel_rfl) (by kernel_rfl) (by kernel_rfl) (by kernel_rfl) (by kernel_rfl) (fun _ _ _ h => h) (Or.inl ⟨by rfl, ?_⟩) kS.out ?_
            rotate_left
            · intro u hSu
              try dsimp only at hSu
              first | (go_simp; done) | (go_simp; with_reducible rfl)
            try simp only [Act.put, List.setIfInBounds_toArray, List.set_cons_zero, List.set_cons_succ]
            refine until_take (i := 9) [10, 11, 12, 13] (v := ?_) rfl (by kernel_rfl) (by kernel_rfl) (by kernel_rfl) (by kernel_rfl) (by kernel_rfl) (fun _ _ _ h => h) (Or.inl ⟨by rfl, ?_⟩) kS.out ?_
            rotate_left
            · intro u hSu
              try dsimp only at hSu
              first | (go_simp; done) | (go_simp; with_reducible rfl)
            try simp only [Act.put, List.setIfInBounds_toArray, List.set_cons_zero, List.set_cons_succ]
            refine until_take (i := 10) [11, 12, 13] (v := ?_) rfl (by kernel_rfl) (by kernel_rfl) (by kernel_rfl) (by kernel_rfl) (by kernel_rfl) (fun _ _ _ h => h) (Or.inl ⟨by rfl, ?_⟩) kS.out ?_
            rotate_left
            · intro u hSu
              try dsimp only at hSu
              first | (go_simp; done) | (go_simp; with_reducible rfl)
            try simp only [Act.put, List.setIfInBounds_toArray, List.set_cons_zero, List.set_cons_succ]
            refine until_take (i := 11) [12, 13] (v := ?_) rfl (by kernel_rfl) (by kernel_rfl) (by kernel_rfl) (by kernel_rfl) (by kernel_rfl) (fun _ _ _ h => h) (Or.inl ⟨by rfl, ?_⟩) kS.out ?_
            rotate_left
            · intro u hSu
              try dsimp only at hSu
              first | (go_simp; done) | (go_simp; with_reducible rfl)
            try simp only [Act.put, List.setIfInBounds_toArray, List.set_cons_zero, List.set_cons_succ]
            refine until_take (i := 12) [13] (v := ?_) rfl (by kernel_rfl) (by kernel_rfl) (by kernel_rfl) (by kernel_rfl) (by kernel_rfl) (fun _ _ _ h => h) (Or.inl ⟨by rfl, ?_⟩) kS.out ?_
            rotate_left
            · intro u hSu
              try dsimp only at hSu
              first | (go_simp; done) | (go_simp; with_reducible rfl)
            try simp only [Act.put, List.setIfInBounds_toArray, List.set_cons_zero, List.set_cons_succ]
            refine until_one (i := 13) (by kernel_rfl) rfl (fun K' hK => ?_)
            go_simp
            refine (HP.out _).mono ?_
            rintro r u ⟨z, rfl, hz, hb⟩
            have HZ := Aside.intro (And.intro hz hb)
            have kS := Aside.intro (And.intro ((HC1.out.1.hbl.drew.below hb HC1.out.1.hbl.lt).cell (2 * i) _ hz1) ((HC1.out.1.hbl.drew.below hb HC1.out.1.hbl.lt).cell (2 * i + 1) _ hz2))
            clear hz hb
            dsimp only
            refine hK.out _ _ (fun _ => kS.out) ?_
            clear hK K'
            try simp only [Act.put, List.setIfInBounds_toArray, List.set_cons_zero, List.set_cons_succ]
            refine until_one (i := 14) (by kernel_rfl) rfl (fun K' hK => ?_)
            go_simp
            refine hK.out _ _ (fun _ => kS.out) ?_
            clear hK K'
            try simp only [Act.put, List.setIfInBounds_toArray, List.set_cons_zero, List.set_cons_succ]
            obtain ⟨vi, hvi⟩ := HC1.out.2
            have hcc := (HC1.out.1.hbl.drew.below HZ.out.2 HC1.out.1.hbl.lt).cell i _ hvi
            have hfz := (HC1.out.1.hbl.drew.below HZ.out.2 HC1.out.1.hbl.lt).frozen i
            refine until_one (i := 15) (by kernel_rfl) rfl (fun K' hK => ?_)
            go_simp
            refine hK.out _ _ (fun h => absurd h (by decide)) ?_
            clear hK K' kS hz1 hz2 hcc hfz hvi
            refine until_done (by kernel_rfl) ?_ _
            go_wp2
            go_roundg (gk - 1)
            case measure => omega
            case rel => exact ⟨i + 1, by omega, by first | rfl | simp, _, HC1.out.1.set ((Below.refl _ _).drew.trans HZ.out.2) (by have := HH.out.1; omega) HV.out.2.1 HZ.out.1⟩
          · have hdi : decide ((i : Int) < (h : Int)) = false := by simp; omega
            obtain rfl : h = i := by omega
            obtain ⟨C1, hC1⟩ := HI.out
            have HC1 := Aside.intro hC1
            have hlen : (two R).length = p - h := by rw [two_len, HV.out.2.1, ← HH.out.1]
            have HN := Aside.intro hlen
            clear hC1 hlen
            have hqs : IntKind.i64.wrap ((p : Int) - (h : Int)) = ((p - h : Nat) : Int) := by rw [IntKind.wrap_i64]; omega
            have hq4 : (((p : Int) - (h : Int))).toNat = p - h := by omega
            have hqc : p - h ≤ cap := by have := HC1.out.hroom; omega
            have hq5 : IntKind.i64.wrap ((p : Int) - 1) = (p : Int) - 1 := by rw [IntKind.wrap_i64]; omega
            have hq6 : ((p : Int) - 1).toNat = p - 1 := by omega
            by_cases ho : p % 2 = 1
            · obtain ⟨z, hz, hs⟩ := HC1.out.hrest (p - 1) (by have := HH.out.1; omega) (by omega)
              have c1 := HC1.out.hbl.cell (p - 1) _ hz
              have hlt2 : h < C1.length := by rw [HC1.out.hcap]; have := HC1.out.hroom; omega
              have c2 := HC1.out.hbl.cell h _ (List.getElem?_eq_getElem hlt2)
              obtain ⟨vi, hvi⟩ : ∃ vi, vi = C1[h] := ⟨_, rfl⟩
              rw [← hvi] at c2
              have f2 := HC1.out.hbl.frozen h
              have hrem : Int.tmod (p : Int) 2 = 1 := by rw [show Int.tmod (p : Int) 2 = ((p % 2 : Nat) : Int) from rfl, ho]; rfl
              have HNX : Aside (Rw10 (wr.setCell ⟨g, h, none⟩ (.float .f64 z)) g (C1.set h (.float .f64 z)) (p - h) (two R) ∧ (C1.set h (.float .f64 z)).length = cap ∧ Below w.heap.size w (wr.setCell ⟨g, h, none⟩ (.float .f64 z))) := by
                refine ⟨⟨HC1.out.hbl.set h _, by rw [List.length_set, HC1.out.hcap]; omega, HN.out, fun j hj => ?_⟩, by rw [List.length_set]; exact HC1.out.hcap, But.below HC1.out.hbel ((But.refl g wr).set h _) HC1.out.hbel.size HC1.out.hown⟩
                by_cases e : j = h
                · subst e
                  refine ⟨z, by rw [List.getElem?_set_self hlt2], ?_⟩
                  have e2 := two_last R (by rw [HV.out.2.1]; exact ho)
                  rw [HV.out.2.1, ← HH.out.1] at e2
                  rw [e2]
                  exact hs
                · rw [List.getElem?_set_ne (by omega)]
                  exact HC1.out.hdone j (by omega)
              clear hz hs hvi hlt2
              go_wp2
              go_roundg (G - 1)
              case measure => omega
              case rel => exact ⟨p - h, by omega, by omega, rfl, rfl, r + 1, _, by rw [HR.out]; exact HNX.out.1, HNX.out.2.1, HNX.out.2.2⟩
            · have hrem : Int.tmod (p : Int) 2 = 0 := by rw [show Int.tmod (p : Int) 2 = ((p % 2 : Nat) : Int) from rfl, show p % 2 = 0 by omega]; rfl
              have HNX : Aside (Rw10 wr g C1 (p - h) (two R) ∧ C1.length = cap ∧ Below w.heap.size w wr) :=
                ⟨⟨HC1.out.hbl, by rw [HC1.out.hcap]; omega, HN.out, fun j hj => HC1.out.hdone j (by omega)⟩, HC1.out.hcap, HC1.out.hbel⟩
              go_wp2
              go_roundg (G - 1)
              case measure => omega
              case rel => exact ⟨p - h, by omega, by omega, rfl, rfl, r + 1, _, by rw [HR.out]; exact HNX.out.1, HNX.out.2.1, HNX.out.2.2⟩
      · obtain ⟨r, C0, hrw, hc0, hb0⟩ := HA.out
        have hd1 : decide ((1 : Int) < (p : Int)) = false := by simp; omega
        have HE := hv_any r xs (by rw [hrw.2.2.1]; omega)
        have HR : Hid (Calls Tryd.prog 9 #[.slice (some ⟨g, 0, none⟩) p cap] wr fun r w' => r = .returned (.float .f64 Y) ∧ Below wr.heap.size wr w') := by
          by_cases h0 : p = 0
          · subst h0
            have h := Running10 [] (some ⟨g, 0, none⟩) 0 cap wr rfl (Fs.nil _ _ _) (fun x hx => by cases hx) (by omega) (by omega)
            have e : runF [] = Y := by
              rw [HY.out, HE, List.eq_nil_of_length_eq_zero hrw.2.2.1]; rfl
            rw [e] at h
            exact h
          · obtain rfl : p = 1 := by omega
            obtain ⟨z, hz, hs⟩ := hrw.2.2.2 0 (by omega)
            have h := Running10 [z] (some ⟨g, 0, none⟩) 1 cap wr rfl (fun _ => ⟨g, 0, hrw.1.lt, rfl, fun i hi => by
              have : i = 0 := by simp at hi; omega
              subst this
              rw [hrw.1.cell 0 _ hz]; rfl⟩) (fun x hx => by
              have : x = z := by simpa using hx
              rw [this]; exact hs.1) (by have := hrw.2.1; omega) (by omega)
            have e : runF [z] = Y := by
              rw [HY.out, HE]; exact hs.2
            rw [e] at h
            exact h
        have HB := Aside.intro hb0
        clear hrw hc0 hb0 HE HA
        go_wp2_with fail
        refine (HR.out).mono ?_
        rintro r w2 ⟨rfl, hb2⟩
        have B2 := Aside.intro (HB.out.trans (hb2.mono HB.out.size))
        clear hb2 HR
        go_wp2
        exact bodyPost_ret (v := .float .f64 Y) (by simp [results, Tryd.results10, go_sem]) rfl ⟨rfl, B2.out⟩
end Go.Proofs.YteoednbmhiblfaaDoor

/- Blocked, both sides. -/
namespace Go.Proofs.YteoednbmhiblfaaDoor
open Go.RowKit J
set_option linter.unusedVariables false
set_option maxRecDepth 20000
set_option linter.unusedSimpArgs false
attribute [local go_sem] st_float

theorem wrN (m : Nat) (h : m ≤ 1000000) : Go.RowKit.wrap64 (m : Int) = (m : Int) := by
  unfold Go.RowKit.wrap64
  omega
theorem wrS (n s : Nat) (h : n ≤ 65536) (h1 : 1 ≤ s) (h2 : s ≤ 65536) : Go.RowKit.wrap64 ((n : Int) + (s : Int) - 1) = (n : Int) + (s : Int) - 1 := by
  unfold Go.RowKit.wrap64
  omega
theorem tdS (n s : Nat) (h1 : 1 ≤ s) : Int.tdiv ((n : Int) + (s : Int) - 1) (s : Int) = (((n + s - 1) / s : Nat) : Int) := by
  rw [show (n : Int) + (s : Int) - 1 = ((n + s - 1 : Nat) : Int) by omega]; rfl
/-- The blocks' sums, the first k of them. -/
def bkL (s : Nat) (xs : List Nat) (k : Nat) : List Nat := (List.range k).map fun i => runF (pc s xs i)
theorem bkL_succ (s : Nat) (xs : List Nat) (k : Nat) : bkL s xs (k + 1) = bkL s xs k ++ [runF (pc s xs k)] := by unfold bkL; rw [List.range_succ, List.map_append]; rfl
theorem bkL_len (s : Nat) (xs : List Nat) (k : Nat) : (bkL s xs k).length = k := by simp [bkL]
theorem bkL_wf {s : Nat} {xs : List Nat} (h : W64 xs) (k : Nat) : W64 (bkL s xs k) := fun x hx => by
  obtain ⟨i, _, rfl⟩ := List.mem_map.1 hx
  exact (runF_ok _ (h.piece (i * s) s)).1
theorem bkL_set (s : Nat) (xs : List Nat) (nb k : Nat) (hk : k < nb) : (bkL s xs k ++ List.replicate (nb - k) 0).set k (runF (pc s xs k)) = bkL s xs (k + 1) ++ List.replicate (nb - (k + 1)) 0 := by
  rw [List.set_append_right _ _ (by rw [bkL_len]; omega), bkL_len, Nat.sub_self, bkL_succ, show nb - k = (nb - (k + 1)) + 1 by omega, List.replicate_succ, List.set_cons_zero, List.append_assoc]
  rfl
/-- Where a block ends. -/
theorem blk_end {n s nb i : Nat} (hs : 1 ≤ s) (hnb : nb = (n + s - 1) / s) (hi : i < nb) : i * s < n := by
  have h1 : (i + 1) * s ≤ nb * s := Nat.mul_le_mul_right _ hi
  have h2 := Nat.div_mul_le_self (n + s - 1) s
  rw [← hnb] at h2
  rw [Nat.add_mul, Nat.one_mul] at h1
  omega

set_option maxHeartbeats 4000000 in
theorem Blocked10 (xs : List Nat) (a : Option Addr) (n c s : Nat) (w : World) (hn : n = xs.length) (hF : Fs w.heap.size w a xs) (hW : W64 xs) (hc : n ≤ c) (hm : n ≤ 65536) (hs1 : 1 ≤ s) (hs2 : s ≤ 65536) :
    Calls Tryd.prog 13 #[.slice a n c, .int .i64 (s : Nat)] w fun r w' => r = .returned (.tuple #[.float .f64 (blF s xs), .int .i64 0]) ∧ Below w.heap.size w w' := by
  obtain ⟨nb, hnb⟩ : ∃ nb, nb = (n + s - 1) / s := ⟨_, rfl⟩
  have hnb2 : nb ≤ n + s := by rw [hnb]; exact Nat.le_trans (Nat.div_le_self _ _) (by omega)
  have HY := Aside.intro (show blF s xs = runF (bkL s xs nb) by unfold blF bkL; rw [hnb, hn])
  obtain ⟨Y, hY⟩ : ∃ Y, Y = blF s xs := ⟨_, rfl⟩
  rw [← hY] at HY ⊢
  have hmk := make_floats (nb : Int) nb rfl (Nat.le_trans hnb2 (Nat.le_trans (Nat.add_le_add hm hs2) (by decide)))
  have HO : Aside (OwnF (w.alloc (.cells (madeCells #[.float .f64 0] nb) 24)) w.heap.size (List.replicate nb 0)) := OwnF.made w nb
  have HX := Aside.intro (And.intro hn (And.intro hF (And.intro hW (And.intro hnb (And.intro hc (And.intro hm (And.intro hs1 hs2)))))))
  have hd1 : decide ((s : Int) < 1) = false := by simp; omega
  have hd2 : decide ((65536 : Int) < (s : Int)) = false := by simp; omega
  have hd3 : decide ((65536 : Int) < (n : Int)) = false := by simp; omega
  have hs0 : (s : Int) ≠ 0 := by omega
  have hnbb : nb < 4611686018427387904 := by omega
  have hnbn : nb ≤ 17592186044416 := by omega
  have hw1 : IntKind.i64.wrap ((n : Int) + (s : Int)) = (n : Int) + (s : Int) := by rw [IntKind.wrap_i64]; omega
  have hq := tdS n s hs1
  rw [← hnb] at hq
  have hw2 := wrS n s hm hs1 hs2
  have hw3 := wrN nb (Nat.le_trans hnb2 (Nat.le_trans (Nat.add_le_add hm hs2) (by decide)))
  clear hn hF hW hc hm hs1 hs2 hY hnb hnb2
  go_enter Tryd.func13, Tryd.ntmps13
  go_wp2
  go_loopg [30] nb (fun gk i wr => ∃ k : Nat, gk + k = nb ∧ i = .int .i64 (k : Nat) ∧ Aside (OwnF wr w.heap.size (bkL s xs k ++ List.replicate (nb - k) 0) ∧ Below w.heap.size w wr ∧ w.heap.size < wr.heap.size))
  case atStart => clear hw1 hw2 hw3 hq; exact ⟨0, by omega, by simp, HO.out, (Below.refl _ _).alloc (Nat.le_refl _) _, by simp⟩
  case round =>
    obtain ⟨k, hgk, rfl, HA⟩ := hrel
    clear hw1 hw2 hw3 hq hmk
    by_cases hk : k < nb
    · obtain ⟨hn, hF, hW, hnb, hc, hm, hs1, hs2⟩ := HX.out
      have hend := blk_end hs1 hnb hk
      obtain ⟨b, off, rfl, _⟩ := hF.at (Below.refl _ _) (k * s) (by omega)
      obtain ⟨p, hp⟩ : ∃ p, p = k * s := ⟨_, rfl⟩
      obtain ⟨M, hM⟩ : ∃ M, M = min (p + s) n := ⟨_, rfl⟩
      have hks : k * s ≤ 4295098368 := Nat.le_of_lt (by have := Nat.mul_le_mul (show k ≤ 65536 by have h3 : k * 1 ≤ k * s := Nat.mul_le_mul_left _ hs1; omega) hs2; omega)
      have e1 : IntKind.i64.wrap ((k : Int) * (s : Int)) = (p : Int) := by rw [show (k : Int) * (s : Int) = ((k * s : Nat) : Int) from rfl, ← hp, IntKind.wrap_i64]; omega
      have e2 : IntKind.i64.wrap (((k : Int) + 1) * (s : Int)) = (p : Int) + (s : Int) := by rw [show ((k : Int) + 1) * (s : Int) = ((k * s : Nat) : Int) + (s : Int) by rw [Int.add_mul, Int.one_mul]; rfl, ← hp, IntKind.wrap_i64]; omega
      have m1 : (if (p : Int) + (s : Int) ≤ (n : Int) then (p : Int) + (s : Int) else (n : Int)) = (M : Int) := by split <;> omega
      have m2 : (if (n : Int) < (p : Int) + (s : Int) then (n : Int) else (p : Int) + (s : Int)) = (M : Int) := by split <;> omega
      have HP := hid (fun (u : World) (hb : Below w.heap.size w u) => Running10 (pc s xs k) (some ⟨b, off + p, none⟩) (M - p) (c - p) u (by unfold pc; rw [List.length_take, List.length_drop]; omega) (by
        have h := ((hF.piece p (M - p) (by omega)).below hb).mono hb.size
        have e : (xs.drop p).take (M - p) = pc s xs k := by
          unfold pc
          rw [← hp]
          by_cases hle : p + s ≤ n
          · rw [show M - p = s by omega]
          · rw [List.take_of_length_le (by rw [List.length_drop]; omega), List.take_of_length_le (by rw [List.length_drop]; omega)]
        rw [e] at h
        exact h) (hW.piece (k * s) s) (by omega) (by omega))
      obtain ⟨z, hz⟩ : ∃ z, z = runF (pc s xs k) := ⟨_, rfl⟩
      rw [← hz] at HP
      have HZ := Aside.intro hz
      have eM : (min ((k : Int) * (s : Int) + (s : Int)) (n : Int)).toNat = M := by
        rw [show (k : Int) * (s : Int) = (p : Int) by rw [hp]; rfl]; omega
      rw [hp, ← eM] at HP
      clear eM
      have hcp : c ≠ p := by omega
      have hpM : p ≤ M := by omega
      have hMc : M ≤ c := by omega
      have hkb : k < 4611686018427387904 := by omega
      have hcl := HA.out.1.cell k (by rw [List.length_append, bkL_len, List.length_replicate]; omega)
      have hfz := HA.out.1.frozen k
      clear hn hF hW hnb hc hm hs1 hs2 hend hM hks hz
      go_wp2_with fail
      refine (HP.out _ HA.out.2.1).mono ?_
      rintro r w2 ⟨rfl, hb2⟩
      have H2 := Aside.intro (And.intro (HA.out.1.below hb2 HA.out.1.lt) (And.intro (HA.out.2.1.trans (hb2.mono HA.out.2.1.size)) (Nat.lt_of_lt_of_le HA.out.2.2 hb2.size)))
      have hcl := H2.out.1.cell k (by rw [List.length_append, bkL_len, List.length_replicate]; omega)
      have hfz := H2.out.1.frozen k
      clear hb2 HP
      go_wp2
      go_roundg (gk - 1)
      case measure => omega
      case rel =>
        refine ⟨k + 1, by omega, by first | rfl | simp, ?_, But.below H2.out.2.1 ((But.refl w.heap.size w2).set k _) H2.out.2.1.size (Nat.le_refl _), by simpa using H2.out.2.2⟩
        rw [← bkL_set s xs nb k hk, ← HZ.out]
        exact H2.out.1.set k z
    · have hd : decide ((k : Int) < (nb : Int)) = false := by simp; omega
      obtain rfl : nb = k := by omega
      have HR := hid (Running10 (bkL s xs nb) (some ⟨w.heap.size, 0, none⟩) nb nb wr (bkL_len s xs nb).symm (by
        have h := HA.out.1.fs HA.out.1.lt nb
        rw [List.take_append_of_le_length (by rw [bkL_len]; exact Nat.le_refl _), List.take_of_length_le (by rw [bkL_len]; exact Nat.le_refl _)] at h
        exact h) (bkL_wf HX.out.2.2.1 nb) (Nat.le_refl _) (by omega))
      rw [← HY.out] at HR
      go_wp2_with fail
      refine (HR.out).mono ?_
      rintro r w2 ⟨rfl, hb2⟩
      have B2 := Aside.intro (HA.out.2.1.trans (hb2.mono HA.out.2.1.size))
      clear hb2 HR
      go_wp2
      go_ret2
      exact ⟨rfl, B2.out⟩
theorem Blocked10_arg (a : Option Addr) (n c : Nat) (s : Int) (w : World) (h : s < 1 ∨ 65536 < s) :
    Calls Tryd.prog 13 #[.slice a n c, .int .i64 s] w fun r w' => r = .returned (.tuple #[.float .f64 0, .int .i64 1]) ∧ Below w.heap.size w w' := by
  rcases h with h | h
  · have hd : decide (s < 1) = true := by simpa using h
    clear h
    go_enter Tryd.func13, Tryd.ntmps13
    go_wp2
    go_ret2
    exact ⟨rfl, Below.refl _ _⟩
  · have hd : decide (s < 1) = false := by simp; omega
    have hd2 : decide (65536 < s) = true := by simpa using h
    clear h
    go_enter Tryd.func13, Tryd.ntmps13
    go_wp2
    go_ret2
    exact ⟨rfl, Below.refl _ _⟩
theorem Blocked10_long (a : Option Addr) (n c : Nat) (s : Int) (w : World) (h1 : 1 ≤ s) (h2 : s ≤ 65536) (hl : 65536 < n) :
    Calls Tryd.prog 13 #[.slice a n c, .int .i64 s] w fun r w' => r = .returned (.tuple #[.float .f64 0, .int .i64 2]) ∧ Below w.heap.size w w' := by
  have hd : decide (s < 1) = false := by simp; omega
  have hd2 : decide (65536 < s) = false := by simp; omega
  have hd3 : decide ((65536 : Int) < (n : Int)) = true := by simp; omega
  clear h1 h2 hl
  go_enter Tryd.func13, Tryd.ntmps13
  go_wp2
  go_ret2
  exact ⟨rfl, Below.refl _ _⟩
end Go.Proofs.YteoednbmhiblfaaDoor

/- The document's Blocked. -/
namespace Go.Proofs.YteoednbmhiblfaaDoor
open Go.RowKit J
set_option linter.unusedVariables false
set_option maxRecDepth 20000
set_option linter.unusedSimpArgs false
attribute [local go_sem] st_float

theorem wpList_append10 {w : World} {ops : Array Oper} {rest : List Oper} {o : Oper} {a : Act} {Q : Exit → Act → World → Prop} (hgd : o.guard = none) (s x : Operand) (t : TypeId)
    (ho : o.op = .call { callee := .builtin .append, args := #[s, x], argTypes := #[t, t] }) (v u : Value) (hs : a.eval s = v) (hx : a.eval x = u) (v' : Value) (w' : World)
    (hrun : (Builtin.append_ #[t, t] o.type #[v, u]).run Tryd.prog w = .ok v' w') (h : wpList Tryd.prog ops Q rest (a.put o.dst v') w') : wpList Tryd.prog ops Q (o :: rest) a w := by
  refine wpList_plain hgd fun K hK => ?_
  unfold Oper.wp
  simp [execOp, ho, resolve, invoke, builtin, hs, hx, hrun, Result.andThen]
  exact hK _ _ h
theorem append10 (lo : Nat) (v : Value) (K : List Nat) (x : Nat) (w : World) (hb : w.ownsRow lo 24 1 v K.length (K.map Fw10)) (hlo : lo ≤ w.heap.size) (hk : K.length ≤ 1000000) :
    ∃ v' w', (Builtin.append_ #[23, 23] 23 #[v, .slice (some ⟨w.heap.size, 0, none⟩) 1 1]).run Tryd.prog (w.alloc (.cells #[.float .f64 x] 24)) = .ok v' w' ∧ w'.ownsRow lo 24 1 v' (K ++ [x]).length ((K ++ [x]).map Fw10) ∧ Below lo w w' ∧ w.heap.size ≤ w'.heap.size := by
  obtain ⟨i0, hi, hz0, hz1, hz2⟩ := info_parts Tryd.info_f64
  obtain ⟨W, hW⟩ : ∃ W, W = w.alloc (.cells #[.float .f64 x] 24) := ⟨_, rfl⟩
  have hcx : W.cell? ⟨w.heap.size, 0, none⟩ = some (.float .f64 x) := by subst hW; unfold World.cell?; simp only [heap_alloc_new]; rfl
  have hWb : W.ownsRow lo 24 1 v K.length (K.map Fw10) := by subst hW; exact World.ownsRow.alloc hb _
  have hWs : w.heap.size ≤ W.heap.size := by subst hW; simp
  obtain ⟨v', w', r1, r2, r3, _, r5⟩ := run_append_own_at (P := Tryd.prog) W lo 23 23 24 i0 (.float .f64 0) 1 8 Tryd.und_floats hi hz0 hz1 hz2 rfl (by decide) v K.length (K.map Fw10) hWb ⟨w.heap.size, 0, none⟩ 1 1 [.float .f64 x] rfl (by
      intro j u hj
      match j, hj with
      | 0, hj => simp at hj; subst hj; simpa [Addr.add] using hcx) (by intro u hu; simp at hu; subst hu; rfl) (by unfold maxLen; omega) (by omega) (by omega)
  rw [← hW]
  refine ⟨v', w', r1, ?_, ?_, ?_⟩
  · rw [List.length_append, List.map_append]; exact r2
  · have hlw : Below lo w W := by subst hW; exact (Below.refl _ _).alloc hlo _
    refine ⟨r3.os.trans hlw.os, r3.tape.trans hlw.tape, r3.output.trans hlw.output, Nat.le_trans hlw.size r3.size, fun k hkl => ?_⟩
    rw [r3.block k (by omega) (fun e => by
      rcases hWb.2 with ⟨e2, _⟩ | ⟨g, cap, cur, e2, hlo2, _⟩
      · rw [e2] at e; simp [Value.ownBlock] at e
      · rw [e2] at e; simp [Value.ownBlock] at e; omega)]
    exact hlw.block k hkl
  · exact Nat.le_trans hWs r3.size
theorem own_below10 {lo : Nat} {w w' : World} {v : Value} {n : Nat} {L : List Value} (h : w.ownsRow lo 24 1 v n L) (hb : Below w.heap.size w w') : w'.ownsRow lo 24 1 v n L := by
  refine ⟨h.1, ?_⟩
  rcases h.2 with hn | ⟨g, cap, cur, rfl, hlo, hgc, rest⟩
  · exact .inl hn
  · refine .inr ⟨g, cap, cur, rfl, hlo, ?_, rest⟩
    rw [hb.block g (Array.getElem?_eq_some_iff.1 hgc).1]; exact hgc
theorem own_fs10 {w : World} {lo n : Nat} {v : Value} {xs : List Nat} (h : w.ownsRow lo 24 1 v n (xs.map Fw10)) (hn : n = xs.length) : ∃ a c, v = .slice a n c ∧ n ≤ c ∧ Fs w.heap.size w a xs := by
  have h' := h
  rcases h.2 with ⟨rfl, hn0⟩ | ⟨g, cap, cur, rfl, hlo, hg, hn1, hm, hs, ht⟩
  · have e : xs = [] := List.eq_nil_of_length_eq_zero (by rw [← hn]; simpa using hn0)
    subst e
    have : n = 0 := by simpa using hn
    subst this
    exact ⟨none, 0, rfl, Nat.le_refl _, Fs.nil _ _ _⟩
  · refine ⟨some ⟨g, 0, none⟩, cap, rfl, hn1, fun _ => ⟨g, 0, (Array.getElem?_eq_some_iff.1 hg).1, rfl, fun i hi => ?_⟩⟩
    have := World.ownsRow.cellAt h' i (by omega)
    rw [Nat.zero_add, this, List.getElem?_map, List.getElem?_eq_getElem hi, List.getD_eq_getElem?_getD, List.getElem?_eq_getElem hi]
    rfl

end Go.Proofs.YteoednbmhiblfaaDoor

/- Lists that came in. -/
namespace Go.Proofs.YteoednbmhiblfaaDoor
open Go.ChangeShapes Go.WideShapes Go.ChangeAt Go.RowKit
set_option linter.unusedVariables false
set_option maxRecDepth 20000
set_option linter.unusedSimpArgs false

theorem trodF {H : Type} {enc : TypeId × Value → H} {P : Program} {w : World} {base : Nat} {spare : Nat → Bool} {held : Bool} {fuel : Nat} {t : TypeId} {cs : List Value} {x : DataW H × List MemPlace} {k : FloatKind} (ht : P.underlying t = some (.float k)) (h : DataW.trod enc P w base spare held fuel t cs = some x) : ∃ n, cs = [.float k n] ∧ x = (.lit (.float k n), []) ∧ (Lit.float k n).wf = true := by
  cases fuel with
  | zero => simp [DataW.trod] at h
  | succ m =>
    simp only [DataW.trod, ht] at h
    split at h <;> simp_all

/-- A list that came in: its numbers, its room. -/
structure CameF (w : World) (a : Option Addr) (n c : Nat) (xs : List Nat) : Prop where
  len : n = xs.length
  cap : n ≤ c
  wf : W64 xs
  rd : Fs w.heap.size w a xs
  nil : a = none → c = 0

theorem add_noneF (b off i : Nat) : (⟨b, off, none⟩ : Addr).add i = ⟨b, off + i, none⟩ := by unfold Addr.add; split <;> simp_all

def numF {H : Type} (y : DataW H × List MemPlace) : Nat := match y.1 with | .lit (.float _ n) => n | _ => 0

theorem Tryd.cellsF : Tryd.prog.cellsOf 24 = 1 := by kernel_rfl
theorem Tryd.bytesF : Tryd.prog.bytesOf 24 = 8 := by kernel_rfl

theorem cameF_of {H : Type} {enc : TypeId × Value → H} {W : World} {a : Option Addr} {n c : Nat} {d : DataW H} {p : List MemPlace} (h : DataW.Trod enc Tryd.prog W 0 (fun _ => true) true 23 (.slice a n c) d p) :
    ∃ xs, CameF W a n c xs ∧ ((d = .nil ∧ c = 0) ∨ ∃ elems spare : List (DataW H), d = .slice elems spare ∧ elems.length + spare.length = c) := by
  obtain ⟨fuel, hf⟩ := h
  rcases DataW.trod_slice Tryd.underlying23 hf with ⟨hcs, hx⟩ | ⟨x, l, cp, elems, rest, m, _, hcs, hx, hb, hl, hm, hlen, hel, hsp, hns⟩
  · simp [Value.cells] at hcs
    obtain ⟨rfl, rfl, rfl⟩ := hcs
    exact ⟨[], ⟨rfl, Nat.le_refl _, (fun x hx => by cases hx), (fun h => absurd rfl h), fun _ => rfl⟩, .inl ⟨(Prod.mk.inj hx).1, rfl⟩⟩
  · simp [Value.cells] at hcs
    obtain ⟨rfl, rfl, rfl⟩ := hcs
    have each : ∀ i y, i < n → elems[i]? = some y → y = (.lit (.float .f64 (numF y)), []) ∧ (Lit.float .f64 (numF y)).wf = true ∧ W.cell? (x.add i) = some (.float .f64 (numF y)) := by
      intro i y hi hy
      have hb' := hel i hi
      rw [hy, Tryd.cellsF, Nat.mul_one, Option.bind_eq_some_iff] at hb'
      obtain ⟨cs', hcs, hy'⟩ := hb'
      obtain ⟨k, rfl, rfl, hw⟩ := trodF Tryd.underlying24 hy'
      exact ⟨rfl, hw, cell_of_cells?_one hcs⟩
    refine ⟨elems.map numF, ⟨by simp [hlen], hl, ?_, ?_, fun e => by cases e⟩, .inr ⟨_, _, (Prod.mk.inj hx).1, ?_⟩⟩
    · intro y hy
      obtain ⟨z, hz, rfl⟩ := List.mem_map.1 hy
      obtain ⟨i, hi⟩ := List.getElem?_of_mem hz
      have hil := (List.getElem?_eq_some_iff.1 hi).1
      have := (each i z (by omega) hi).2.1
      exact of_decide_eq_true this
    · intro hne
      obtain ⟨b, off, spot⟩ := x
      have hn0 : 0 < n := by
        rcases Nat.eq_zero_or_pos n with h0 | h0
        · rw [h0] at hlen; have := List.eq_nil_of_length_eq_zero hlen; subst this; simp at hne
        · exact h0
      have hc0 := (each 0 (elems[0]'(by omega)) hn0 (List.getElem?_eq_getElem _)).2.2
      have hspot : spot = none := by simpa [Addr.add] using World.cell?_spot hc0
      subst hspot
      refine ⟨b, off, World.block_lt_of_cell? W _ (by simpa [Addr.add] using hc0), rfl, fun i hi => ?_⟩
      rw [List.length_map] at hi
      have hadd := add_noneF b off i
      have := (each i (elems[i]'hi) (by omega) (List.getElem?_eq_getElem _)).2.2
      rw [hadd] at this
      rw [this]
      simp [List.getD_eq_getElem?_getD, hi]
    · have hr := (hsp rfl).1
      simp only [List.length_map]
      omega

/-- The form's own reach. -/
theorem cameF_reach {H : Type} {ts : List TypeId} {ds : List (DataW H)} (h : (DataW.weightsEach Tryd.prog ts ds).all (· ≤ reachBytes) = true) {j : Nat} {d : DataW H} {c n : Nat} (ht : ts[j]? = some 23) (hd : ds[j]? = some d) (hn : n ≤ c)
    (hc : (d = .nil ∧ c = 0) ∨ ∃ elems spare : List (DataW H), d = .slice elems spare ∧ elems.length + spare.length = c) : n ≤ 17592186043904 := by
  rcases hc with ⟨_, rfl⟩ | ⟨elems, spare, rfl, hl⟩
  · omega
  · have := sized_slice h ht hd Tryd.underlying23
    rw [Tryd.bytesF, hl] at this
    simp only [reachBytes] at this
    omega

/-- Whole numbers that lie in memory below B. -/
def Is7 (B : Nat) (w : World) (ao : Option Addr) (xs : List Int) : Prop :=
  xs ≠ [] → ∃ b off, b < B ∧ ao = some ⟨b, off, none⟩ ∧ ∀ i, i < xs.length → w.cell? ⟨b, off + i, none⟩ = some (.int .i64 (xs.getD i 0))
theorem Is7.at {B : Nat} {w w' : World} {ao : Option Addr} {xs : List Int} (h : Is7 B w ao xs) (hb : Below B w w') (i : Nat) (hi : i < xs.length) : ∃ b off, ao = some ⟨b, off, none⟩ ∧ w'.cell? ⟨b, off + i, none⟩ = some (.int .i64 (xs.getD i 0)) := by
  obtain ⟨b, off, h1, h2, h3⟩ := h (by intro e; subst e; simp at hi)
  exact ⟨b, off, h2, (hb.cell (p := ⟨b, off + i, none⟩) h1).trans (h3 i hi)⟩
def I64 (xs : List Int) : Prop := ∀ i, -9223372036854775808 ≤ xs.getD i 0 ∧ xs.getD i 0 ≤ 9223372036854775807
/-- A list of whole numbers that came in. -/
structure CameI (w : World) (a : Option Addr) (n c : Nat) (xs : List Int) : Prop where
  len : n = xs.length
  cap : n ≤ c
  wf : I64 xs
  rd : Is7 w.heap.size w a xs
  nil : a = none → c = 0

def numI {H : Type} (y : DataW H × List MemPlace) : Int := match y.1 with | .lit (.int _ n) => n | _ => 0

theorem Tryd.cellsI7 : Tryd.prog.cellsOf 3 = 1 := by kernel_rfl
theorem Tryd.bytesI7 : Tryd.prog.bytesOf 3 = 8 := by kernel_rfl

theorem cameI_of {H : Type} {enc : TypeId × Value → H} {W : World} {a : Option Addr} {n c : Nat} {d : DataW H} {p : List MemPlace} (h : DataW.Trod enc Tryd.prog W 0 (fun _ => true) true 33 (.slice a n c) d p) :
    ∃ xs, CameI W a n c xs ∧ ((d = .nil ∧ c = 0) ∨ ∃ elems spare : List (DataW H), d = .slice elems spare ∧ elems.length + spare.length = c) := by
  obtain ⟨fuel, hf⟩ := h
  rcases DataW.trod_slice Tryd.underlying33 hf with ⟨hcs, hx⟩ | ⟨x, l, cp, elems, rest, m, _, hcs, hx, hb, hl, hm, hlen, hel, hsp, hns⟩
  · simp [Value.cells] at hcs
    obtain ⟨rfl, rfl, rfl⟩ := hcs
    exact ⟨[], ⟨rfl, Nat.le_refl _, (fun i => by simp), (fun h => absurd rfl h), fun _ => rfl⟩, .inl ⟨(Prod.mk.inj hx).1, rfl⟩⟩
  · simp [Value.cells] at hcs
    obtain ⟨rfl, rfl, rfl⟩ := hcs
    have each : ∀ i y, i < n → elems[i]? = some y → y = (.lit (.int .i64 (numI y)), []) ∧ (-9223372036854775808 ≤ numI y ∧ numI y ≤ 9223372036854775807) ∧ W.cell? (x.add i) = some (.int .i64 (numI y)) := by
      intro i y hi hy
      have hb' := hel i hi
      rw [hy, Tryd.cellsI7, Nat.mul_one, Option.bind_eq_some_iff] at hb'
      obtain ⟨cs', hcs, hy'⟩ := hb'
      obtain ⟨e, e2, rfl, hw⟩ := DataW.trod_int Tryd.underlying3 hy'
      subst e2
      have hw' : -9223372036854775808 ≤ e ∧ e ≤ 9223372036854775807 := by
        simp [Lit.wf, IntKind.min, IntKind.max, IntKind.signed, IntKind.bits] at hw
        omega
      exact ⟨rfl, hw', cell_of_cells?_one hcs⟩
    refine ⟨elems.map numI, ⟨by simp [hlen], hl, ?_, ?_, fun e => by cases e⟩, .inr ⟨_, _, (Prod.mk.inj hx).1, ?_⟩⟩
    · intro i
      by_cases hi : i < elems.length
      · have := (each i (elems[i]'hi) (by omega) (List.getElem?_eq_getElem _)).2.1
        simpa [List.getD_eq_getElem?_getD, hi] using this
      · simp [List.getD_eq_getElem?_getD, hi]
    · intro hne
      obtain ⟨b, off, spot⟩ := x
      have hn0 : 0 < n := by
        rcases Nat.eq_zero_or_pos n with h0 | h0
        · rw [h0] at hlen; have := List.eq_nil_of_length_eq_zero hlen; subst this; simp at hne
        · exact h0
      have hc0 := (each 0 (elems[0]'(by omega)) hn0 (List.getElem?_eq_getElem _)).2.2
      have hspot : spot = none := by simpa [Addr.add] using World.cell?_spot hc0
      subst hspot
      refine ⟨b, off, World.block_lt_of_cell? W _ (by simpa [Addr.add] using hc0), rfl, fun i hi => ?_⟩
      rw [List.length_map] at hi
      have hadd := add_noneF b off i
      have := (each i (elems[i]'hi) (by omega) (List.getElem?_eq_getElem _)).2.2
      rw [hadd] at this
      rw [this]
      simp [List.getD_eq_getElem?_getD, hi]
    · have hr := (hsp rfl).1
      simp only [List.length_map]
      omega

/-- The form's own reach. -/
theorem cameI_reach {H : Type} {ts : List TypeId} {ds : List (DataW H)} (h : (DataW.weightsEach Tryd.prog ts ds).all (· ≤ reachBytes) = true) {j : Nat} {d : DataW H} {c n : Nat} (ht : ts[j]? = some 33) (hd : ds[j]? = some d) (hn : n ≤ c)
    (hc : (d = .nil ∧ c = 0) ∨ ∃ elems spare : List (DataW H), d = .slice elems spare ∧ elems.length + spare.length = c) : n ≤ 17592186043904 := by
  rcases hc with ⟨_, rfl⟩ | ⟨elems, spare, rfl, hl⟩
  · omega
  · have := sized_slice h ht hd Tryd.underlying33
    rw [Tryd.bytesI7, hl] at this
    simp only [reachBytes] at this
    omega


end Go.Proofs.YteoednbmhiblfaaDoor

/- The document's Times: whole. -/
namespace Go.Proofs.YteoednbmhiblfaaDoor
open Go.RowKit J
set_option linter.unusedVariables false
set_option maxRecDepth 20000
set_option linter.unusedSimpArgs false

theorem absSg (s : Bool) (v : Nat) : (B.sg s v).natAbs = v := by unfold B.sg; cases s <;> simp
end Go.Proofs.YteoednbmhiblfaaDoor

/- What each call of the package and of the document answers, as a plain function of the numbers' bits. -/
namespace Go.Proofs.YteoednbmhiblfaaDoor
open Go.RowKit J
set_option linter.unusedVariables false
set_option maxRecDepth 20000

abbrev Wd (x : Nat) : Prop := x < 18446744073709551616
theorem odd_wd : Wd oddW := by unfold Wd oddW; decide
theorem ar_wd (op : BinOp) (ho : op = .add ∨ op = .sub ∨ op = .mul) (x y : Nat) : Wd (arW op x y) := by
  unfold arW
  cases h : floatBits op .f64 x y with
  | none => exact odd_wd
  | some z => exact (bits_fin ho h).2
def plW (x y : Nat) : Nat := arW .add x y
def miW (x y : Nat) : Nat := arW .sub x y
theorem pl_wd (x y : Nat) : Wd (plW x y) := ar_wd .add (.inl rfl) x y
theorem mi_wd (x y : Nat) : Wd (miW x y) := ar_wd .sub (.inr (.inl rfl)) x y
def sumP (a b : Nat) : Nat × Nat := (plW a b, plW (miW a (miW (plW a b) (miW (plW a b) a))) (miW b (miW (plW a b) a)))
end Go.Proofs.YteoednbmhiblfaaDoor

/- Steps of finite numbers by their values (whole numbers of units of 2^-1074): what is rounded is the nearest. -/
namespace Go.Proofs.YteoednbmhiblfaaDoor
open Go.RowKit J
set_option linter.unusedVariables false
set_option maxRecDepth 20000

/-- A finite word; its value. -/
abbrev finW (x : Nat) : Prop := magW x < 9218868437227405312
def fvW (x : Nat) : Int := B.sg (negW x) (vK (magW x))
/-- TwoP to the power of 1022, in those units: 2^2096. -/
def EQ : Nat := 2096
theorem exQ : ∃ q : Nat, q = 2 ^ EQ := ⟨_, rfl⟩
noncomputable def QQ : Nat := Classical.choose exQ
theorem Q_eq : QQ = 2 ^ EQ := Classical.choose_spec exQ
theorem Q_pos : 0 < QQ := by rw [Q_eq]; exact Nat.two_pow_pos _

theorem sg_abs (s : Bool) (v : Nat) : (B.sg s v).natAbs = v := absSg s v
theorem vK_F (K : Nat) : ∃ m k : Nat, vK K = m * 2 ^ k ∧ m ≤ 9007199254740992 := by
  show ∃ m k, B.val Ieee.double K = m * 2 ^ k ∧ m ≤ 9007199254740992
  unfold B.val
  rw [B.dBin]
  split
  · exact ⟨K, 0, by simp, by omega⟩
  · exact ⟨_, _, rfl, by omega⟩
theorem fv_F (x : Nat) : IsF (fvW x) := by
  obtain ⟨m, k, h1, h2⟩ := vK_F (magW x)
  unfold fvW B.sg
  rw [h1]
  cases negW x
  · exact ⟨(m : Int), k, by simp, by omega, by omega⟩
  · exact ⟨-(m : Int), k, by simp [Int.neg_mul], by omega, by omega⟩
theorem F_vK {f : Int} (h : IsF f) : ∃ L, vK L = f.natAbs := by
  by_cases hs : f.natAbs ≤ 9007199254740992
  · refine ⟨f.natAbs, ?_⟩
    have := vK_word 0 f.natAbs (.inl rfl) hs
    simpa using this
  · obtain ⟨k, h1, h2, h3⟩ := h.placed
    have h2' : 2 ^ (52 + k) ≤ f.natAbs := by
      rcases h2 with rfl | h2
      · omega
      · exact h2
    obtain ⟨q, hq⟩ := h3
    have hf : f.natAbs = q.natAbs * 2 ^ k := by rw [hq, Int.natAbs_mul, natAbs_p2, Nat.mul_comm]
    rw [hf] at h1 h2' ⊢
    rw [Nat.pow_add] at h1 h2'
    have a1 := Nat.lt_of_mul_lt_mul_right h1
    have a2 := Nat.le_of_mul_le_mul_right h2' (Nat.two_pow_pos _)
    exact ⟨_, vK_word k q.natAbs (.inr (by omega)) (by omega)⟩

/-- The nearest rung is the nearest. -/
theorem ne_near {R V L : Nat} (h : NE R V 1) : ((vK R : Int) - V).natAbs ≤ ((vK L : Int) - V).natAbs := by
  have u : 2 * V ≤ vK R + vK (R + 1) := by have := h.up; rw [Nat.mul_one] at this; exact this
  rcases Nat.lt_trichotomy L R with c | c | c
  · have d : vK (R - 1) + vK R ≤ 2 * V := by have := h.dn (by omega); rw [Nat.mul_one] at this; exact this
    have m1 : vK L ≤ vK (R - 1) := vmono (by omega)
    have m2 : vK (R - 1) < vK R := vK_lt.2 (by omega)
    omega
  · rw [c]; omega
  · have m1 : vK (R + 1) ≤ vK L := vmono (by omega)
    have m2 : vK R < vK (R + 1) := vK_lt.2 (by omega)
    omega
theorem ne_rn {R : Nat} {T : Int} (h : NE R T.natAbs 1) {s : Bool} (hs : T ≠ 0 → s = decide (T < 0)) : IsRn T (B.sg s (vK R)) := by
  have hF : IsF (B.sg s (vK R)) := by
    obtain ⟨m, k, h1, h2⟩ := vK_F R
    unfold B.sg
    rw [h1]
    cases s
    · exact ⟨(m : Int), k, by simp, by omega, by omega⟩
    · exact ⟨-(m : Int), k, by simp [Int.neg_mul], by omega, by omega⟩
  refine ⟨hF, fun f hf => ?_⟩
  obtain ⟨L, hL⟩ := F_vK hf
  have n := ne_near (L := L) h
  by_cases hT : T = 0
  · subst hT
    have : NE 0 (0 : Int).natAbs 1 := NEf.own (by decide) (by rw [B.val_zero]; rfl)
    rw [h.one this (by decide), show vK 0 = 0 from B.val_zero _]
    unfold B.sg
    cases s <;> simp
  · have e := hs hT
    unfold B.sg
    by_cases hn : T < 0
    · rw [decide_eq_true hn] at e; subst e
      simp only [if_true]
      omega
    · rw [decide_eq_false hn] at e; subst e
      simp only [Bool.false_eq_true, if_false]
      omega
theorem top_half (K : Nat) (h : 9218868437227405311 ≤ K) : 2 * QQ < vK K := by
  obtain ⟨c, hc⟩ : ∃ c : Nat, c = 2045 := ⟨_, rfl⟩
  have h1 := vK_word c 4503599627370496 (.inr (by omega)) (by omega)
  have h2 : c * 4503599627370496 + 4503599627370496 < K := by rw [hc]; omega
  have h3 := vK_lt.2 h2
  rw [h1] at h3
  have h4 : 2 * QQ = 4503599627370496 * 2 ^ c := by
    have a1 : EQ + 1 = 52 + c := by rw [hc]; unfold EQ; rfl
    have a2 : 2 * 2 ^ EQ = 2 ^ (EQ + 1) := by rw [Nat.pow_succ, Nat.mul_comm]
    rw [Q_eq, a2, a1, Nat.pow_add]
  omega
theorem ne_fin {R V : Nat} (h : NE R V 1) (hV : V ≤ 3 * QQ) : R < 9218868437227405312 := by
  apply Nat.lt_of_not_le; intro hh
  have d : vK (R - 1) + vK R ≤ 2 * V := by have := h.dn (by omega); rw [Nat.mul_one] at this; exact this
  have a1 := top_half (R - 1) (by omega)
  obtain ⟨c, hc⟩ : ∃ c : Nat, c = 2045 := ⟨_, rfl⟩
  have h1 := vK_word c 9007199254740992 (.inr (by omega)) (by omega)
  have h2 : c * 4503599627370496 + 9007199254740992 ≤ R := by rw [hc]; omega
  have h3 : vK (c * 4503599627370496 + 9007199254740992) ≤ vK R := vmono h2
  rw [h1] at h3
  have h4 : 4 * QQ = 9007199254740992 * 2 ^ c := by
    have a1 : EQ + 2 = 53 + c := by rw [hc]; unfold EQ; rfl
    have a2 : 4 * 2 ^ EQ = 2 ^ (EQ + 2) := by rw [Nat.pow_add, Nat.mul_comm]
    rw [Q_eq, a2, a1, Nat.pow_add]
  omega

theorem fv_wd (s : Bool) (K : Nat) (h : K < 9218868437227405312) : finW (wd64 s K) ∧ fvW (wd64 s K) = B.sg s (vK K) := by
  obtain ⟨h1, h2, _⟩ := magW_wd s K (by omega)
  unfold fvW
  rw [h1, h2]
  exact ⟨by unfold finW; rw [h1]; exact h, rfl⟩
/-- A sum. -/
theorem pl_fin {x y : Nat} (hx : Wd x) (hy : Wd y) (fx : finW x) (fy : finW y) (hT : (fvW x + fvW y).natAbs ≤ 3 * QQ) : finW (plW x y) ∧ IsRn (fvW x + fvW y) (fvW (plW x y)) := by
  obtain ⟨R, hR, hA⟩ := add_wd (negW x) (negW y) (magW x) (magW y) fx fy
  rw [← wd_of x hx, ← wd_of y hy] at hA
  have e : plW x y = wd64 (if fvW x + fvW y = 0 then negW x && negW y else decide (fvW x + fvW y < 0)) (min R 9218868437227405312) := by
    show (Ieee.double.add x y).getD oddW = _
    rw [hA]; rfl
  have hf := ne_fin hR hT
  rw [Nat.min_eq_left (by omega)] at e
  obtain ⟨k1, k2⟩ := fv_wd (if fvW x + fvW y = 0 then negW x && negW y else decide (fvW x + fvW y < 0)) R hf
  rw [e]
  refine ⟨k1, ?_⟩
  rw [k2]
  exact ne_rn (T := fvW x + fvW y) hR (fun h => if_neg h)
theorem fv_turn {y : Nat} (hy : Wd y) (fy : finW y) : finW (turnW y) ∧ fvW (turnW y) = -fvW y := by
  have hm : magW y < 9223372036854775808 := Nat.mod_lt _ (by decide)
  have e : turnW y = wd64 (!negW y) (magW y) := by rw [← turn_wd _ _ hm, ← wd_of y hy]
  rw [e]
  obtain ⟨k1, k2⟩ := fv_wd (!negW y) (magW y) fy
  refine ⟨k1, ?_⟩
  rw [k2]
  unfold fvW B.sg
  cases negW y <;> simp
/-- A difference. -/
theorem mi_fin {x y : Nat} (hx : Wd x) (hy : Wd y) (fx : finW x) (fy : finW y) (hT : (fvW x - fvW y).natAbs ≤ 3 * QQ) : finW (miW x y) ∧ IsRn (fvW x - fvW y) (fvW (miW x y)) := by
  obtain ⟨k1, k2⟩ := fv_turn hy fy
  have e : miW x y = plW x (turnW y) := sub_turn x y hy
  have := pl_fin hx (turn_lt y hy) fx k1 (by rw [k2]; rwa [Int.sub_eq_add_neg] at hT)
  rw [e, Int.sub_eq_add_neg, ← k2]
  exact this
end Go.Proofs.YteoednbmhiblfaaDoor

/- Whole numbers: all ways are right. -/
namespace Go.Proofs.YteoednbmhiblfaaDoor
open Go.RowKit J
set_option linter.unusedVariables false
set_option maxRecDepth 20000
set_option linter.unusedSimpArgs false

/-- A word whose value is the whole number k. -/
def Wh (x : Nat) (k : Int) : Prop := x < 18446744073709551616 ∧ finW x ∧ fvW x = k * ((2 ^ 1074 : Nat) : Int)
theorem isF_whole (k : Int) (h0 : -9007199254740992 ≤ k) (h1 : k ≤ 9007199254740992) : IsF (k * ((2 ^ 1074 : Nat) : Int)) := by
  obtain ⟨e, he⟩ : ∃ e, e = 1074 := ⟨_, rfl⟩
  rw [← he]
  exact ⟨k, e, by rw [Int.natCast_pow]; rfl, h0, h1⟩
theorem whole_small (k : Int) (h0 : -9007199254740992 ≤ k) (h1 : k ≤ 9007199254740992) : (k * ((2 ^ 1074 : Nat) : Int)).natAbs ≤ 3 * QQ := by
  obtain ⟨e, he⟩ : ∃ e, e = 1074 := ⟨_, rfl⟩
  rw [← he, Int.natAbs_mul, Int.natAbs_natCast, Q_eq]
  have h2 : k.natAbs * 2 ^ e ≤ 2 ^ 53 * 2 ^ e := Nat.mul_le_mul_right _ (by omega)
  have h3 : 2 ^ 53 * 2 ^ e ≤ 2 ^ EQ := by
    rw [← Nat.pow_add]
    exact Nat.pow_le_pow_right (by decide) (by rw [he]; decide)
  generalize 2 ^ EQ = K at *
  omega
theorem IsRn.own {V s : Int} (h : IsRn V s) (hV : IsF V) : s = V := by
  have := h.2 V hV
  rw [Int.sub_self] at this
  omega
theorem Wh.pl {x y : Nat} {a b : Int} (hx : Wh x a) (hy : Wh y b) (h0 : -9007199254740992 ≤ a + b) (h1 : a + b ≤ 9007199254740992) : Wh (plF x y) (a + b) := by
  have e : fvW x + fvW y = (a + b) * ((2 ^ 1074 : Nat) : Int) := by rw [hx.2.2, hy.2.2, Int.add_mul]
  obtain ⟨k1, k2⟩ := pl_fin hx.1 hy.1 hx.2.1 hy.2.1 (by rw [e]; exact whole_small _ h0 h1)
  refine ⟨plF_lt x y, k1, ?_⟩
  rw [e] at k2
  exact k2.own (isF_whole _ h0 h1)
theorem Wh.mi {x y : Nat} {a b : Int} (hx : Wh x a) (hy : Wh y b) (h0 : -9007199254740992 ≤ a - b) (h1 : a - b ≤ 9007199254740992) : Wh (miF x y) (a - b) := by
  have e : fvW x - fvW y = (a - b) * ((2 ^ 1074 : Nat) : Int) := by rw [hx.2.2, hy.2.2, Int.sub_mul]
  obtain ⟨k1, k2⟩ := mi_fin hx.1 hy.1 hx.2.1 hy.2.1 (by rw [e]; exact whole_small _ h0 h1)
  refine ⟨miF_lt x y, k1, ?_⟩
  rw [e] at k2
  exact k2.own (isF_whole _ h0 h1)
theorem Wh.nrm {x : Nat} {a : Int} (hx : Wh x a) : nrm x = x := by
  have h : magW x < 9218868437227405312 := hx.2.1
  unfold Go.Proofs.YteoednbmhiblfaaDoor.nrm nanW
  unfold magW at h
  rw [if_neg (by simp; omega)]
/-- A word's whole number. -/
def wv (x : Nat) : Int := fvW x / ((2 ^ 1074 : Nat) : Int)
theorem Wh.wv {x : Nat} {k : Int} (h : Wh x k) : wv x = k := by
  unfold Go.Proofs.YteoednbmhiblfaaDoor.wv
  rw [h.2.2]
  obtain ⟨e, he⟩ : ∃ e, e = 1074 := ⟨_, rfl⟩
  rw [← he]
  have := Nat.two_pow_pos e
  exact Int.mul_ediv_cancel _ (by omega)
/-- Words of whole numbers; their sum, their sizes' sum. -/
def Wl (l : List Nat) : Prop := ∀ x ∈ l, Wh x (wv x)
def wS : List Nat → Int
  | [] => 0
  | x :: l => wv x + wS l
def wT : List Nat → Int
  | [] => 0
  | x :: l => ((wv x).natAbs : Int) + wT l
theorem wS_app : ∀ l m, wS (l ++ m) = wS l + wS m
  | [], m => by simp [wS]
  | x :: l, m => by simp only [List.cons_append, wS, wS_app l m]; omega
theorem wT_app : ∀ l m, wT (l ++ m) = wT l + wT m
  | [], m => by simp [wT]
  | x :: l, m => by simp only [List.cons_append, wT, wT_app l m]; omega
theorem wT_pos : ∀ l, 0 ≤ wT l ∧ -(wT l) ≤ wS l ∧ wS l ≤ wT l
  | [] => by simp [wT, wS]
  | x :: l => by
    have := wT_pos l
    simp only [wT, wS]
    omega
theorem Wl.cons {x : Nat} {l : List Nat} (h : Wl (x :: l)) : Wh x (wv x) ∧ Wl l := ⟨h x (List.mem_cons_self ..), fun y hy => h y (List.mem_cons_of_mem _ hy)⟩
theorem wh_zero : Wh 0 0 := ⟨by decide, by unfold finW magW; decide, by
  obtain ⟨e, he⟩ : ∃ e, e = 1074 := ⟨_, rfl⟩
  rw [← he]
  have h : fvW 0 = 0 := by unfold fvW; rw [show magW 0 = 0 from rfl, show vK 0 = 0 from B.val_zero _]; rfl
  rw [h]; simp⟩
theorem fold_whole : ∀ (l : List Nat) (s : Nat) (a : Int), Wl l → Wh s a → (a.natAbs : Int) + wT l ≤ 4503599627370496 → Wh (l.foldl plF s) (a + wS l)
  | [], s, a, _, hs, _ => by simpa [wS] using hs
  | x :: l, s, a, hl, hs, hb => by
    obtain ⟨hx, hl'⟩ := hl.cons
    have hp := (wT_pos l).1
    simp only [wT] at hb
    have h := fold_whole l (plF s x) (a + wv x) hl' (hs.pl hx (by omega) (by omega)) (by omega)
    simp only [List.foldl_cons, wS]
    rw [← Int.add_assoc]
    exact h
theorem run_whole (l : List Nat) (hl : Wl l) (hb : wT l ≤ 4503599627370496) : Wh (runF l) (wS l) := by
  cases l with
  | nil => exact wh_zero
  | cons x l =>
    obtain ⟨hx, hl'⟩ := hl.cons
    simp only [wT] at hb
    have h := fold_whole l x (wv x) hl' hx (by omega)
    show Wh (l.foldl plF (Go.Proofs.YteoednbmhiblfaaDoor.nrm x)) (wS (x :: l))
    rw [hx.nrm]
    exact h
theorem Wl.take {l : List Nat} (h : Wl l) (k : Nat) : Wl (l.take k) := fun x hx => h x (List.mem_of_mem_take hx)
theorem Wl.drop {l : List Nat} (h : Wl l) (k : Nat) : Wl (l.drop k) := fun x hx => h x (List.mem_of_mem_drop hx)
theorem hv_whole : ∀ (m : Nat) (l : List Nat), l.length ≤ m → Wl l → wT l ≤ 4503599627370496 → Wh (hvF l) (wS l)
  | 0, l, hm, hl, hb => by
    have e : l = [] := List.eq_nil_of_length_eq_zero (by omega)
    subst e
    rw [hv_short [] (by simp)]
    exact wh_zero
  | m + 1, l, hm, hl, hb => by
    by_cases h1 : l.length ≤ 1
    · rw [hv_short l h1]
      match l, h1, hl with
      | [], _, _ => exact wh_zero
      | [x], _, hl =>
        have hx := hl x (by simp)
        rw [List.getD_cons_zero, hx.nrm]
        simpa [wS] using hx
    · have key : ∀ n, 2 ≤ n → ∃ j, 2 ^ j < n ∧ n ≤ 2 ^ (j + 1) := by
        intro n
        induction n with
        | zero => intro h; omega
        | succ n ih =>
          intro h
          by_cases h2 : n = 1
          · exact ⟨0, by omega, by omega⟩
          · obtain ⟨j, h3, h4⟩ := ih (by omega)
            by_cases h5 : n + 1 ≤ 2 ^ (j + 1)
            · exact ⟨j, by omega, h5⟩
            · refine ⟨j + 1, by omega, ?_⟩
              rw [Nat.pow_succ]
              have := Nat.two_pow_pos (j + 1)
              omega
      obtain ⟨j, j1, j2⟩ := key l.length (by omega)
      have hp := Nat.two_pow_pos j
      rw [hv_halves l j j1 j2 (fun x hx => (hl x hx).1)]
      have es : wS (l.take (2 ^ j)) + wS (l.drop (2 ^ j)) = wS l := by rw [← wS_app, List.take_append_drop]
      have et : wT (l.take (2 ^ j)) + wT (l.drop (2 ^ j)) = wT l := by rw [← wT_app, List.take_append_drop]
      have p1 := wT_pos (l.take (2 ^ j))
      have p2 := wT_pos (l.drop (2 ^ j))
      have h2 := hv_whole m (l.take (2 ^ j)) (by rw [List.length_take]; omega) (hl.take _) (by omega)
      have h3 := hv_whole m (l.drop (2 ^ j)) (by rw [List.length_drop]; omega) (hl.drop _) (by omega)
      rw [← es]
      exact h2.pl h3 (by omega) (by omega)
theorem ka_whole : ∀ (l : List Nat) (q : Nat × Nat) (a : Int), Wl l → Wh q.1 a → Wh q.2 0 → (a.natAbs : Int) + wT l ≤ 4503599627370496 → Wh (l.foldl kaS q).1 (a + wS l)
  | [], q, a, _, h1, _, _ => by simpa [wS] using h1
  | x :: l, q, a, hl, h1, h2, hb => by
    obtain ⟨hx, hl'⟩ := hl.cons
    have hp := (wT_pos l).1
    simp only [wT] at hb
    have hy := hx.mi h2 (by omega) (by omega)
    rw [Int.sub_zero] at hy
    have ht := h1.pl hy (by omega) (by omega)
    have hu := ht.mi h1 (by omega) (by omega)
    rw [show a + wv x - a = wv x by omega] at hu
    have hc := hu.mi hy (by omega) (by omega)
    rw [Int.sub_self] at hc
    have h := ka_whole l (kaS q x) (a + wv x) hl' ht hc (by omega)
    simp only [List.foldl_cons, wS]
    rw [← Int.add_assoc]
    exact h
theorem ne_whole : ∀ (l : List Nat) (q : Nat × Nat) (a : Int), Wl l → Wh q.1 a → Wh q.2 0 → (a.natAbs : Int) + wT l ≤ 4503599627370496 → Wh (l.foldl neS q).1 (a + wS l) ∧ Wh (l.foldl neS q).2 0
  | [], q, a, _, h1, h2, _ => by simpa [wS] using ⟨h1, h2⟩
  | x :: l, q, a, hl, h1, h2, hb => by
    obtain ⟨hx, hl'⟩ := hl.cons
    have hp := (wT_pos l).1
    simp only [wT] at hb
    have ht := h1.pl hx (by omega) (by omega)
    have hv : Wh (neV q.1 x) 0 := by
      unfold neV
      split
      · have hu := h1.mi ht (by omega) (by omega)
        have := hu.pl hx (by omega) (by omega)
        rw [show a - (a + wv x) + wv x = 0 by omega] at this
        exact this
      · have hu := hx.mi ht (by omega) (by omega)
        have := hu.pl h1 (by omega) (by omega)
        rw [show wv x - (a + wv x) + a = 0 by omega] at this
        exact this
    have hc := h2.pl hv (by omega) (by omega)
    rw [Int.add_zero] at hc
    have h := ne_whole l (neS q x) (a + wv x) hl' ht hc (by omega)
    simp only [List.foldl_cons, wS]
    rw [← Int.add_assoc]
    exact h
theorem kahan_whole (l : List Nat) (hl : Wl l) (hb : wT l ≤ 4503599627370496) : Wh (kaF l).1 (wS l) := by
  have := ka_whole l (0, 0) 0 hl wh_zero wh_zero (by simpa using hb)
  rw [Int.zero_add] at this
  exact this
theorem neu_whole (l : List Nat) (hl : Wl l) (hb : wT l ≤ 4503599627370496) : Wh (plF (neF l).1 (neF l).2) (wS l) := by
  obtain ⟨h1, h2⟩ := ne_whole l (0, 0) 0 hl wh_zero wh_zero (by simpa using hb)
  rw [Int.zero_add] at h1
  have p := wT_pos l
  have := h1.pl h2 (by omega) (by omega)
  rw [Int.add_zero] at this
  exact this
theorem bl_whole (s : Nat) (l : List Nat) (hs : 1 ≤ s) (hl : Wl l) (hb : wT l ≤ 4503599627370496) : Wh (blF s l) (wS l) := by
  have key : ∀ k, Wl ((List.range k).map fun i => runF (pc s l i)) ∧ wS ((List.range k).map fun i => runF (pc s l i)) = wS (l.take (k * s)) ∧ wT ((List.range k).map fun i => runF (pc s l i)) ≤ wT (l.take (k * s)) := by
    intro k
    induction k with
    | zero => simp [wS, wT, Wl]
    | succ k ih =>
      have e : l.take ((k + 1) * s) = l.take (k * s) ++ pc s l k := by rw [Nat.add_mul, Nat.one_mul, List.take_add]; rfl
      have hpc : Wl (pc s l k) := (hl.drop _).take _
      have e2 : wT (l.take ((k + 1) * s)) + wT (l.drop ((k + 1) * s)) = wT l := by rw [← wT_app, List.take_append_drop]
      have p1 := wT_pos (l.drop ((k + 1) * s))
      have p2 := wT_pos (l.take (k * s))
      have p3 := wT_pos (pc s l k)
      rw [e, wT_app] at e2
      have hr := run_whole (pc s l k) hpc (by omega)
      have hv := hr.wv
      rw [List.range_succ, List.map_append, wS_app, wT_app, e, wS_app, wT_app]
      refine ⟨fun x hx => ?_, ?_, ?_⟩
      · rcases List.mem_append.1 hx with h | h
        · exact ih.1 x h
        · have : x = runF (pc s l k) := by simpa using h
          rw [this, hv]; exact hr
      · simp only [List.map_cons, List.map_nil, wS, hv]
        rw [ih.2.1]; omega
      · simp only [List.map_cons, List.map_nil, wT, hv]
        have := ih.2.2
        omega
  obtain ⟨nb, hnb⟩ : ∃ nb, nb = (l.length + s - 1) / s := ⟨_, rfl⟩
  have hq := Nat.div_add_mod (l.length + s - 1) s
  have hq2 := Nat.mod_lt (l.length + s - 1) (show s > 0 by omega)
  rw [← hnb] at hq
  have hc : s * nb = nb * s := Nat.mul_comm _ _
  have hfull : l.length ≤ nb * s := by omega
  obtain ⟨k1, k2, k3⟩ := key nb
  rw [List.take_of_length_le hfull] at k2 k3
  unfold blF
  rw [← hnb, ← k2]
  exact run_whole _ k1 (by omega)
end Go.Proofs.YteoednbmhiblfaaDoor

/- P5.6 by words: Sum, Quick, Halves, Product of finite numbers. -/
namespace Go.Proofs.YteoednbmhiblfaaDoor
open Go.RowKit J
set_option linter.unusedVariables false
set_option maxRecDepth 20000

theorem two_Q : 2 * QQ = 2 ^ (EQ + 1) := by rw [Q_eq, Nat.pow_succ, Nat.mul_comm]
theorem rn_2Q {V s : Int} (h : IsRn V s) (hV : V.natAbs ≤ 2 * QQ) : s.natAbs ≤ 2 * QQ := by
  rw [two_Q] at hV ⊢; exact h.abs_le hV

/-- What came of a call: two finite numbers, and their sum. -/
structure TwoP (p : Nat × Nat) (V : Int) : Prop where
  w1 : Wd p.1
  w2 : Wd p.2
  f1 : finW p.1
  f2 : finW p.2
  val : fvW p.1 + fvW p.2 = V

theorem tiny {V s : Int} {Q : Nat} (h : 4503599627370496 * 2 * (s - V).natAbs ≤ V.natAbs) (hV : V.natAbs ≤ 4 * Q) : -(Q : Int) ≤ 64 * (s - V) ∧ 64 * (s - V) ≤ Q := by omega
theorem sum_bound {A C H T G V X : Int} {Q : Nat} (t1 : -(Q : Int) ≤ 64 * (H - (A + C)) ∧ 64 * (H - (A + C)) ≤ Q) (t2 : -(Q : Int) ≤ 64 * (T - (H - A)) ∧ 64 * (T - (H - A)) ≤ Q) (t3 : -(Q : Int) ≤ 64 * (G - (H - T)) ∧ 64 * (G - (H - T)) ≤ Q)
    (e4 : 4503599627370496 * 2 * (V - (A - G)).natAbs ≤ (A - G).natAbs) (e5 : 4503599627370496 * 2 * (X - (C - T)).natAbs ≤ (C - T).natAbs) : (V + X).natAbs ≤ 3 * Q := by
  have k3 : (A - G).natAbs ≤ 4 * Q := by omega
  have k4 : (C - T).natAbs ≤ 4 * Q := by omega
  have t4 := tiny e4 k3
  have t5 := tiny e5 k4
  clear e4 e5 k3 k4
  omega
theorem sum_two {a b : Nat} (ha : Wd a) (hb : Wd b) (fa : finW a) (fb : finW b) (la : (fvW a).natAbs ≤ QQ) (lb : (fvW b).natAbs ≤ QQ) : TwoP (sumP a b) (fvW a + fvW b) := by
  have hQ := Q_pos
  obtain ⟨f1, r1⟩ := pl_fin ha hb fa fb (by omega)
  have n1 := r1.near _ (fv_F a)
  have s1 := rn_2Q r1 (by omega)
  have t1 := Aside.intro (tiny (Q := QQ) r1.rel (by omega))
  obtain ⟨f2, r2⟩ := mi_fin (pl_wd a b) ha f1 fa (by omega)
  have s2 := rn_2Q r2 (by omega)
  have t2 := Aside.intro (tiny (Q := QQ) r2.rel (by omega))
  have n2 := r2.near _ (fv_F (plW a b))
  clear n1
  obtain ⟨f3, r3⟩ := mi_fin (pl_wd a b) (mi_wd (plW a b) a) f1 f2 (by omega)
  have s3 := rn_2Q r3 (by omega)
  have t3 := Aside.intro (tiny (Q := QQ) r3.rel (by omega))
  clear n2
  obtain ⟨f4, r4⟩ := mi_fin ha (mi_wd (plW a b) (miW (plW a b) a)) fa f3 (by omega)
  obtain ⟨f5, r5⟩ := mi_fin hb (mi_wd (plW a b) a) fb f2 (by omega)
  obtain ⟨f6, r6⟩ := pl_fin (mi_wd a (miW (plW a b) (miW (plW a b) a))) (mi_wd b (miW (plW a b) a)) f4 f5 (sum_bound t1.out t2.out t3.out r4.rel r5.rel)
  exact ⟨pl_wd _ _, pl_wd _ _, f1, f6, sum_just (fv_F a) (fv_F b) r1 r2 r3 r4 r5 r6⟩

end Go.Proofs.YteoednbmhiblfaaDoor

