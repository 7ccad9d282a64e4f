/- A Spread in memory; New, Add. -/
import Derived.Test.YtjpaocgimdinmaaGreatDoorG10x
import Derived.Test.YtjpaocgimdinmaaGreatDoorD16x
import Derived.Test.YtjpaocgimdinmaaGreatDoorD21x
import Derived.Deep.RegionHeld3
import Derived.Test.YtjpaocgimdinmaaGreatDoorD10x
namespace Go.Proofs.YtjpaocgimdinmaaGreatDoor
open Go.RowKit
set_option linter.unusedVariables false
set_option maxRecDepth 20000
set_option linter.unusedSimpArgs false

/-- A Spread's block. -/
def Sk (w : World) (g : Nat) (n : Nat) (va vb : Value) : Prop := w.heap[g]? = some (.cells #[.int .i64 (n : Nat), va, vb] 129 (0, 0))
theorem Sk.lt {w : World} {g n : Nat} {va vb : Value} (h : Sk w g n va vb) : g < w.heap.size := (Array.getElem?_eq_some_iff.1 h).1
theorem Sk.of_block {w w' : World} {g n : Nat} {va vb : Value} (h : Sk w g n va vb) (hb : w'.heap[g]? = w.heap[g]?) : Sk w' g n va vb := by unfold Sk at h ⊢; rw [hb]; exact h
theorem Sk.facts {w : World} {g n : Nat} {va vb : Value} (h : Sk w g n va vb) :
    w.cell? ⟨g, 0, none⟩ = some (.int .i64 (n : Nat)) ∧ w.cell? ⟨g, 1, none⟩ = some va ∧ w.cell? ⟨g, 2, none⟩ = some vb ∧ w.frozen? ⟨g, 0, none⟩ = false ∧ w.frozen? ⟨g, 1, none⟩ = false ∧ w.frozen? ⟨g, 2, none⟩ = false := by
  unfold Sk at h
  refine ⟨?_, ?_, ?_, ?_, ?_, ?_⟩ <;> simp [World.cell?, World.frozen?, h]
theorem Sk.set0 {w : World} {g n : Nat} {va vb : Value} (h : Sk w g n va vb) (m : Nat) : Sk (w.setCell ⟨g, 0, none⟩ (.int .i64 (m : Nat))) g m va vb := by
  unfold Sk at h ⊢
  simp [World.setCell, Array.getElem?_modify, h]
theorem Sk.set1 {w : World} {g n : Nat} {va vb : Value} (h : Sk w g n va vb) (v : Value) : Sk (w.setCell ⟨g, 1, none⟩ v) g n v vb := by
  unfold Sk at h ⊢
  simp [World.setCell, Array.getElem?_modify, h]
theorem Sk.set2 {w : World} {g n : Nat} {va vb : Value} (h : Sk w g n va vb) (v : Value) : Sk (w.setCell ⟨g, 2, none⟩ v) g n va v := by
  unfold Sk at h ⊢
  simp [World.setCell, Array.getElem?_modify, h]
/-- Blocks of numbers are no Spreads. -/
theorem Sk.not_row {w : World} {g n : Nat} {va vb : Value} (h : Sk w g n va vb) {lo : Nat} {v : Value} {L : List Nat} (k : Fr lo w v L) : v.ownBlock ≠ some g := by
  intro e
  rcases k.2 with ⟨rfl, hn⟩ | ⟨g', cap, cur, rfl, hlo, hgc, rest⟩
  · simp [Value.ownBlock] at e
  · simp [Value.ownBlock] at e
    subst e
    unfold Sk at h
    rw [h] at hgc
    cases hgc
/-- Only blocks of F were written. -/
structure Tch (F : Nat → Prop) (w w' : World) : Prop where
  os : w'.os = w.os
  tape : w'.tape = w.tape
  output : w'.output = w.output
  size : w.heap.size ≤ w'.heap.size
  block : ∀ k, k < w.heap.size → ¬ F k → w'.heap[k]? = w.heap[k]?
theorem Tch.refl (F : Nat → Prop) (w : World) : Tch F w w := ⟨rfl, rfl, rfl, Nat.le_refl _, fun _ _ _ => rfl⟩
/-- F, and what is new. -/
def Gr (F : Nat → Prop) (w w' : World) : Nat → Prop := fun k => F k ∨ (w.heap.size ≤ k ∧ k < w'.heap.size)
theorem Tch.trans {F : Nat → Prop} {a b c : World} (h : Tch F a b) (k : Tch (Gr F a b) b c) : Tch F a c :=
  ⟨k.os.trans h.os, k.tape.trans h.tape, k.output.trans h.output, Nat.le_trans h.size k.size, fun j hj hn =>
    (k.block j (Nat.lt_of_lt_of_le hj h.size) (fun q => by rcases q with q | q; exact hn q; omega)).trans (h.block j hj hn)⟩
theorem Tch.trans' {F : Nat → Prop} {a b c : World} (h : Tch F a b) (k : Tch F b c) : Tch F a c :=
  ⟨k.os.trans h.os, k.tape.trans h.tape, k.output.trans h.output, Nat.le_trans h.size k.size, fun j hj hn =>
    (k.block j (Nat.lt_of_lt_of_le hj h.size) hn).trans (h.block j hj hn)⟩
theorem Tch.below {F : Nat → Prop} {B : Nat} {a w w' : World} (h : Below B a w) (k : Tch F w w') (hF : ∀ j, F j → B ≤ j) (hB : B ≤ w.heap.size) : Below B a w' :=
  ⟨k.os.trans h.os, k.tape.trans h.tape, k.output.trans h.output, Nat.le_trans h.size k.size, fun j hj =>
    (k.block j (Nat.lt_of_lt_of_le hj hB) (fun q => by have := hF j q; omega)).trans (h.block j hj)⟩
theorem Tch.of_below {F : Nat → Prop} {w w' : World} (h : Below w.heap.size w w') : Tch F w w' := ⟨h.os, h.tape, h.output, h.size, fun j hj _ => h.block j hj⟩
theorem Tch.grown {F : Nat → Prop} {w w' : World} {row : Option Nat} (h : w.grownBy w' row) (hF : ∀ k, row = some k → F k) : Tch F w w' :=
  ⟨h.os, h.tape, h.output, h.size, fun j hj hn => h.block j hj (fun e => hn (hF j e.symm))⟩
theorem Tch.set {F : Nat → Prop} {w w' : World} (h : Tch F w w') (g i : Nat) (u : Value) (hF : F g) : Tch F w (w'.setCell ⟨g, i, none⟩ u) :=
  ⟨h.os, h.tape, h.output, by simpa [World.setCell] using h.size, fun j hj hn => by
    rw [← h.block j hj hn]
    exact Below.heap_setCell _ _ _ _ (fun e => hn (by rw [e]; exact hF))⟩

/-- A Spread: n numbers, whose sum is V (in units of 2^-1074); all its memory is F's; c bounds how its rows grew. -/
def Sx (F : Nat → Prop) (w : World) (g n : Nat) (V : Int) (c : Nat) : Prop :=
  ∃ (va vb : Value) (A B : List Nat) (V1 V2 : Int), Sk w g n va vb ∧ Fr 0 w va A ∧ Fr 0 w vb B ∧ (∀ k, va.ownBlock = some k → vb.ownBlock ≠ some k) ∧ F g ∧ (∀ k, va.ownBlock = some k → F k) ∧ (∀ k, vb.ownBlock = some k → F k) ∧
    (∀ k, F k → k < w.heap.size) ∧ Rk A V1 n c ∧ Rk B V2 n c ∧ V = V1 + V2 * 18446744073709551616 ∧ n ≤ 65536 ∧ n * 17179869184 + c ≤ 4503599627370496
theorem Rk.mono {L : List Nat} {V : Int} {n c n' c' : Nat} (h : Rk L V n c) (hn : n ≤ n') (hc : c ≤ c') : Rk L V n' c' :=
  ⟨h.fin, h.val, Nat.le_trans h.len hn, Nat.le_trans h.size (Nat.mul_le_mul_right _ (by omega))⟩
theorem Sx.keep {F G : Nat → Prop} {w w' : World} {g n : Nat} {V : Int} {c : Nat} (h : Sx F w g n V c) (t : Tch G w w') (hd : ∀ k, F k → ¬ G k) : Sx F w' g n V c := by
  obtain ⟨va, vb, A, B, V1, V2, h1, h2, h3, h4, h5, h6, h7, h8, rest⟩ := h
  have fr : ∀ (v : Value) (L : List Nat), Fr 0 w v L → (∀ k, v.ownBlock = some k → F k) → Fr 0 w' v L := by
    intro v L hv hk
    refine ⟨hv.1, ?_⟩
    rcases hv.2 with hn | ⟨g', cap, cur, rfl, hlo, hgc, rest⟩
    · exact .inl hn
    · refine .inr ⟨g', cap, cur, rfl, hlo, ?_, rest⟩
      rw [t.block g' (Array.getElem?_eq_some_iff.1 hgc).1 (hd _ (hk g' rfl))]; exact hgc
  exact ⟨va, vb, A, B, V1, V2, h1.of_block (t.block g h1.lt (hd _ h5)), fr va A h2 h6, fr vb B h3 h7, h4, h5, h6, h7, fun k hk => Nat.lt_of_lt_of_le (h8 k hk) t.size, rest⟩
theorem Sx.below {F : Nat → Prop} {w w' : World} {g n : Nat} {V : Int} {c : Nat} (h : Sx F w g n V c) (hb : Below w.heap.size w w') : Sx F w' g n V c :=
  h.keep (G := fun _ => False) (Tch.of_below hb) (fun _ _ q => q)
theorem Sx.wide {F G : Nat → Prop} {w : World} {g n : Nat} {V : Int} {c : Nat} (h : Sx F w g n V c) (hs : ∀ k, F k → G k) (hG : ∀ k, G k → k < w.heap.size) : Sx G w g n V c := by
  obtain ⟨va, vb, A, B, V1, V2, h1, h2, h3, h4, h5, h6, h7, h8, rest⟩ := h
  exact ⟨va, vb, A, B, V1, V2, h1, h2, h3, h4, hs _ h5, fun k hk => hs _ (h6 k hk), fun k hk => hs _ (h7 k hk), hG, rest⟩
theorem Sx.more {F : Nat → Prop} {w : World} {g n : Nat} {V : Int} {c c' : Nat} (h : Sx F w g n V c) (hc : c ≤ c') (hb : n * 17179869184 + c' ≤ 4503599627370496) : Sx F w g n V c' := by
  obtain ⟨va, vb, A, B, V1, V2, h1, h2, h3, h4, h5, h6, h7, h8, r1, r2, r3, r4, r5⟩ := h
  exact ⟨va, vb, A, B, V1, V2, h1, h2, h3, h4, h5, h6, h7, h8, r1.mono (Nat.le_refl _) hc, r2.mono (Nat.le_refl _) hc, r3, r4, hb⟩

set_option maxHeartbeats 1000000 in
theorem new8 (w : World) : Calls Tryz.prog 15 #[] w fun r w' => r = .returned (.pointer (some ⟨w.heap.size, 0, none⟩)) ∧ Sx (fun k => w.heap.size ≤ k ∧ k < w'.heap.size) w' w.heap.size 0 0 0 ∧ Below w.heap.size w w' ∧ w'.heap.size = w.heap.size + 1 := by
  go_enter Tryz.func15, Tryz.ntmps15
  go_wp2
  go_ret
  refine ⟨rfl, ⟨.slice none 0 0, .slice none 0 0, [], [], 0, 0, heap_alloc_new _ _, Fr.nil _ _, Fr.nil _ _, fun k hk => by simp [Value.ownBlock] at hk, ⟨Nat.le_refl _, by simp⟩, fun k hk => by simp [Value.ownBlock] at hk, fun k hk => by simp [Value.ownBlock] at hk, fun k hk => hk.2, Rk.nil, Rk.nil, by simp, by omega, by omega⟩, below_alloc _ _, by simp⟩

/-- Numbers far from nought, made smaller. -/
theorem abs_w8 (x : Nat) (hx : Wd x) (w : World) : Calls Tryz.prog 136 #[.float .f64 x] w fun r w' => r = .returned (.float .f64 (magW x)) ∧ w' = w := by
  obtain ⟨s, e, f, he, hf, h1, h2⟩ := bwz x hx
  have := B.abs_any s e f he hf w
  rw [← h1] at this
  have e2 : B.bw false e f = magW x := by
    rw [h1]
    unfold B.bw magW
    cases s <;> simp <;> omega
  rw [e2] at this
  exact this
set_option maxHeartbeats 1000000 in
theorem isInf_w8 (x : Nat) (hx : Wd x) (w : World) : Calls Tryz.prog 131 #[.float .f64 x, .int .i64 0] w fun r w' => r = .returned (.bool (magW x == 9218868437227405312)) ∧ w' = w := by
  have H := hid (abs_w8 x hx w)
  obtain ⟨s, e, f, he, hf, h1, h2⟩ := bwz x hx
  have e2 : B.bw false e f = magW x := by
    rw [h1]
    unfold B.bw magW
    cases s <;> simp <;> omega
  have h3 := B.gt_max false e f he hf
  rw [e2] at h3
  have h4 : (!false && (e == 2047 && f == 0)) = (magW x == 9218868437227405312) := by
    rw [← e2]
    unfold B.bw
    rw [Bool.eq_iff_iff]
    simp
    omega
  rw [h4] at h3
  clear h1 h2 e2 h4
  generalize (magW x == 9218868437227405312) = b at *
  generalize magW x = y at *
  go_enter Tryz.func131, Tryz.ntmps131
  go_wp2_with fail
  refine (Calls.mono H.out) ?_
  rintro r w1 ⟨rfl, rfl⟩
  go_wp2
  go_ret
  exact ⟨rfl, rfl⟩
end Go.Proofs.YtjpaocgimdinmaaGreatDoor

/- Add. -/
namespace Go.Proofs.YtjpaocgimdinmaaGreatDoor
open Go.RowKit J
set_option linter.unusedVariables false
set_option maxRecDepth 20000
set_option linter.unusedSimpArgs false

theorem G34 (k : Nat) (hk : k = 2034) : 17179869184 * GG = 2 ^ k := by
  rw [G_eq, show (17179869184 : Nat) = 2 ^ 34 by decide, ← Nat.pow_add]
  congr 1
  rw [hk]; rfl
theorem far8 {x : Nat} (fx : finW x) (h : magW x < 8930638061075693568) : (fvW x).natAbs ≤ 17179869184 * GG := by
  unfold fvW
  rw [sg_abs, G34 2034 rfl]
  obtain ⟨j, hj⟩ : ∃ j, j = 1982 := ⟨_, rfl⟩
  have e := vK_word j 4503599627370496 (.inr (Nat.le_refl _)) (by decide)
  rw [show j * 4503599627370496 + 4503599627370496 = 8930638061075693568 by omega, show (4503599627370496 : Nat) = 2 ^ 52 by decide, ← Nat.pow_add] at e
  have h2 : vK (magW x) < vK 8930638061075693568 := vK_lt.2 h
  rw [e] at h2
  rw [show 2034 = 52 + j by omega]
  omega
theorem shr_fin : finW 4318952042648305664 ∧ Wd 4318952042648305664 := ⟨by unfold finW magW; decide, by unfold Wd; decide⟩
theorem shr_val (k : Nat) (hk : k = 1010) : fvW 4318952042648305664 = (2 : Int) ^ k := by
  unfold fvW
  rw [show negW 4318952042648305664 = false by decide, show magW 4318952042648305664 = 4318952042648305664 by decide]
  obtain ⟨j, hj⟩ : ∃ j, j = 958 := ⟨_, rfl⟩
  have e := vK_word j 4503599627370496 (.inr (Nat.le_refl _)) (by decide)
  rw [show j * 4503599627370496 + 4503599627370496 = 4318952042648305664 by omega, show (4503599627370496 : Nat) = 2 ^ 52 by decide, ← Nat.pow_add] at e
  rw [e, show 52 + j = k by omega]
  show ((2 ^ k : Nat) : Int) = _
  exact p2c k
theorem shrink8 {x : Nat} (hx : Wd x) (fx : finW x) (h : ¬ magW x < 8930638061075693568) :
    finW (tiW x 4318952042648305664) ∧ fvW (tiW x 4318952042648305664) * 18446744073709551616 = fvW x ∧ (fvW (tiW x 4318952042648305664)).natAbs ≤ 17179869184 * GG := by
  obtain ⟨k, h1, _, h3⟩ := (fv_F x).placed
  obtain ⟨j, hj⟩ : ∃ j, j = 1982 := ⟨_, rfl⟩
  have hlow : 2 ^ (52 + j) ≤ (fvW x).natAbs := by
    unfold fvW
    rw [sg_abs]
    have e := vK_word j 4503599627370496 (.inr (Nat.le_refl _)) (by decide)
    rw [show j * 4503599627370496 + 4503599627370496 = 8930638061075693568 by omega, show (4503599627370496 : Nat) = 2 ^ 52 by decide, ← Nat.pow_add] at e
    rw [← e]
    exact Nat.le_of_not_lt (fun q => h (vK_lt.1 q))
  have hk : j ≤ k := by
    have : 52 + j < 53 + k := (Nat.pow_lt_pow_iff_right (by decide)).1 (Nat.lt_of_le_of_lt hlow h1)
    omega
  obtain ⟨q, hq⟩ := h3
  obtain ⟨i, rfl⟩ : ∃ i, k = i + 64 := ⟨k - 64, by omega⟩
  have e64 : (2 : Int) ^ 64 = 18446744073709551616 := by decide
  have hP : fvW x = (q * 2 ^ i) * 18446744073709551616 := by
    rw [hq, Int.pow_add, e64]
    generalize (2 : Int) ^ i = z
    grind
  obtain ⟨P, hPe⟩ : ∃ P, P = q * 2 ^ i := ⟨_, rfl⟩
  rw [← hPe] at hP
  have hPb : P.natAbs < 2 ^ (53 + i) := by
    rw [hP, Int.natAbs_mul, show 53 + (i + 64) = 53 + i + 64 by omega, Nat.pow_add] at h1
    have : (2 : Nat) ^ 64 = (18446744073709551616 : Int).natAbs := by decide
    rw [this] at h1
    exact Nat.lt_of_mul_lt_mul_right h1
  have hF : IsF P := grid (k := i) ⟨q, by rw [hPe, Int.mul_comm]⟩ (Nat.le_of_lt hPb)
  have htop : P.natAbs ≤ 17179869184 * GG := by
    obtain ⟨z, hz⟩ : ∃ z, z = 2034 := ⟨_, rfl⟩
    have := top_fv hx fx (z + 64) (by omega)
    rw [hP, Int.natAbs_mul, Nat.pow_add] at this
    have e : (2 : Nat) ^ 64 = (18446744073709551616 : Int).natAbs := by decide
    rw [e] at this
    rw [G34 z hz]
    exact Nat.le_of_lt (Nat.lt_of_mul_lt_mul_right this)
  have hQ : 17179869184 * GG ≤ 3 * QQ := by have := G_Q; omega
  have hU : fvW x * fvW 4318952042648305664 = P * (UU : Int) := by
    obtain ⟨k, hk⟩ : ∃ k, k = 1010 := ⟨_, rfl⟩
    rw [shr_val k hk, hP, U_eq, show EU = 64 + k by rw [hk]; rfl, ← p2c, Nat.pow_add, Int.natCast_mul, Int.mul_assoc]
    congr 2
  obtain ⟨t1, t2⟩ := ti_fin hx shr_fin.2 fx shr_fin.1 hU (by omega)
  have e := t2.own hF
  exact ⟨t1, by rw [e, hP], by rw [e]; exact htop⟩
theorem ti_bits {x y : Nat} (h : finW (tiW x y)) : floatBits .mul .f64 x y = some (tiW x y) := by
  unfold tiW arW at h ⊢
  cases hb : floatBits .mul .f64 x y with
  | some z => rfl
  | none =>
    rw [hb] at h
    exfalso
    revert h
    unfold finW magW
    decide

theorem Fr.set {lo : Nat} {w : World} {v : Value} {L : List Nat} (h : Fr lo w v L) {g : Nat} (hne : v.ownBlock ≠ some g) (i : Nat) (u : Value) : Fr lo (w.setCell ⟨g, i, none⟩ u) v L := by
  refine ⟨h.1, ?_⟩
  rcases h.2 with hn | ⟨g', cap, cur, rfl, hlo, hgc, rest⟩
  · exact .inl hn
  · refine .inr ⟨g', cap, cur, rfl, hlo, ?_, rest⟩
    rw [Below.heap_setCell _ _ _ _ (fun e => hne (by rw [e]; rfl))]; exact hgc

theorem Fr.slice {lo : Nat} {w : World} {v : Value} {L : List Nat} (h : Fr lo w v L) : ∃ ao m cp, v = .slice ao m cp := by
  rcases h.shape with ⟨rfl, _⟩ | ⟨g, cap, rfl, _⟩
  · exact ⟨_, _, _, rfl⟩
  · exact ⟨_, _, _, rfl⟩
/-- What Add and Merge leave: a row is another one. -/
theorem Sx.next {F : Nat → Prop} {w w1 : World} {g n : Nat} {va vb v' : Value} {A' : List Nat} (first : Bool) {X Y : List Nat}
    (h1 : Sk w g n va vb) (h2 : Fr 0 w va X) (h3 : Fr 0 w vb Y) (h4 : ∀ k, va.ownBlock = some k → vb.ownBlock ≠ some k) (h5 : F g) (h6 : ∀ k, va.ownBlock = some k → F k) (h7 : ∀ k, vb.ownBlock = some k → F k)
    (k1 : Fr 0 w1 v' A') (k2 : w.grownBy w1 (if first then va else vb).ownBlock) (k3 : v'.ownBlock = (if first then va else vb).ownBlock ∨ ∃ g, v'.ownBlock = some g ∧ w.heap.size ≤ g) :
    Sk w1 g n va vb ∧ Fr 0 w1 (if first then vb else va) (if first then Y else X) ∧ (∀ k, v'.ownBlock = some k → (if first then vb else va).ownBlock ≠ some k) ∧ (∀ k, v'.ownBlock = some k → Gr F w w1 k) ∧ v'.ownBlock ≠ some g ∧ Tch F w w1 := by
  have hg1 : Sk w1 g n va vb := h1.of_block (k2.block g h1.lt (fun e => by
    cases first
    · exact h1.not_row h3 e.symm
    · exact h1.not_row h2 e.symm))
  refine ⟨hg1, ?_, ?_, ?_, hg1.not_row k1, ?_⟩
  · cases first
    · exact h2.keep k2 (fun k hk => fun e => h4 k hk e)
    · exact h3.keep k2 (fun k hk => fun e => h4 k e hk)
  · intro k hk e
    rcases k3 with q | ⟨g', q, q2⟩
    · rw [q] at hk
      cases first
      · exact h4 k e hk
      · exact h4 k hk e
    · rw [q] at hk
      injection hk with hk
      subst hk
      cases first
      · have := (h2.lt e).2; omega
      · have := (h3.lt e).2; omega
  · intro k hk
    rcases k3 with q | ⟨g', q, q2⟩
    · rw [q] at hk
      left
      cases first
      · exact h7 k hk
      · exact h6 k hk
    · exact .inr ⟨by rw [q] at hk; injection hk with hk; omega, (k1.lt hk).2⟩
  · exact Tch.grown k2 (fun k hk => by
      cases first
      · exact h7 k hk
      · exact h6 k hk)

/-- The end of Add: a row is another one, the count one more. -/
theorem Sx.done {F : Nat → Prop} {w u : World} {g n : Nat} {va vb v' : Value} {A B : List Nat} {V1 V2 V : Int} {c : Nat} (h5 : F g) (h6 : ∀ k, va.ownBlock = some k → F k) (h7 : ∀ k, vb.ownBlock = some k → F k) (h8 : ∀ k, F k → k < w.heap.size)
    (s1 : Sk u g n va vb) (k1 : Fr 0 u v' A) (s2 : Fr 0 u vb B) (s3 : ∀ k, v'.ownBlock = some k → vb.ownBlock ≠ some k) (s4 : ∀ k, v'.ownBlock = some k → Gr F w u k) (s5 : v'.ownBlock ≠ some g) (s6 : Tch F w u)
    (r1 : Rk A V1 (n + 1) c) (r2 : Rk B V2 (n + 1) c) (hV : V = V1 + V2 * 18446744073709551616) (hn : n < 65536) (hb : (n + 1) * 17179869184 + c ≤ 4503599627370496) :
    Sx (Gr F w ((u.setCell ⟨g, 1, none⟩ v').setCell ⟨g, 0, none⟩ (.int .i64 ((n : Int) + 1)))) ((u.setCell ⟨g, 1, none⟩ v').setCell ⟨g, 0, none⟩ (.int .i64 ((n : Int) + 1))) g (n + 1) V c ∧ Tch F w ((u.setCell ⟨g, 1, none⟩ v').setCell ⟨g, 0, none⟩ (.int .i64 ((n : Int) + 1))) := by
  have e : ((n : Int) + 1) = ((n + 1 : Nat) : Int) := by omega
  have hsz : ((u.setCell ⟨g, 1, none⟩ v').setCell ⟨g, 0, none⟩ (.int .i64 ((n : Int) + 1))).heap.size = u.heap.size := by simp [World.setCell]
  have hgr : ∀ k, Gr F w u k → Gr F w ((u.setCell ⟨g, 1, none⟩ v').setCell ⟨g, 0, none⟩ (.int .i64 ((n : Int) + 1))) k := fun k q => by unfold Gr at q ⊢; rw [hsz]; exact q
  have hne : vb.ownBlock ≠ some g := s1.not_row s2
  refine ⟨⟨v', vb, A, B, V1, V2, ?_, (k1.set s5 _ _).set s5 _ _, (s2.set hne _ _).set hne _ _, s3, .inl h5, fun k hk => hgr k (s4 k hk), fun k hk => .inl (h7 k hk), fun k q => ?_, r1, r2, hV, by omega, hb⟩, (s6.set g 1 v' h5).set g 0 _ h5⟩
  · rw [e]; exact (s1.set1 v').set0 (n + 1)
  · unfold Gr at q
    rcases q with q | q
    · rw [hsz]; exact Nat.lt_of_lt_of_le (h8 k q) s6.size
    · exact q.2
theorem Sx.done2 {F : Nat → Prop} {w u : World} {g n : Nat} {va vb v' : Value} {A B : List Nat} {V1 V2 V : Int} {c : Nat} (h5 : F g) (h6 : ∀ k, va.ownBlock = some k → F k) (h7 : ∀ k, vb.ownBlock = some k → F k) (h8 : ∀ k, F k → k < w.heap.size)
    (s1 : Sk u g n va vb) (k1 : Fr 0 u v' B) (s2 : Fr 0 u va A) (s3 : ∀ k, v'.ownBlock = some k → va.ownBlock ≠ some k) (s4 : ∀ k, v'.ownBlock = some k → Gr F w u k) (s5 : v'.ownBlock ≠ some g) (s6 : Tch F w u)
    (r1 : Rk A V1 (n + 1) c) (r2 : Rk B V2 (n + 1) c) (hV : V = V1 + V2 * 18446744073709551616) (hn : n < 65536) (hb : (n + 1) * 17179869184 + c ≤ 4503599627370496) :
    Sx (Gr F w ((u.setCell ⟨g, 2, none⟩ v').setCell ⟨g, 0, none⟩ (.int .i64 ((n : Int) + 1)))) ((u.setCell ⟨g, 2, none⟩ v').setCell ⟨g, 0, none⟩ (.int .i64 ((n : Int) + 1))) g (n + 1) V c ∧ Tch F w ((u.setCell ⟨g, 2, none⟩ v').setCell ⟨g, 0, none⟩ (.int .i64 ((n : Int) + 1))) := by
  have e : ((n : Int) + 1) = ((n + 1 : Nat) : Int) := by omega
  have hsz : ((u.setCell ⟨g, 2, none⟩ v').setCell ⟨g, 0, none⟩ (.int .i64 ((n : Int) + 1))).heap.size = u.heap.size := by simp [World.setCell]
  have hgr : ∀ k, Gr F w u k → Gr F w ((u.setCell ⟨g, 2, none⟩ v').setCell ⟨g, 0, none⟩ (.int .i64 ((n : Int) + 1))) k := fun k q => by unfold Gr at q ⊢; rw [hsz]; exact q
  have hne : va.ownBlock ≠ some g := s1.not_row s2
  refine ⟨⟨va, v', A, B, V1, V2, ?_, (s2.set hne _ _).set hne _ _, (k1.set s5 _ _).set s5 _ _, fun k hk q => s3 k q hk, .inl h5, fun k hk => .inl (h6 k hk), fun k hk => hgr k (s4 k hk), fun k q => ?_, r1, r2, hV, by omega, hb⟩, (s6.set g 2 v' h5).set g 0 _ h5⟩
  · rw [e]; exact (s1.set2 v').set0 (n + 1)
  · unfold Gr at q
    rcases q with q | q
    · rw [hsz]; exact Nat.lt_of_lt_of_le (h8 k q) s6.size
    · exact q.2

set_option maxHeartbeats 2000000 in
theorem add_long8 (F : Nat → Prop) (w : World) (g n : Nat) (V : Int) (c x : Nat) (h : Sx F w g n V c) (hn : 65536 ≤ n) :
    Calls Tryz.prog 56 #[.pointer (some ⟨g, 0, none⟩), .float .f64 x] w fun r w' => r = .returned (.int .i64 2) ∧ w' = w := by
  obtain ⟨va, vb, A, B, V1, V2, h1, _⟩ := h
  obtain ⟨x0, _⟩ := h1.facts
  have hd : decide (65536 ≤ n) = true := by simpa using hn
  have hd2 : decide ((65536 : Int) ≤ (n : Int)) = true := by simp; omega
  clear h1 hn
  go_enter Tryz.func56, Tryz.ntmps56
  go_wp2
  go_ret
  exact ⟨rfl, rfl⟩
set_option maxHeartbeats 2000000 in
theorem add_odd8 (F : Nat → Prop) (w : World) (g n : Nat) (V : Int) (c x : Nat) (h : Sx F w g n V c) (hn : n < 65536) (hx : Wd x) (fx : ¬ finW x) :
    Calls Tryz.prog 56 #[.pointer (some ⟨g, 0, none⟩), .float .f64 x] w fun r w' => r = .returned (.int .i64 30) ∧ w' = w := by
  obtain ⟨va, vb, A, B, V1, V2, h1, _⟩ := h
  obtain ⟨x0, _⟩ := h1.facts
  have HN := hid (isNaN_w x hx w)
  have HI := hid (isInf_w8 x hx w)
  have hor : nanW x = true ∨ (nanW x = false ∧ (magW x == 9218868437227405312) = true) := by
    unfold nanW finW magW at *
    by_cases q : 9218868437227405312 < x % 9223372036854775808
    · left; simpa using q
    · right
      refine ⟨by simpa using q, ?_⟩
      simp only [beq_iff_eq]
      omega
  have hd : decide (65536 ≤ n) = false := by simpa using hn
  have hd2 : decide ((65536 : Int) ≤ (n : Int)) = false := by simp; omega
  clear h1 hx fx hn
  rcases hor with q | ⟨q1, q2⟩
  · rw [q] at HN
    clear HI
    go_enter Tryz.func56, Tryz.ntmps56
    go_wp2_with fail
    with_reducible refine HN.out.mono ?_
    rintro r w1 ⟨rfl, rfl⟩
    go_wp2
    go_ret
    exact ⟨rfl, rfl⟩
  · rw [q1] at HN
    rw [q2] at HI
    go_enter Tryz.func56, Tryz.ntmps56
    go_wp2_with fail
    with_reducible refine HN.out.mono ?_
    rintro r w1 ⟨rfl, rfl⟩
    go_wp2_with fail
    with_reducible refine HI.out.mono ?_
    rintro r w1 ⟨rfl, rfl⟩
    go_wp2
    go_ret
    exact ⟨rfl, rfl⟩
set_option maxHeartbeats 4000000 in
theorem add_ok8 (F : Nat → Prop) (w : World) (g n : Nat) (V : Int) (c x : Nat) (h : Sx F w g n V c) (hn : n < 65536) (hx : Wd x) (fx : finW x) (hb : n * 17179869184 + 17179869184 + c + n ≤ 4503599627370496) :
    Calls Tryz.prog 56 #[.pointer (some ⟨g, 0, none⟩), .float .f64 x] w fun r w' => r = .returned (.int .i64 0) ∧ Sx (Gr F w w') w' g (n + 1) (V + fvW x) (c + n) ∧ Tch F w w' := by
  obtain ⟨va, vb, A, B, V1, V2, h1, h2, h3, h4, h5, h6, h7, h8, r1, r2, r3, r4, r5⟩ := h
  obtain ⟨x0, x1, x2, f0, f1, f2⟩ := h1.facts
  have HN := hid (isNaN_w x hx w)
  have HI := hid (isInf_w8 x hx w)
  have HB := hid (abs_w8 x hx w)
  have q1 : nanW x = false := by unfold nanW; unfold finW magW at fx; simp; omega
  have q2 : (magW x == 9218868437227405312) = false := by simp; unfold finW at fx; omega
  rw [q1] at HN
  rw [q2] at HI
  have hA1 : avL A + A.length * GG + 17179869184 * GG ≤ 4503599627370496 * GG ∧ avL B + B.length * GG + 17179869184 * GG ≤ 4503599627370496 * GG := by
    have e2 : (n * 17179869184 + 17179869184 + c + n) * GG ≤ 4503599627370496 * GG := Nat.mul_le_mul_right _ hb
    rw [dist4] at e2
    have s1 := r1.size
    have s2 := r2.size
    have l1 : A.length * GG ≤ n * GG := Nat.mul_le_mul_right _ r1.len
    have l2 : B.length * GG ≤ n * GG := Nat.mul_le_mul_right _ r2.len
    omega
  have hcmp : ∀ b : Bool, decide (8930638061075693568 ≤ magW x) = b → ((FloatKind.f64.format.order (magW x) 8930638061075693568 == some .gt) || (FloatKind.f64.format.order (magW x) 8930638061075693568 == some .eq)) = b := by
    intro b hb
    have e1 := gt64 false false (magW x) 8930638061075693568 (Nat.le_of_lt fx) (by decide)
    have e2 := eq64 false false (magW x) 8930638061075693568 (Nat.le_of_lt fx) (by decide)
    rw [show wd64 false (magW x) = magW x from rfl, show wd64 false 8930638061075693568 = 8930638061075693568 from rfl] at e1 e2
    rw [e1, e2, ← hb, Bool.eq_iff_iff]
    simp [sK]
    omega
  by_cases hf : magW x < 8930638061075693568
  · have hc := hcmp false (by simpa using hf)
    have HW := hid (with_any 0 va A x w h2 (Nat.zero_le _) r1.fin ⟨hx, fx⟩ (by have := r1.len; omega) (by have := far8 fx hf; omega))
    have HR := Aside.intro (And.intro (r1.with ⟨hx, fx⟩ (far8 fx hf) hb) (r2.mono (Nat.le_add_right n 1) (Nat.le_add_right c n)))
    have HH := Aside.intro (And.intro h1 (And.intro h2 (And.intro h3 (And.intro h4 (And.intro h5 (And.intro h6 (And.intro h7 (And.intro h8 (And.intro r3 (And.intro hn hb))))))))))
    have hd : decide (65536 ≤ n) = false := by simpa using hn
    have hd2 : decide ((65536 : Int) ≤ (n : Int)) = false := by simp; omega
    clear hcmp h1 h2 h3 h4 h5 h6 h7 h8 r1 r2 r3 r4 r5 hA1 q1 q2 hx fx hf hb hn
    go_enter Tryz.func56, Tryz.ntmps56
    go_wp2_with fail
    with_reducible refine HN.out.mono ?_
    rintro r w1 ⟨rfl, rfl⟩
    go_wp2_with fail
    with_reducible refine HI.out.mono ?_
    rintro r w1 ⟨rfl, rfl⟩
    go_wp2_with fail
    with_reducible refine HB.out.mono ?_
    rintro r w1 ⟨rfl, rfl⟩
    go_wp2_with fail
    with_reducible refine HW.out.mono ?_
    rintro r u ⟨v', rfl, k1, k2, k3⟩
    obtain ⟨ao, ml, cp, rfl⟩ := k1.slice
    obtain ⟨h1, h2, h3, h4, h5, h6, h7, h8, r3, hn, hb⟩ := HH.out
    obtain ⟨s1, s2, s3, s4, s5, s6⟩ := Sx.next true h1 h2 h3 h4 h5 h6 h7 k1 k2 k3
    obtain ⟨y0, y1, y2, e0, e1, e2⟩ := s1.facts
    have HZ := Aside.intro (Sx.done h5 h6 h7 h8 s1 k1 s2 s3 s4 s5 s6 HR.out.1 HR.out.2 (show V + fvW x = (V1 + fvW x) + V2 * 18446744073709551616 by omega) hn (by omega))
    clear h1 h2 h3 h4 h5 h6 h7 h8 r3 hn hb s1 s2 s3 s4 s5 s6 k1 k2 k3 x0 x1 x2 f0 f1 f2
    have hn6 : n < 100000 := by have := HH.out.2.2.2.2.2.2.2.2.2.1; omega
    clear HH HR
    go_wp2
    go_ret
    exact ⟨rfl, HZ.out⟩
  · have hc := hcmp true (by simpa using hf)
    obtain ⟨y1, y2, y3⟩ := shrink8 hx fx hf
    have hy0 : Wd (tiW x 4318952042648305664) := (bits_fin (op := .mul) (.inr (.inr rfl)) (ti_bits y1)).2
    have d := run_float_arith (P := Tryz.prog) w .mul 38 .f64 x 4318952042648305664 (tiW x 4318952042648305664) (ti_bits y1)
    obtain ⟨y, hy⟩ : ∃ y, y = tiW x 4318952042648305664 := ⟨_, rfl⟩
    rw [← hy] at y1 y2 y3 hy0 d
    have HY := Aside.intro y2
    have HW := hid (with_any 0 vb B y w h3 (Nat.zero_le _) r2.fin ⟨hy0, y1⟩ (by have := r2.len; omega) (by omega))
    have HR := Aside.intro (And.intro (r1.mono (Nat.le_add_right n 1) (Nat.le_add_right c n)) (r2.with ⟨hy0, y1⟩ y3 hb))
    have HH := Aside.intro (And.intro h1 (And.intro h2 (And.intro h3 (And.intro h4 (And.intro h5 (And.intro h6 (And.intro h7 (And.intro h8 (And.intro r3 (And.intro hn hb))))))))))
    have hd : decide (65536 ≤ n) = false := by simpa using hn
    have hd2 : decide ((65536 : Int) ≤ (n : Int)) = false := by simp; omega
    clear hcmp h1 h2 h3 h4 h5 h6 h7 h8 r1 r2 r3 r4 r5 hA1 q1 q2 hx fx hf hb hn hy y1 y2 y3 hy0
    go_enter Tryz.func56, Tryz.ntmps56
    go_wp2_with fail
    with_reducible refine HN.out.mono ?_
    rintro r w1 ⟨rfl, rfl⟩
    go_wp2_with fail
    with_reducible refine HI.out.mono ?_
    rintro r w1 ⟨rfl, rfl⟩
    go_wp2_with fail
    with_reducible refine HB.out.mono ?_
    rintro r w1 ⟨rfl, rfl⟩
    go_wp2_with (simp only [d])
    with_reducible refine HW.out.mono ?_
    rintro r u ⟨v', rfl, k1, k2, k3⟩
    obtain ⟨ao, ml, cp, rfl⟩ := k1.slice
    obtain ⟨h1, h2, h3, h4, h5, h6, h7, h8, r3, hn, hb⟩ := HH.out
    obtain ⟨s1, s2, s3, s4, s5, s6⟩ := Sx.next false h1 h2 h3 h4 h5 h6 h7 k1 k2 k3
    obtain ⟨y0, y1, y2, e0, e1, e2⟩ := s1.facts
    have HZ := Aside.intro (Sx.done2 h5 h6 h7 h8 s1 k1 s2 s3 s4 s5 s6 HR.out.1 HR.out.2 (show V + fvW x = V1 + (V2 + fvW y) * 18446744073709551616 by have := HY.out; omega) hn (by omega))
    clear h1 h2 h3 h4 h5 h6 h7 h8 r3 hn hb s1 s2 s3 s4 s5 s6 k1 k2 k3 x0 x1 x2 f0 f1 f2
    have hn6 : n < 100000 := by have := HH.out.2.2.2.2.2.2.2.2.2.1; omega
    clear HH HR
    go_wp2
    go_ret
    exact ⟨rfl, HZ.out⟩
end Go.Proofs.YtjpaocgimdinmaaGreatDoor

/- Exact, Round. -/
namespace Go.Proofs.YtjpaocgimdinmaaGreatDoor
open Go.RowKit
set_option linter.unusedVariables false
set_option maxRecDepth 20000
set_option linter.unusedSimpArgs false

theorem Dk.but8 {w w' : World} {g k : Nat} {n : Bool} {v : Value} {e : Int} (h : Dk w k n v e) (hb : But g w w') (hk : k ≠ g) : Dk w' k n v e := by unfold Dk at h ⊢; rw [hb.block k (Array.getElem?_eq_some_iff.1 h).1 hk]; exact h

/-- Words are no Dyads: a row of words stays where a Dyad's block is written. -/
theorem Nt.dk8 {lo : Nat} {w w' : World} {v : Value} {X : Nat} (h : Nt lo w v X) {g : Nat} {n : Bool} {u : Value} {e : Int} (hD : Dk w g n u e) (hb : But g w w') : Nt lo w' v X := by
  refine ⟨h.1, ?_⟩
  rcases h.2 with hn | ⟨g', cap, cur, rfl, hlo, hgc, rest⟩
  · exact .inl hn
  · refine .inr ⟨g', cap, cur, rfl, hlo, (hb.block g' (Array.getElem?_eq_some_iff.1 hgc).1 ?_).trans hgc, rest⟩
    rintro rfl
    unfold Dk at hD
    rw [hD] at hgc
    cases hgc
theorem name_world8 {K : Act → World → Prop} {Q : Exit → Act → World → Prop} {e : Exit} {a : Act} {W : World} (P : World → Prop) (hP : P W) (h : ∀ U, P U → Exit.then K Q e a U) : Exit.then K Q e a W := h W hP
def Ex9 (w W1 : World) (n3 : Bool) (v3 : Value) (e3 : Int) (X3 k : Nat) (U : World) : Prop := Dk U k n3 v3 e3 ∧ Dk U w.heap.size false (.slice none 0 0) 0 ∧ Nt W1.heap.size U v3 X3 ∧ Below w.heap.size w U ∧ w.heap.size ≠ k
theorem Ex9.a {w W1 u : World} {n3 : Bool} {v3 : Value} {e3 : Int} {X3 : Nat} (Z : Dk u w.heap.size false (.slice none 0 0) 0) (NC : Nt W1.heap.size u v3 X3) (hB : Below w.heap.size w u) (hk : w.heap.size ≠ u.heap.size) :
    Ex9 w W1 n3 v3 e3 X3 u.heap.size (u.alloc (.cells #[.bool n3, v3, .int .i64 e3] 33)) :=
  ⟨Dk.new u _ _ _, Z.below (below_alloc _ _), NC.below (below_alloc _ _), hB.trans ((below_alloc _ _).mono hB.size), hk⟩
theorem Ex9.b {w W1 u : World} {n3 : Bool} {v3 : Value} {e3 : Int} {X3 k : Nat} (D : Dk u k false (.slice none 0 0) 0) (Z : Dk u w.heap.size false (.slice none 0 0) 0) (NC : Nt W1.heap.size u v3 X3) (hB : Below w.heap.size w u) (hk : w.heap.size < k) :
    Ex9 w W1 n3 v3 e3 X3 k (((u.setCell ⟨k, 0, none⟩ (.bool n3)).setCell ⟨k, 1, none⟩ v3).setCell ⟨k, 2, none⟩ (.int .i64 e3)) :=
  ⟨D.set _ _ _, Z.but8 (st3_but8 k u (.bool n3) v3 (.int .i64 e3)) (by omega), NC.dk8 D (st3_but8 k u (.bool n3) v3 (.int .i64 e3)), But.below hB (st3_but8 k u (.bool n3) v3 (.int .i64 e3)) hB.size (by omega), by omega⟩
theorem alloc2 {u : World} {a b : Addr} {va vb : Value} {o : Obj} (h : u.cell? a = some va ∧ u.cell? b = some vb) : (u.alloc o).cell? a = some va ∧ (u.alloc o).cell? b = some vb := ⟨Lib.cell?_alloc_some _ h.1, Lib.cell?_alloc_some _ h.2⟩
theorem alloc2d {u : World} {a b : Addr} {va vb : Value} {o : Obj} (h : u.cell? a = some va ∧ u.cell? b = some vb) : (u.alloc o).drew.cell? a = some va ∧ (u.alloc o).drew.cell? b = some vb := alloc2 h
theorem set2 {u : World} {g i j : Nat} {va vb : Value} {k l : Nat} {x : Value} (hk : g ≠ k) (h : u.cell? ⟨g, i, none⟩ = some va ∧ u.cell? ⟨g, j, none⟩ = some vb) : (u.setCell ⟨k, l, none⟩ x).cell? ⟨g, i, none⟩ = some va ∧ (u.setCell ⟨k, l, none⟩ x).cell? ⟨g, j, none⟩ = some vb := by
  have e : (u.setCell ⟨k, l, none⟩ x).heap[g]? = u.heap[g]? := Below.heap_setCell _ _ _ _ hk
  exact ⟨(World.cell?_of_block (a := ⟨g, i, none⟩) e).trans h.1, (World.cell?_of_block (a := ⟨g, j, none⟩) e).trans h.2⟩
set_option maxHeartbeats 4000000 in
theorem exact_core8 {w : World} {g n : Nat} {va vb : Value} (n1 n2 n3 : Bool) (X1 X2 X3 : Nat) (e1 e2 e3 : Int) (l1 : (ws X1).length ≤ 8192) (l2 : (ws X2).length ≤ 8192) (l3 : (ws X3).length ≤ 8192)
    (hk : Sk w g n va vb)
    (EA : Hid (∀ u, Below w.heap.size w u → Calls Tryz.prog 139 #[va, .int .i64 0] u fun r w' => (∃ v, r = .returned (.agg #[.bool n1, v, .int .i64 e1]) ∧ Nt u.heap.size w' v X1) ∧ Below u.heap.size u w'))
    (EB : Hid (∀ u, Below w.heap.size w u → Calls Tryz.prog 139 #[vb, .int .i64 64] u fun r w' => (∃ v, r = .returned (.agg #[.bool n2, v, .int .i64 e2]) ∧ Nt u.heap.size w' v X2) ∧ Below u.heap.size u w'))
    (HA : Hid (∀ u a c b d, Below w.heap.size w u → Nt w.heap.size u (.slice a (ws X1).length c) X1 → Nt w.heap.size u (.slice b (ws X2).length d) X2 → Calls Tryz.prog 138 #[.agg #[.bool n1, .slice a (ws X1).length c, .int .i64 e1], .agg #[.bool n2, .slice b (ws X2).length d, .int .i64 e2]] u fun r w' => (∃ v, r = .returned (.tuple #[.agg #[.bool n3, v, .int .i64 e3], .int .i64 0]) ∧ Nt u.heap.size w' v X3) ∧ Below u.heap.size u w')) :
    Calls Tryz.prog 59 #[.pointer (some ⟨g, 0, none⟩)] w fun r w' => (∃ v, r = .returned (.agg #[.bool n3, v, .int .i64 e3]) ∧ Nt w.heap.size w' v X3) ∧ Below w.heap.size w w' := by
  have hlt := hk.lt
  obtain ⟨W1, hW1⟩ : ∃ W, W = w.alloc (.cells #[.bool false, .slice none 0 0, .int .i64 0] 33) := ⟨_, rfl⟩
  have H1 : Aside (Below w.heap.size w W1 ∧ Dk W1 w.heap.size false (.slice none 0 0) 0 ∧ W1.heap.size = w.heap.size + 1) := by
    subst hW1; exact ⟨below_alloc _ _, Dk.new _ _ _ _, by simp⟩
  have HK : Aside (∀ W, Below w.heap.size w W → W.cell? ⟨g, 1, none⟩ = some va ∧ W.cell? ⟨g, 2, none⟩ = some vb) := fun W hW => by
    obtain ⟨_, x1, x2, _⟩ := (hk.of_block (hW.block g hlt)).facts
    exact ⟨x1, x2⟩
  obtain ⟨x1, x2⟩ := HK.out W1 H1.out.1
  have hlt1 : g < W1.heap.size := by have := H1.out.2.2; omega
  have HW1 : Aside (w.heap.size < W1.heap.size) := by have := H1.out.2.2; exact Aside.intro (by omega)
  have kS : Aside (W1.drew.cell? ⟨g, 1, none⟩ = some va ∧ W1.drew.cell? ⟨g, 2, none⟩ = some vb) := ⟨x1, x2⟩
  have BB : Aside (Below W1.heap.size W1 W1.drew) := (Below.refl _ _).drew
  have HB : Aside (∀ W, Below W1.heap.size W1 W → Below w.heap.size w W) := fun W h => H1.out.1.trans (h.mono H1.out.1.size)
  clear hk
  go_enter Tryz.func59, Tryz.ntmps59
  go_wp2
  rw [← hW1]
  clear hW1
  go_region_held3 (fun w' => w'.cell? ⟨g, 1, none⟩ = some va ∧ w'.cell? ⟨g, 2, none⟩ = some vb) (first | with_reducible exact kS.out | with_reducible exact alloc2 kS.out | with_reducible exact alloc2d ⟨x1, x2⟩ | (with_reducible refine set2 (by first | exact hdz _ DZ.out.2 | exact hdz _ BB.out.size) (set2 (by first | exact hdz _ DZ.out.2 | exact hdz _ BB.out.size) (set2 (by first | exact hdz _ DZ.out.2 | exact hdz _ BB.out.size) ?_)); first | with_reducible exact kS.out | with_reducible exact alloc2 kS.out)) (first
    | (go_at_call 139
       first
       | (with_reducible refine (EA.out _ (by first | exact HB.out _ BB.out | exact HB.out _ (BB.out.trans ((below_alloc _ _).mono BB.out.size)) | exact HB.out _ (below_alloc W1 _).drew)).mono ?_
          rintro r u ⟨⟨v1, rfl, hN⟩, hb⟩
          obtain ⟨a1, c1, rfl, _⟩ := hN.arg (Nat.le_trans l1 (by decide))
          have hu : Below W1.heap.size W1 u := by
            first
            | exact BB.out.trans (hb.mono BB.out.size)
            | exact (BB.out.trans ((below_alloc _ _).mono BB.out.size)).trans (hb.mono (by have := BB.out.size; simp; omega))
            | exact ((below_alloc W1 _).drew).trans (hb.mono (by simp))
          first
            | have NB := Aside.intro (NB.out.below hb)
            | have NB := Aside.intro ((NB.out.below (below_alloc _ _)).below hb)
            | skip
          first
            | have DZ := Aside.intro (And.intro (DZ.out.1.below hb) DZ.out.2)
            | have DZ := Aside.intro (And.intro ((Dk.new _ false (.slice none 0 0) 0).below hb) BB.out.size)
            | have DZ := Aside.intro (And.intro (Dk.below (w := (W1.alloc (.cells #[.bool false, .slice none 0 0, .int .i64 0] 33)).drew) (Dk.new W1 false (.slice none 0 0) 0) hb) (Nat.le_refl W1.heap.size))
            | skip
          have NA := Aside.intro (hN.mono (show w.heap.size ≤ _ by first | exact Nat.le_trans H1.out.1.size BB.out.size | (have := BB.out.size; have := H1.out.2.2; simp; omega) | (have := H1.out.2.2; simp; omega)))
          have kS := Aside.intro (HK.out u (HB.out u hu))
          obtain ⟨x1, x2⟩ := HK.out u (HB.out u hu)
          have hgu : g < u.heap.size := by have := hu.size; omega
          have BB := Aside.intro hu
          clear hN hb hu)
       | (with_reducible refine (EB.out _ (by first | exact HB.out _ BB.out | exact HB.out _ (BB.out.trans ((below_alloc _ _).mono BB.out.size)) | exact HB.out _ (below_alloc W1 _).drew)).mono ?_
          rintro r u ⟨⟨v2, rfl, hN⟩, hb⟩
          obtain ⟨a2, c2, rfl, _⟩ := hN.arg (Nat.le_trans l2 (by decide))
          have hu : Below W1.heap.size W1 u := by
            first
            | exact BB.out.trans (hb.mono BB.out.size)
            | exact (BB.out.trans ((below_alloc _ _).mono BB.out.size)).trans (hb.mono (by have := BB.out.size; simp; omega))
            | exact ((below_alloc W1 _).drew).trans (hb.mono (by simp))
          first
            | have NA := Aside.intro (NA.out.below hb)
            | have NA := Aside.intro ((NA.out.below (below_alloc _ _)).below hb)
            | skip
          first
            | have DZ := Aside.intro (And.intro (DZ.out.1.below hb) DZ.out.2)
            | have DZ := Aside.intro (And.intro ((Dk.new _ false (.slice none 0 0) 0).below hb) BB.out.size)
            | have DZ := Aside.intro (And.intro (Dk.below (w := (W1.alloc (.cells #[.bool false, .slice none 0 0, .int .i64 0] 33)).drew) (Dk.new W1 false (.slice none 0 0) 0) hb) (Nat.le_refl W1.heap.size))
            | skip
          have NB := Aside.intro (hN.mono (show w.heap.size ≤ _ by first | exact Nat.le_trans H1.out.1.size BB.out.size | (have := BB.out.size; have := H1.out.2.2; simp; omega) | (have := H1.out.2.2; simp; omega)))
          have kS := Aside.intro (HK.out u (HB.out u hu))
          obtain ⟨x1, x2⟩ := HK.out u (HB.out u hu)
          have hgu : g < u.heap.size := by have := hu.size; omega
          have BB := Aside.intro hu
          clear hN hb hu))
    | (go_at_call 138
       with_reducible refine (HA.out _ a1 c1 a2 c2 (by first | exact HB.out _ BB.out | exact HB.out _ (BB.out.trans ((below_alloc _ _).mono BB.out.size)) | exact HB.out _ (below_alloc W1 _).drew) (by first | exact NA.out | exact NA.out.below (below_alloc _ _)) (by first | exact NB.out | exact NB.out.below (below_alloc _ _))).mono ?_
       rintro r u ⟨⟨v3, rfl, hN⟩, hb⟩
       obtain ⟨a3, c3, rfl, _⟩ := hN.arg (Nat.le_trans l3 (by decide))
       have hu : Below W1.heap.size W1 u := by
         first
         | exact BB.out.trans (hb.mono BB.out.size)
         | exact (BB.out.trans ((below_alloc _ _).mono BB.out.size)).trans (hb.mono (by have := BB.out.size; simp; omega))
         | exact ((below_alloc W1 _).drew).trans (hb.mono (by simp))
       first
         | have DZ := Aside.intro (And.intro (DZ.out.1.below hb) DZ.out.2)
         | have DZ := Aside.intro (And.intro ((Dk.new _ false (.slice none 0 0) 0).below hb) BB.out.size)
         | have DZ := Aside.intro (And.intro (Dk.below (w := (W1.alloc (.cells #[.bool false, .slice none 0 0, .int .i64 0] 33)).drew) (Dk.new W1 false (.slice none 0 0) 0) hb) (Nat.le_refl W1.heap.size))
         | skip
       have NC := Aside.intro (hN.mono (show W1.heap.size ≤ _ by first | exact BB.out.size | (have := BB.out.size; simp; omega) | (simp; omega)))
       have kS := Aside.intro (HK.out u (HB.out u hu))
       try obtain ⟨d0, d1, d2, df0, df1, df2⟩ := DZ.out.1.facts
       have hgu : g < u.heap.size := by have := hu.size; omega
       have hdz : ∀ k, W1.heap.size ≤ k → g ≠ k := fun k hk => by omega
       have BB := Aside.intro hu
       clear hN hb hu))
  all_goals (
    have Z := H1.out.2.1.below BB.out
    first
      | with_reducible refine name_world8 (Ex9 w W1 n3 (.slice a3 (ws X3).length c3) e3 X3 _) (Ex9.b DZ.out.1 Z NC.out (HB.out u BB.out) (Nat.lt_of_lt_of_le HW1.out DZ.out.2)) ?_
      | with_reducible refine name_world8 (Ex9 w W1 n3 (.slice a3 (ws X3).length c3) e3 X3 u.heap.size) (Ex9.a Z NC.out (HB.out u BB.out) (Nat.ne_of_lt (Nat.lt_of_lt_of_le HW1.out BB.out.size))) ?_
    intro U HU
    obtain ⟨y0, y1, y2, yf0, yf1, yf2⟩ := HU.1.facts
    obtain ⟨z0, z1, z2, zf0, zf1, zf2⟩ := HU.2.1.facts
    have hnk := HU.2.2.2.2
    have HX := Aside.intro HU
    clear hdz hgu HU HK kS EA EB HA HB NA NB NC BB Z H1
    try clear d0 d1 d2 df0 df1 df2 DZ
    go_wp2
    obtain ⟨R1, R2, R3, R4, R5⟩ := HX.out
    have hbt := st3_but8 w.heap.size U (.bool n3) (.slice a3 (ws X3).length c3) (.int .i64 e3)
    refine close8 Tryz.results59 (g := w.heap.size) (n := n3) (v := .slice a3 (ws X3).length c3) (e := e3) ?_ (R2.set _ _ _) ?_
    · rfl
    exact ⟨⟨_, rfl, (R3.dk8 R2 hbt).mono (Nat.le_of_lt HW1.out)⟩, But.below R4 hbt R4.size (Nat.le_refl _)⟩)

theorem GGm (k : Nat) (hk : k = 2053) {c n : Nat} (h : n * 17179869184 + c ≤ 4503599627370496) : (n * 17179869184 + c) * GG < 2 ^ k := by
  have e : 4503599627370496 * GG = 2 ^ (k - 1) := by
    rw [G_eq, show (4503599627370496 : Nat) = 2 ^ 52 by decide, ← Nat.pow_add]
    congr 1
    rw [hk]; rfl
  have h1 : (n * 17179869184 + c) * GG ≤ 4503599627370496 * GG := Nat.mul_le_mul_right _ h
  have h2 : 2 ^ k = 2 ^ (k - 1) * 2 := by rw [← Nat.pow_succ]; congr 1; omega
  have h3 := Nat.two_pow_pos (k - 1)
  omega
theorem GGh (k : Nat) (hk : k = 2053) {c n : Nat} (h : n * 17179869184 + c ≤ 4503599627370496) : (n * 17179869184 + c) * GG * 2 ≤ 2 ^ k := by
  have e : 4503599627370496 * GG = 2 ^ (k - 1) := by
    rw [G_eq, show (4503599627370496 : Nat) = 2 ^ 52 by decide, ← Nat.pow_add]
    congr 1
    rw [hk]; rfl
  have h1 : (n * 17179869184 + c) * GG ≤ 4503599627370496 * GG := Nat.mul_le_mul_right _ h
  have h2 : 2 ^ k = 2 ^ (k - 1) * 2 := by rw [← Nat.pow_succ]; congr 1; omega
  omega
/-- How great a Spread's sum may be. -/
theorem Sx.top {F : Nat → Prop} {w : World} {g n : Nat} {V : Int} {c : Nat} (h : Sx F w g n V c) (m : Nat) (hm : m = 2117) : V.natAbs < 2 ^ m := by
  obtain ⟨va, vb, A, B, V1, V2, h1, h2, h3, h4, h5, h6, h7, h8, r1, r2, r3, r4, r5⟩ := h
  obtain ⟨k, hk⟩ : ∃ k, k = 2053 := ⟨_, rfl⟩
  have a1 := fv_av A
  have a2 := fv_av B
  have b1 := r1.size
  have b2 := r2.size
  have c1 := GGh k hk r5
  rw [r1.val] at a1
  rw [r2.val] at a2
  have d1 : V1.natAbs * 2 ≤ 2 ^ k := by omega
  have d2 : V2.natAbs * 2 ≤ 2 ^ k := by omega
  have d3 := Nat.two_pow_pos k
  rw [show m = k + 64 by omega, Nat.pow_add, show (2 : Nat) ^ 64 = 18446744073709551616 by decide, r3]
  generalize (2 : Nat) ^ k = z at *
  omega
theorem fo8_fr {V : Int} {m : Nat} (hm : m ≤ 200000) (hV : V.natAbs < 2 ^ m) : (ws (dX (fo8 V))).length ≤ 8192 := (fo8_len V m hm hV).1
/-- Exact. -/
theorem exact8 (F : Nat → Prop) (w : World) (g n : Nat) (V : Int) (c : Nat) (h : Sx F w g n V c) (hT : Tab w) :
    Calls Tryz.prog 59 #[.pointer (some ⟨g, 0, none⟩)] w fun r w' => (∃ v, r = .returned (.agg #[.bool (dN (fo8 V)), v, .int .i64 (dE (fo8 V))]) ∧ Nt w.heap.size w' v (dX (fo8 V))) ∧ Below w.heap.size w w' := by
  have htop := h.top
  obtain ⟨va, vb, A, B, V1, V2, h1, h2, h3, h4, h5, h6, h7, h8, r1, r2, r3, r4, r5⟩ := h
  obtain ⟨k, hk⟩ : ∃ k, k = 2053 := ⟨_, rfl⟩
  obtain ⟨m, hm⟩ : ∃ m, m = 2117 := ⟨_, rfl⟩
  have c1 := GGm k hk r5
  have b1 := r1.size
  have b2 := r2.size
  have l1 : avL A < 2 ^ k := by omega
  have l2 : avL B < 2 ^ k := by omega
  have v1 : V1.natAbs < 2 ^ m := by
    have := fv_av A; rw [r1.val] at this
    exact Nat.lt_of_lt_of_le (Nat.lt_of_le_of_lt this l1) (Nat.pow_le_pow_right (by decide) (by omega))
  have v2 : (V2 * 18446744073709551616).natAbs < 2 ^ m := by
    have := fv_av B; rw [r2.val] at this
    have q : V2.natAbs < 2 ^ k := by omega
    rw [show m = k + 64 by omega, Nat.pow_add, show (2 : Nat) ^ 64 = 18446744073709551616 by decide]
    generalize (2 : Nat) ^ k = z at *
    omega
  have e1 : fvL A * 2 ^ 0 = V1 := by rw [r1.val]; simp
  have e2 : fvL B * 2 ^ 64 = V2 * 18446744073709551616 := by rw [r2.val]; rfl
  refine exact_core8 (dN (fo8 V1)) (dN (fo8 (V2 * 18446744073709551616))) _ (dX (fo8 V1)) (dX (fo8 (V2 * 18446744073709551616))) _ (dE (fo8 V1)) (dE (fo8 (V2 * 18446744073709551616))) _ (fo8_fr (m := m) (by omega) v1) (fo8_fr (m := m) (by omega) v2) (fo8_fr (m := m) (by omega) (htop m hm)) h1 (hid fun u hu => ?_) (hid fun u hu => ?_) (hid fun u a c b d hu n1 n2 => ?_)
  · have := exact_any8 0 va A 0 u (h2.below hu) (hT.belows hu) r1.fin (by have := r1.len; omega) k (by omega) (by omega) l1
    rw [e1] at this
    exact this
  · have := exact_any8 0 vb B 64 u (h3.below hu) (hT.belows hu) r2.fin (by have := r2.len; omega) k (by omega) (by omega) l2
    rw [e2] at this
    exact this
  · have q1 := (n1.arg' (Nat.le_trans (fo8_fr (m := m) (by omega) v1) (by decide))).2
    have q2 := (n2.arg' (Nat.le_trans (fo8_fr (m := m) (by omega) v2) (by decide))).2
    obtain ⟨_, s2, s3, _⟩ := fo8_len (V2 * 18446744073709551616) m (by omega) v2
    have := add_any8 V1 (V2 * 18446744073709551616) m (by omega) v1 v2 _ s2 s3 _ _ (fo8_self _ m (by omega) v2) u a b c d (hT.belows hu) q1 q2
    rw [← r3] at this
    exact this
end Go.Proofs.YtjpaocgimdinmaaGreatDoor

/- Bins: inBin, exact, Kept, Bound. -/
namespace Go.Proofs.YtjpaocgimdinmaaGreatDoor
open Go Go.RowKit
set_option linter.unusedVariables false
set_option maxRecDepth 20000
set_option linter.unusedSimpArgs false

set_option maxHeartbeats 4000000 in
theorem exact9_core {w0 : World} (h l j : Int) (hj : -1000 ≤ j ∧ j ≤ 1000) (n1 n2 n3 : Bool) (X1 X2 X3 : Nat) (e1 e2 e3 : Int) (l1 : (ws X1).length ≤ 8192) (l2 : (ws X2).length ≤ 8192) (l3 : (ws X3).length ≤ 8192)
    (EA0 : Hid (∀ u, Below w0.heap.size w0 u → Calls Tryz.prog 147 #[.int .i64 h, .int .i64 (j + 1)] u fun r w' => (∃ v, r = .returned (.agg #[.bool n1, v, .int .i64 e1]) ∧ Nt u.heap.size w' v X1) ∧ Below u.heap.size u w'))
    (EB0 : Hid (∀ u, Below w0.heap.size w0 u → Calls Tryz.prog 147 #[.int .i64 l, .int .i64 j] u fun r w' => (∃ v, r = .returned (.agg #[.bool n2, v, .int .i64 e2]) ∧ Nt u.heap.size w' v X2) ∧ Below u.heap.size u w'))
    (HA0 : Hid (∀ u a c b d, Below w0.heap.size w0 u → Nt w0.heap.size u (.slice a (ws X1).length c) X1 → Nt w0.heap.size u (.slice b (ws X2).length d) X2 → Calls Tryz.prog 138 #[.agg #[.bool n1, .slice a (ws X1).length c, .int .i64 e1], .agg #[.bool n2, .slice b (ws X2).length d, .int .i64 e2]] u fun r w' => (∃ v, r = .returned (.tuple #[.agg #[.bool n3, v, .int .i64 e3], .int .i64 0]) ∧ Nt u.heap.size w' v X3) ∧ Below u.heap.size u w')) :
    Calls Tryz.prog 146 #[.agg #[.int .i64 h, .int .i64 l], .int .i64 j] w0 fun r w' => (∃ v, r = .returned (.agg #[.bool n3, v, .int .i64 e3]) ∧ Nt w0.heap.size w' v X3) ∧ Below w0.heap.size w0 w' := by
  obtain ⟨w, hw⟩ : ∃ w, w = w0.alloc (.cells #[.int .i64 h, .int .i64 l] 140) := ⟨_, rfl⟩
  obtain ⟨g, hg⟩ : ∃ g, g = w0.heap.size := ⟨_, rfl⟩
  have HWX := Aside.intro hw
  have HGX := Aside.intro hg
  have HBX : Aside (Bl w g 140 [.int .i64 h, .int .i64 l]) := by subst hw; subst hg; exact Bl.new w0 140 [_, _]
  have HBW : Aside (Below w0.heap.size w0 w) := by subst hw; exact bel_alloc _ _
  have HSZ : Aside (w0.heap.size + 1 = w.heap.size) := by subst hw; exact Aside.intro (by simp)
  have hlt : g < w.heap.size := HBX.out.lt
  clear hw hg
  have EA : Hid (∀ u, Below w.heap.size w u → Calls Tryz.prog 147 #[.int .i64 h, .int .i64 (j + 1)] u fun r w' => (∃ v, r = .returned (.agg #[.bool n1, v, .int .i64 e1]) ∧ Nt u.heap.size w' v X1) ∧ Below u.heap.size u w') := hid (fun u hu => EA0.out u (HBW.out.trans (hu.mono HBW.out.size)))
  have EB : Hid (∀ u, Below w.heap.size w u → Calls Tryz.prog 147 #[.int .i64 l, .int .i64 j] u fun r w' => (∃ v, r = .returned (.agg #[.bool n2, v, .int .i64 e2]) ∧ Nt u.heap.size w' v X2) ∧ Below u.heap.size u w') := hid (fun u hu => EB0.out u (HBW.out.trans (hu.mono HBW.out.size)))
  have HA : Hid (∀ u a c b d, Below w.heap.size w u → Nt w.heap.size u (.slice a (ws X1).length c) X1 → Nt w.heap.size u (.slice b (ws X2).length d) X2 → Calls Tryz.prog 138 #[.agg #[.bool n1, .slice a (ws X1).length c, .int .i64 e1], .agg #[.bool n2, .slice b (ws X2).length d, .int .i64 e2]] u fun r w' => (∃ v, r = .returned (.tuple #[.agg #[.bool n3, v, .int .i64 e3], .int .i64 0]) ∧ Nt u.heap.size w' v X3) ∧ Below u.heap.size u w') := hid (fun u a c b d hu k1 k2 => HA0.out u a c b d (HBW.out.trans (hu.mono HBW.out.size)) (k1.mono HBW.out.size) (k2.mono HBW.out.size))
  clear EA0 EB0 HA0
  have hwj : IntKind.i64.wrap (j + 1) = j + 1 := by rw [IntKind.wrap_i64]; omega
  obtain ⟨W1, hW1⟩ : ∃ W, W = w.alloc (.cells #[.bool false, .slice none 0 0, .int .i64 0] 33) := ⟨_, rfl⟩
  have H1 : Aside (Below w.heap.size w W1 ∧ Dk W1 w.heap.size false (.slice none 0 0) 0 ∧ W1.heap.size = w.heap.size + 1) := by
    subst hW1; exact ⟨below_alloc _ _, Dk.new _ _ _ _, by simp⟩
  have HK : Aside (∀ W, Below w.heap.size w W → W.cell? ⟨g, 0, none⟩ = some (.int .i64 h) ∧ W.cell? ⟨g, 1, none⟩ = some (.int .i64 l)) := fun W hW => by
    have hk2 := HBX.out.below hW hlt
    exact ⟨hk2.cell 0 _ rfl, hk2.cell 1 _ rfl⟩
  obtain ⟨x1, x2⟩ := HK.out W1 H1.out.1
  have hlt1 : g < W1.heap.size := by have := H1.out.2.2; omega
  have HW1 : Aside (w.heap.size < W1.heap.size) := by have := H1.out.2.2; exact Aside.intro (by omega)
  have kS : Aside (W1.drew.cell? ⟨g, 0, none⟩ = some (.int .i64 h) ∧ W1.drew.cell? ⟨g, 1, none⟩ = some (.int .i64 l)) := ⟨x1, x2⟩
  have BB : Aside (Below W1.heap.size W1 W1.drew) := (Below.refl _ _).drew
  have HB : Aside (∀ W, Below W1.heap.size W1 W → Below w.heap.size w W) := fun W h => H1.out.1.trans (h.mono H1.out.1.size)
  go_enter Tryz.func146, Tryz.ntmps146
  go_wp2
  rw [← HWX.out, show w0.heap.size + 1 = w.heap.size from HSZ.out, ← HGX.out, ← hW1]
  clear hW1
  go_region_held3 (fun w' => w'.cell? ⟨g, 0, none⟩ = some (.int .i64 h) ∧ w'.cell? ⟨g, 1, none⟩ = some (.int .i64 l)) (first | with_reducible exact kS.out | with_reducible exact alloc2 kS.out | with_reducible exact alloc2d ⟨x1, x2⟩ | (with_reducible refine set2 (by first | exact hdz _ DZ.out.2 | exact hdz _ BB.out.size) (set2 (by first | exact hdz _ DZ.out.2 | exact hdz _ BB.out.size) (set2 (by first | exact hdz _ DZ.out.2 | exact hdz _ BB.out.size) ?_)); first | with_reducible exact kS.out | with_reducible exact alloc2 kS.out)) (first
    | (go_at_call 147
       first
       | (with_reducible refine (EA.out _ (by first | exact HB.out _ BB.out | exact HB.out _ (BB.out.trans ((below_alloc _ _).mono BB.out.size)) | exact HB.out _ (below_alloc W1 _).drew)).mono ?_
          rintro r u ⟨⟨v1, rfl, hN⟩, hb⟩
          obtain ⟨a1, c1, rfl, _⟩ := hN.arg (Nat.le_trans l1 (by decide))
          have hu : Below W1.heap.size W1 u := by
            first
            | exact BB.out.trans (hb.mono BB.out.size)
            | exact (BB.out.trans ((below_alloc _ _).mono BB.out.size)).trans (hb.mono (by have := BB.out.size; simp; omega))
            | exact ((below_alloc W1 _).drew).trans (hb.mono (by simp))
          first
            | have NB := Aside.intro (NB.out.below hb)
            | have NB := Aside.intro ((NB.out.below (below_alloc _ _)).below hb)
            | skip
          first
            | have DZ := Aside.intro (And.intro (DZ.out.1.below hb) DZ.out.2)
            | have DZ := Aside.intro (And.intro ((Dk.new _ false (.slice none 0 0) 0).below hb) BB.out.size)
            | have DZ := Aside.intro (And.intro (Dk.below (w := (W1.alloc (.cells #[.bool false, .slice none 0 0, .int .i64 0] 33)).drew) (Dk.new W1 false (.slice none 0 0) 0) hb) (Nat.le_refl W1.heap.size))
            | skip
          have NA := Aside.intro (hN.mono (show w.heap.size ≤ _ by first | exact Nat.le_trans H1.out.1.size BB.out.size | (have := BB.out.size; have := H1.out.2.2; simp; omega) | (have := H1.out.2.2; simp; omega)))
          have kS := Aside.intro (HK.out u (HB.out u hu))
          obtain ⟨x1, x2⟩ := HK.out u (HB.out u hu)
          have hgu : g < u.heap.size := by have := hu.size; omega
          have BB := Aside.intro hu
          clear hN hb hu)
       | (with_reducible refine (EB.out _ (by first | exact HB.out _ BB.out | exact HB.out _ (BB.out.trans ((below_alloc _ _).mono BB.out.size)) | exact HB.out _ (below_alloc W1 _).drew)).mono ?_
          rintro r u ⟨⟨v2, rfl, hN⟩, hb⟩
          obtain ⟨a2, c2, rfl, _⟩ := hN.arg (Nat.le_trans l2 (by decide))
          have hu : Below W1.heap.size W1 u := by
            first
            | exact BB.out.trans (hb.mono BB.out.size)
            | exact (BB.out.trans ((below_alloc _ _).mono BB.out.size)).trans (hb.mono (by have := BB.out.size; simp; omega))
            | exact ((below_alloc W1 _).drew).trans (hb.mono (by simp))
          first
            | have NA := Aside.intro (NA.out.below hb)
            | have NA := Aside.intro ((NA.out.below (below_alloc _ _)).below hb)
            | skip
          first
            | have DZ := Aside.intro (And.intro (DZ.out.1.below hb) DZ.out.2)
            | have DZ := Aside.intro (And.intro ((Dk.new _ false (.slice none 0 0) 0).below hb) BB.out.size)
            | have DZ := Aside.intro (And.intro (Dk.below (w := (W1.alloc (.cells #[.bool false, .slice none 0 0, .int .i64 0] 33)).drew) (Dk.new W1 false (.slice none 0 0) 0) hb) (Nat.le_refl W1.heap.size))
            | skip
          have NB := Aside.intro (hN.mono (show w.heap.size ≤ _ by first | exact Nat.le_trans H1.out.1.size BB.out.size | (have := BB.out.size; have := H1.out.2.2; simp; omega) | (have := H1.out.2.2; simp; omega)))
          have kS := Aside.intro (HK.out u (HB.out u hu))
          obtain ⟨x1, x2⟩ := HK.out u (HB.out u hu)
          have hgu : g < u.heap.size := by have := hu.size; omega
          have BB := Aside.intro hu
          clear hN hb hu))
    | (go_at_call 138
       with_reducible refine (HA.out _ a1 c1 a2 c2 (by first | exact HB.out _ BB.out | exact HB.out _ (BB.out.trans ((below_alloc _ _).mono BB.out.size)) | exact HB.out _ (below_alloc W1 _).drew) (by first | exact NA.out | exact NA.out.below (below_alloc _ _)) (by first | exact NB.out | exact NB.out.below (below_alloc _ _))).mono ?_
       rintro r u ⟨⟨v3, rfl, hN⟩, hb⟩
       obtain ⟨a3, c3, rfl, _⟩ := hN.arg (Nat.le_trans l3 (by decide))
       have hu : Below W1.heap.size W1 u := by
         first
         | exact BB.out.trans (hb.mono BB.out.size)
         | exact (BB.out.trans ((below_alloc _ _).mono BB.out.size)).trans (hb.mono (by have := BB.out.size; simp; omega))
         | exact ((below_alloc W1 _).drew).trans (hb.mono (by simp))
       first
         | have DZ := Aside.intro (And.intro (DZ.out.1.below hb) DZ.out.2)
         | have DZ := Aside.intro (And.intro ((Dk.new _ false (.slice none 0 0) 0).below hb) BB.out.size)
         | have DZ := Aside.intro (And.intro (Dk.below (w := (W1.alloc (.cells #[.bool false, .slice none 0 0, .int .i64 0] 33)).drew) (Dk.new W1 false (.slice none 0 0) 0) hb) (Nat.le_refl W1.heap.size))
         | skip
       have NC := Aside.intro (hN.mono (show W1.heap.size ≤ _ by first | exact BB.out.size | (have := BB.out.size; simp; omega) | (simp; omega)))
       have kS := Aside.intro (HK.out u (HB.out u hu))
       try obtain ⟨d0, d1, d2, df0, df1, df2⟩ := DZ.out.1.facts
       have hgu : g < u.heap.size := by have := hu.size; omega
       have hdz : ∀ k, W1.heap.size ≤ k → g ≠ k := fun k hk => by omega
       have BB := Aside.intro hu
       clear hN hb hu))
  all_goals (
    have Z := H1.out.2.1.below BB.out
    first
      | with_reducible refine name_world8 (Ex9 w W1 n3 (.slice a3 (ws X3).length c3) e3 X3 _) (Ex9.b DZ.out.1 Z NC.out (HB.out u BB.out) (Nat.lt_of_lt_of_le HW1.out DZ.out.2)) ?_
      | with_reducible refine name_world8 (Ex9 w W1 n3 (.slice a3 (ws X3).length c3) e3 X3 u.heap.size) (Ex9.a Z NC.out (HB.out u BB.out) (Nat.ne_of_lt (Nat.lt_of_lt_of_le HW1.out BB.out.size))) ?_
    intro U HU
    obtain ⟨y0, y1, y2, yf0, yf1, yf2⟩ := HU.1.facts
    obtain ⟨z0, z1, z2, zf0, zf1, zf2⟩ := HU.2.1.facts
    have hnk := HU.2.2.2.2
    have HX := Aside.intro HU
    clear hdz hgu HU HK kS EA EB HA HB NA NB NC BB Z H1
    try clear d0 d1 d2 df0 df1 df2 DZ
    go_wp2
    obtain ⟨R1, R2, R3, R4, R5⟩ := HX.out
    have hbt := st3_but8 w.heap.size U (.bool n3) (.slice a3 (ws X3).length c3) (.int .i64 e3)
    refine close8 Tryz.results146 (g := w.heap.size) (n := n3) (v := .slice a3 (ws X3).length c3) (e := e3) ?_ (R2.set _ _ _) ?_
    · rfl
    have hf := But.below R4 hbt R4.size (Nat.le_refl _)
    exact ⟨⟨_, rfl, ((R3.dk8 R2 hbt).mono (Nat.le_of_lt HW1.out)).mono HBW.out.size⟩, HBW.out.trans (hf.mono HBW.out.size)⟩)

end Go.Proofs.YtjpaocgimdinmaaGreatDoor

/- Bins: inBin. -/
namespace Go.Proofs.YtjpaocgimdinmaaGreatDoor
open Go Go.RowKit
set_option linter.unusedVariables false
set_option maxRecDepth 20000
set_option linter.unusedSimpArgs false

set_option maxHeartbeats 1000000 in
theorem inBin_core (n j : Int) (hj : -1000 ≤ j ∧ j ≤ 1000) (n1 n2 : Bool) (X1 X2 : Nat) (e1 e2 : Int) (h1 : -1000000 ≤ e1 ∧ e1 ≤ 1000000) (l1 : (ws X1).length ≤ 8192) (l2 : (ws X2).length ≤ 8192) (er : Int) (w : World)
    (HI : Hid (∀ u, Below w.heap.size w u → Calls Tryz.prog 203 #[.int .i64 n] u fun r w' => (∃ v, r = .returned (.agg #[.bool n1, v, .int .i64 e1]) ∧ Nt u.heap.size w' v X1) ∧ Below u.heap.size u w'))
    (HM : Hid (∀ u a c, Below w.heap.size w u → Arg u a (ws X1).length c (ws X1) → Calls Tryz.prog 117 #[.bool n1, .slice a (ws X1).length c, .int .i64 (e1 + 32 * j)] u fun r w' => (∃ v, r = .returned (.tuple #[.agg #[.bool n2, v, .int .i64 e2], .int .i64 er]) ∧ Nt u.heap.size w' v X2) ∧ Below u.heap.size u w')) :
    Calls Tryz.prog 147 #[.int .i64 n, .int .i64 j] w fun r w' => (∃ v, r = .returned (.agg #[.bool n2, v, .int .i64 e2]) ∧ Nt w.heap.size w' v X2) ∧ Below w.heap.size w w' := by
  obtain ⟨W1, hW1⟩ : ∃ W, W = w.alloc (.cells #[.bool false, .slice none 0 0, .int .i64 0] 33) := ⟨_, rfl⟩
  have H1 : Aside (Below w.heap.size w W1 ∧ Dk W1 w.heap.size false (.slice none 0 0) 0 ∧ w.heap.size < W1.heap.size) := by
    subst hW1; exact ⟨below_alloc _ _, Dk.new _ _ _ _, by simp⟩
  go_enter Tryz.func147, Tryz.ntmps147
  go_wp2_with fail
  rw [← hW1]
  clear hW1
  with_reducible refine (HI.out _ H1.out.1).mono ?_
  rintro r u ⟨⟨v1, rfl, hN1⟩, hb1⟩
  obtain ⟨a1, c1, rfl, _⟩ := hN1.arg (Nat.le_trans l1 (by decide))
  obtain ⟨U, hU⟩ : ∃ U, U = u.alloc (.cells #[.bool n1, .slice a1 (ws X1).length c1, .int .i64 e1] 33) := ⟨_, rfl⟩
  have HU : Aside (Below w.heap.size w U ∧ Dk U w.heap.size false (.slice none 0 0) 0 ∧ Dk U u.heap.size n1 (.slice a1 (ws X1).length c1) e1 ∧ Arg U a1 (ws X1).length c1 (ws X1) ∧ w.heap.size < u.heap.size) := by
    subst hU
    have hA := (hN1.below (below_alloc u (.cells #[.bool n1, .slice a1 (ws X1).length c1, .int .i64 e1] 33))).arg' (Nat.le_trans l1 (by decide))
    exact ⟨(H1.out.1.trans (hb1.mono H1.out.1.size)).trans ((below_alloc _ _).mono (Nat.le_trans H1.out.1.size hb1.size)), (H1.out.2.1.below hb1).below (below_alloc _ _), Dk.new _ _ _ _, hA.2, Nat.lt_of_lt_of_le H1.out.2.2 hb1.size⟩
  clear hN1 hb1
  go_wp2_with fail
  rw [← hU]
  clear hU
  with_reducible refine (HM.out U a1 c1 HU.out.1 HU.out.2.2.2.1).mono ?_
  rintro r u2 ⟨⟨v2, rfl, hN2⟩, hb2⟩
  obtain ⟨a2, c2, rfl, _⟩ := hN2.arg (Nat.le_trans l2 (by decide))
  have D1 := HU.out.2.2.1.below hb2
  have D0 := HU.out.2.1.below hb2
  obtain ⟨x0, x1, x2, xf0, xf1, xf2⟩ := D1.facts
  obtain ⟨y0, y1, y2, yf0, yf1, yf2⟩ := D0.facts
  have hne : w.heap.size ≠ u.heap.size := by have := HU.out.2.2.2.2; omega
  have hbt := st3_but8 u.heap.size u2 (.bool n2) (.slice a2 (ws X2).length c2) (.int .i64 e2)
  have D0' := D0.but8 hbt hne
  have hbt2 := st3_but8 w.heap.size (st3 u2 u.heap.size (.bool n2) (.slice a2 (ws X2).length c2) (.int .i64 e2)) (.bool n2) (.slice a2 (ws X2).length c2) (.int .i64 e2)
  have HX : Aside (Dk (st3 (st3 u2 u.heap.size (.bool n2) (.slice a2 (ws X2).length c2) (.int .i64 e2)) w.heap.size (.bool n2) (.slice a2 (ws X2).length c2) (.int .i64 e2)) w.heap.size n2 (.slice a2 (ws X2).length c2) e2 ∧
      Nt w.heap.size (st3 (st3 u2 u.heap.size (.bool n2) (.slice a2 (ws X2).length c2) (.int .i64 e2)) w.heap.size (.bool n2) (.slice a2 (ws X2).length c2) (.int .i64 e2)) (.slice a2 (ws X2).length c2) X2 ∧
      Below w.heap.size w (st3 (st3 u2 u.heap.size (.bool n2) (.slice a2 (ws X2).length c2) (.int .i64 e2)) w.heap.size (.bool n2) (.slice a2 (ws X2).length c2) (.int .i64 e2))) := by
    have s1 := HU.out.1.size
    have s2 := hb2.size
    have hf := But.below (HU.out.1.trans (hb2.mono s1)) hbt (by omega) (by have := HU.out.2.2.2.2; omega)
    exact ⟨D0'.set _ _ _, (((hN2.mono s1).dk8 D1 hbt).dk8 D0' hbt2), But.below hf hbt2 hf.size (Nat.le_refl _)⟩
  unfold st3 at HX
  clear hN2 hb2 D1 D0 D0' hbt hbt2 HM HI HU H1
  go_wp2
  refine close8 Tryz.results147 (g := w.heap.size) (n := n2) (v := .slice a2 (ws X2).length c2) (e := e2) rfl HX.out.1 ⟨⟨_, rfl, HX.out.2.1⟩, HX.out.2.2⟩
end Go.Proofs.YtjpaocgimdinmaaGreatDoor

/- Bins: a count in a bin, as a dyad. -/
namespace Go.Proofs.YtjpaocgimdinmaaGreatDoor
open Go Go.RowKit
set_option linter.unusedVariables false
set_option maxRecDepth 20000
set_option linter.unusedSimpArgs false

/-- n times 2^(32 j). -/
def ib (n j : Int) : Option (Bool × Nat × Int) := mkS (decide (n < 0)) n.natAbs (32 * j)
theorem ib_sz (n j : Int) (hn : n ≠ 0) (h0 : -9223372036854775808 ≤ n) (h1 : n ≤ 9223372036854775807) (hj : -1000 ≤ j ∧ j ≤ 1000) (f : Int) (hf : f = 32 * j ∨ f = 0) : ∃ X e, mkS (decide (n < 0)) n.natAbs f = some (decide (n < 0), X, e) ∧ X = n.natAbs / 2 ^ lo n.natAbs ∧ e = f + lo n.natAbs ∧ Frm (decide (n < 0)) X e ∧ X ≠ 0 ∧ bl X ≤ 64 ∧ lo n.natAbs ≤ 64 := by
  have hb : bl n.natAbs ≤ 64 := blLe (m := 64) (by omega)
  have hlo : lo n.natAbs ≤ 64 := by
    obtain ⟨m, o1, o2, o3⟩ := odd_part n.natAbs (by omega)
    refine Nat.le_of_not_lt (fun q => ?_)
    have h2 : 2 ^ 65 ≤ 2 ^ lo n.natAbs := Nat.pow_le_pow_right (by decide) (by omega)
    have h3 : 2 ^ lo n.natAbs ≤ n.natAbs := by
      rcases Nat.eq_zero_or_pos (n.natAbs / 2 ^ lo n.natAbs) with q0 | q0
      · rw [o2] at q0; omega
      · exact Nat.le_of_not_lt (fun q1 => by rw [Nat.div_eq_of_lt q1] at q0; omega)
    omega
  have hs : mkS (decide (n < 0)) n.natAbs f = some (decide (n < 0), n.natAbs / 2 ^ lo n.natAbs, f + lo n.natAbs) := by
    unfold mkS
    rw [if_neg (by omega), if_neg (by omega)]
  obtain ⟨m, o1, o2, o3⟩ := odd_part n.natAbs (by omega)
  refine ⟨_, _, hs, rfl, rfl, mkS_frm hs, by rw [o2]; omega, ?_, hlo⟩
  refine blLe (m := 64) (Nat.lt_of_le_of_lt (Nat.div_le_self _ _) (by omega))
theorem ib_int (n j : Int) (h0 : -9223372036854775808 ≤ n) (h1 : n ≤ 9223372036854775807) (hj : -1000 ≤ j ∧ j ≤ 1000) :
    mkS (dN (mkS (decide (n < 0)) n.natAbs 0)) (dX (mkS (decide (n < 0)) n.natAbs 0)) (dE (mkS (decide (n < 0)) n.natAbs 0) + 32 * j) = ib n j ∧ -1000 ≤ dE (mkS (decide (n < 0)) n.natAbs 0) ∧ dE (mkS (decide (n < 0)) n.natAbs 0) ≤ 1000 ∧ (ws (dX (mkS (decide (n < 0)) n.natAbs 0))).length ≤ 8192 ∧ (ws (dX (ib n j))).length ≤ 8192 ∧ (ib n j).isSome = true := by
  by_cases hn : n = 0
  · subst hn
    unfold ib
    have e0 : ∀ f, mkS (decide ((0 : Int) < 0)) (0 : Int).natAbs f = some (false, 0, 0) := fun f => mkS_zero _ _
    rw [e0, e0]
    refine ⟨?_, ?_, ?_, ?_, ?_, rfl⟩
    · exact mkS_zero _ _
    · decide
    · decide
    · exact frmLen (mkS_frm (mkS_zero false 0))
    · exact frmLen (mkS_frm (mkS_zero false 0))
  · obtain ⟨X, e, s1, s2, s3, s4, s5, s6, s7⟩ := ib_sz n j hn h0 h1 hj 0 (.inr rfl)
    obtain ⟨X', e', t1, t2, t3, t4, t5, t6, t7⟩ := ib_sz n j hn h0 h1 hj (32 * j) (.inl rfl)
    unfold ib
    rw [s1, t1]
    have hX : X' = X := by rw [s2, t2]
    subst hX
    refine ⟨?_, by show -1000 ≤ e; omega, by show e ≤ 1000; omega, frmLen s4, frmLen t4, rfl⟩
    show mkS (decide (n < 0)) X' (e + 32 * j) = some (decide (n < 0), X', e')
    rw [show e + 32 * j = e' by omega]
    exact mkS_idem t4
theorem ib_fo8 (n j V : Int) (h0 : -9223372036854775808 ≤ n) (h1 : n ≤ 9223372036854775807) (hj : -1000 ≤ j ∧ j ≤ 1000) (t : Nat) (ht : j + 34 = t) (hV : V * 16384 = n * ((2 ^ (32 * t) : Nat) : Int)) (m : Nat) (hm : m ≤ 200000) (hm2 : V.natAbs < 2 ^ m) : ib n j = fo8 V := by
  by_cases hn : n = 0
  · subst hn
    have : V = 0 := by omega
    subst this
    unfold ib fo8
    rw [show (0 : Int).natAbs = 0 from rfl, mkS_zero, mkS_zero]
  · obtain ⟨X', e', t1, t2, t3, t4, t5, t6, t7⟩ := ib_sz n j hn h0 h1 hj (32 * j) (.inl rfl)
    unfold ib
    refine fo8_one (L := -100000) (H := 100000) ⟨⟨_, X', e', t1, t4, ?_, .inr ⟨by omega, by omega⟩⟩⟩ m hm hm2
    rw [zv_mkS t1 (-2097152) (.inr (by omega)), Int.natCast_mul, ← Int.mul_assoc, sg1_abs]
    obtain ⟨a, ha⟩ : ∃ a : Nat, a = 2096064 := ⟨_, rfl⟩
    have e1 : (32 * j - -2097152).toNat = 32 * t + a := by omega
    have e2 : ((UU : Int) * (SS : Int)) = 16384 * ((2 ^ a : Nat) : Int) := by
      have := US (14 + a) (by omega)
      rw [Nat.pow_add] at this
      rw [← Int.natCast_mul, ← this, Int.natCast_mul]
      rfl
    rw [e1, Nat.pow_add, Int.natCast_mul, ← Int.mul_assoc, ← hV, Int.mul_assoc V (UU : Int), e2, ← Int.mul_assoc]
theorem inBin_any (n j : Int) (h0 : -9223372036854775808 ≤ n) (h1 : n ≤ 9223372036854775807) (hj : -1000 ≤ j ∧ j ≤ 1000) (w : World) (hT : Tab w) :
    Calls Tryz.prog 147 #[.int .i64 n, .int .i64 j] w fun r w' => (∃ v, r = .returned (.agg #[.bool (dN (ib n j)), v, .int .i64 (dE (ib n j))]) ∧ Nt w.heap.size w' v (dX (ib n j))) ∧ Below w.heap.size w w' := by
  obtain ⟨e1, e2, e3, e4, e5, e6⟩ := ib_int n j h0 h1 hj
  refine inBin_core n j hj _ _ _ _ _ _ (by omega) e4 e5 (erS (ib n j)) w (hid (fun u hu => Int_any n u (hT.belows hu) h0 h1)) (hid (fun u a c hu hA => ?_))
  have := Make_any hA (hT.belows hu) (dN (mkS (decide (n < 0)) n.natAbs 0)) (dE (mkS (decide (n < 0)) n.natAbs 0) + 32 * j) (by omega) (by omega)
  rw [val_ws, e1] at this
  exact this
/-- The bound, as a power. -/
def EB : Nat := 2300
theorem EB5 : EB ≤ 100000 := by unfold EB; decide
theorem vb_EB (t k : Int) (ht : t ≤ 68) (hk : k.natAbs ≤ 2 ^ 75) : (vb t k).natAbs < 2 ^ EB := by
  have h := vb_abs t k 75 68 ht hk
  obtain ⟨a, ha⟩ : ∃ a : Nat, a = 75 + 32 * 68 := ⟨_, rfl⟩
  obtain ⟨b, hb⟩ : ∃ b : Nat, b = EB := ⟨_, rfl⟩
  rw [← ha] at h
  rw [← hb]
  exact Nat.lt_of_le_of_lt h (Nat.pow_lt_pow_right (by decide) (by rw [ha, hb]; decide))
theorem kv_EB (T : Int) (K : Nat → Int) (n : Nat) (hn : n ≤ 8) (hT : T ≤ 68) (hK : ∀ i, (K i).natAbs ≤ 2 ^ 75) : (kv T K n).natAbs < 2 ^ EB := by
  have h := kv_abs T K n 75 68 hT hK
  obtain ⟨a, ha⟩ : ∃ a : Nat, a = 75 + 32 * 68 := ⟨_, rfl⟩
  obtain ⟨b, hb⟩ : ∃ b : Nat, b = EB := ⟨_, rfl⟩
  rw [← ha] at h
  rw [← hb]
  have h2 : n * 2 ^ a ≤ 2 ^ (4 + a) := by rw [Nat.pow_add]; exact Nat.mul_le_mul_right _ (by omega)
  exact Nat.lt_of_le_of_lt (Nat.le_trans h h2) (Nat.pow_lt_pow_right (by decide) (by rw [ha, hb]; decide))
/-- A count in a bin, as a dyad. -/
theorem inBin9 (n t : Int) (ht : -8 ≤ t ∧ t ≤ 68) (hn : t < 0 → n = 0) (hn2 : t = 0 → (16384 : Int) ∣ n) (hb : n.natAbs ≤ 2 ^ 62) (w : World) (hT : Tab w) :
    Calls Tryz.prog 147 #[.int .i64 n, .int .i64 (t - 34)] w fun r w' => (∃ v, r = .returned (.agg #[.bool (dN (fo8 (vb t n))), v, .int .i64 (dE (fo8 (vb t n)))]) ∧ Nt w.heap.size w' v (dX (fo8 (vb t n)))) ∧ Below w.heap.size w w' := by
  have h := inBin_any n (t - 34) (by omega) (by omega) (by omega) w hT
  have e : ib n (t - 34) = fo8 (vb t n) := by
    by_cases q : t < 0
    · rw [hn q, vb_zero]
      unfold ib fo8
      rw [show (0 : Int).natAbs = 0 from rfl, mkS_zero, mkS_zero]
    · obtain ⟨k, rfl⟩ : ∃ k : Nat, t = k := ⟨t.toNat, by omega⟩
      refine ib_fo8 n _ (vb k n) (by omega) (by omega) (by omega) k (by omega) (vb_mul k n (fun q => hn2 (by omega))) EB (Nat.le_trans EB5 (by decide)) (vb_EB _ _ (by omega) (by omega))
  rw [e] at h
  exact h
theorem exact9 (k t : Int) (ht : -8 ≤ t ∧ t ≤ 67) (hk : t < 0 → k = 0) (hk2 : t = 0 → (16384 : Int) ∣ k) (hb : k.natAbs ≤ 2 ^ 75) (w : World) (hT : Tab w) :
    Calls Tryz.prog 146 #[.agg #[.int .i64 (k / 4294967296), .int .i64 (k % 4294967296)], .int .i64 (t - 34)] w fun r w' => (∃ v, r = .returned (.agg #[.bool (dN (fo8 (vb t k))), v, .int .i64 (dE (fo8 (vb t k)))]) ∧ Nt w.heap.size w' v (dX (fo8 (vb t k)))) ∧ Below w.heap.size w w' := by
  have b1 := vb_EB (t + 1) (k / 4294967296) (by omega) (by omega)
  have b2 := vb_EB t (k % 4294967296) (by omega) (by omega)
  have b3 := vb_EB t k (by omega) hb
  have two := vb_two t k hk hk2
  have h2 : t = 0 → (16384 : Int) ∣ k % 4294967296 := fun q => by obtain ⟨c, hc⟩ := hk2 q; omega
  refine exact9_core (k / 4294967296) (k % 4294967296) (t - 34) (by omega) (dN (fo8 (vb (t + 1) (k / 4294967296)))) (dN (fo8 (vb t (k % 4294967296)))) (dN (fo8 (vb t k))) (dX (fo8 (vb (t + 1) (k / 4294967296)))) (dX (fo8 (vb t (k % 4294967296)))) (dX (fo8 (vb t k))) (dE (fo8 (vb (t + 1) (k / 4294967296)))) (dE (fo8 (vb t (k % 4294967296)))) (dE (fo8 (vb t k))) (fo8_len _ EB (Nat.le_trans EB5 (by decide)) b1).1 (fo8_len _ EB (Nat.le_trans EB5 (by decide)) b2).1 (fo8_len _ EB (Nat.le_trans EB5 (by decide)) b3).1 (hid (fun u hu => ?_)) (hid (fun u hu => ?_)) (hid (fun u a c b d hu k1 k2 => ?_))
  · have := inBin9 (k / 4294967296) (t + 1) (by omega) (fun q => by have := hk (by omega); omega) (fun q => by have := hk (by omega); omega) (by omega) u (hT.belows hu)
    rw [show t + 1 - 34 = t - 34 + 1 by omega] at this
    exact this
  · exact inBin9 (k % 4294967296) t (by omega) (fun q => by have := hk q; omega) h2 (by omega) u (hT.belows hu)
  · obtain ⟨_, A1⟩ := k1.arg' (Nat.le_trans (fo8_len _ EB (Nat.le_trans EB5 (by decide)) b1).1 (by decide))
    obtain ⟨_, A2⟩ := k2.arg' (Nat.le_trans (fo8_len _ EB (Nat.le_trans EB5 (by decide)) b2).1 (by decide))
    obtain ⟨q1, q2, q3, _⟩ := fo8_len (vb t (k % 4294967296)) EB (Nat.le_trans EB5 (by decide)) b2
    have := add_any8 (vb (t + 1) (k / 4294967296)) (vb t (k % 4294967296)) EB EB5 b1 b2 (dE (fo8 (vb t (k % 4294967296)))) q2 q3 (dN (fo8 (vb t (k % 4294967296)))) (dX (fo8 (vb t (k % 4294967296)))) (fo8_self _ EB (Nat.le_trans EB5 (by decide)) b2) u a b c d (hT.belows hu) A1 A2
    rw [two] at this
    exact this
end Go.Proofs.YtjpaocgimdinmaaGreatDoor

