/- Add. -/
import Derived.Test.YtnnlicahgdcbdaaGreatDoorJ19x
import Derived.BigQuiet
import Derived.Deep.RegionHeld3
import Derived.Test.YtnnlicahgdcbdaaGreatDoorD25x
import Derived.Test.YtnnlicahgdcbdaaGreatDoorD36x
import Derived.Deep.Cut
namespace Go.Proofs.YtnnlicahgdcbdaaGreatDoor
open Go.RowKit J
set_option linter.unusedVariables false
set_option maxRecDepth 20000
set_option linter.unusedSimpArgs false

theorem G34 (k : Nat) (hk : k = 2034) : 17179869184 * GG = 2 ^ k := by
  rw [G_eq, show (17179869184 : Nat) = 2 ^ 34 by decide, ← Nat.pow_add]
  congr 1
  rw [hk]; rfl
theorem far8 {x : Nat} (fx : finW x) (h : magW x < 8930638061075693568) : (fvW x).natAbs ≤ 17179869184 * GG := by
  unfold fvW
  rw [sg_abs, G34 2034 rfl]
  obtain ⟨j, hj⟩ : ∃ j, j = 1982 := ⟨_, rfl⟩
  have e := vK_word j 4503599627370496 (.inr (Nat.le_refl _)) (by decide)
  rw [show j * 4503599627370496 + 4503599627370496 = 8930638061075693568 by omega, show (4503599627370496 : Nat) = 2 ^ 52 by decide, ← Nat.pow_add] at e
  have h2 : vK (magW x) < vK 8930638061075693568 := vK_lt.2 h
  rw [e] at h2
  rw [show 2034 = 52 + j by omega]
  omega
theorem shr_fin : finW 4318952042648305664 ∧ Wd 4318952042648305664 := ⟨by unfold finW magW; decide, by unfold Wd; decide⟩
theorem shr_val (k : Nat) (hk : k = 1010) : fvW 4318952042648305664 = (2 : Int) ^ k := by
  unfold fvW
  rw [show negW 4318952042648305664 = false by decide, show magW 4318952042648305664 = 4318952042648305664 by decide]
  obtain ⟨j, hj⟩ : ∃ j, j = 958 := ⟨_, rfl⟩
  have e := vK_word j 4503599627370496 (.inr (Nat.le_refl _)) (by decide)
  rw [show j * 4503599627370496 + 4503599627370496 = 4318952042648305664 by omega, show (4503599627370496 : Nat) = 2 ^ 52 by decide, ← Nat.pow_add] at e
  rw [e, show 52 + j = k by omega]
  show ((2 ^ k : Nat) : Int) = _
  exact p2c k
theorem shrink8 {x : Nat} (hx : Wd x) (fx : finW x) (h : ¬ magW x < 8930638061075693568) :
    finW (tiW x 4318952042648305664) ∧ fvW (tiW x 4318952042648305664) * 18446744073709551616 = fvW x ∧ (fvW (tiW x 4318952042648305664)).natAbs ≤ 17179869184 * GG := by
  obtain ⟨k, h1, _, h3⟩ := (fv_F x).placed
  obtain ⟨j, hj⟩ : ∃ j, j = 1982 := ⟨_, rfl⟩
  have hlow : 2 ^ (52 + j) ≤ (fvW x).natAbs := by
    unfold fvW
    rw [sg_abs]
    have e := vK_word j 4503599627370496 (.inr (Nat.le_refl _)) (by decide)
    rw [show j * 4503599627370496 + 4503599627370496 = 8930638061075693568 by omega, show (4503599627370496 : Nat) = 2 ^ 52 by decide, ← Nat.pow_add] at e
    rw [← e]
    exact Nat.le_of_not_lt (fun q => h (vK_lt.1 q))
  have hk : j ≤ k := by
    have : 52 + j < 53 + k := (Nat.pow_lt_pow_iff_right (by decide)).1 (Nat.lt_of_le_of_lt hlow h1)
    omega
  obtain ⟨q, hq⟩ := h3
  obtain ⟨i, rfl⟩ : ∃ i, k = i + 64 := ⟨k - 64, by omega⟩
  have e64 : (2 : Int) ^ 64 = 18446744073709551616 := by decide
  have hP : fvW x = (q * 2 ^ i) * 18446744073709551616 := by
    rw [hq, Int.pow_add, e64]
    generalize (2 : Int) ^ i = z
    grind
  obtain ⟨P, hPe⟩ : ∃ P, P = q * 2 ^ i := ⟨_, rfl⟩
  rw [← hPe] at hP
  have hPb : P.natAbs < 2 ^ (53 + i) := by
    rw [hP, Int.natAbs_mul, show 53 + (i + 64) = 53 + i + 64 by omega, Nat.pow_add] at h1
    have : (2 : Nat) ^ 64 = (18446744073709551616 : Int).natAbs := by decide
    rw [this] at h1
    exact Nat.lt_of_mul_lt_mul_right h1
  have hF : IsF P := grid (k := i) ⟨q, by rw [hPe, Int.mul_comm]⟩ (Nat.le_of_lt hPb)
  have htop : P.natAbs ≤ 17179869184 * GG := by
    obtain ⟨z, hz⟩ : ∃ z, z = 2034 := ⟨_, rfl⟩
    have := top_fv hx fx (z + 64) (by omega)
    rw [hP, Int.natAbs_mul, Nat.pow_add] at this
    have e : (2 : Nat) ^ 64 = (18446744073709551616 : Int).natAbs := by decide
    rw [e] at this
    rw [G34 z hz]
    exact Nat.le_of_lt (Nat.lt_of_mul_lt_mul_right this)
  have hQ : 17179869184 * GG ≤ 3 * QQ := by have := G_Q; omega
  have hU : fvW x * fvW 4318952042648305664 = P * (UU : Int) := by
    obtain ⟨k, hk⟩ : ∃ k, k = 1010 := ⟨_, rfl⟩
    rw [shr_val k hk, hP, U_eq, show EU = 64 + k by rw [hk]; rfl, ← p2c, Nat.pow_add, Int.natCast_mul, Int.mul_assoc]
    congr 2
  obtain ⟨t1, t2⟩ := ti_fin hx shr_fin.2 fx shr_fin.1 hU (by omega)
  have e := t2.own hF
  exact ⟨t1, by rw [e, hP], by rw [e]; exact htop⟩
theorem ti_bits {x y : Nat} (h : finW (tiW x y)) : floatBits .mul .f64 x y = some (tiW x y) := by
  unfold tiW arW at h ⊢
  cases hb : floatBits .mul .f64 x y with
  | some z => rfl
  | none =>
    rw [hb] at h
    exfalso
    revert h
    unfold finW magW
    decide

theorem Fr.set {lo : Nat} {w : World} {v : Value} {L : List Nat} (h : Fr lo w v L) {g : Nat} (hne : v.ownBlock ≠ some g) (i : Nat) (u : Value) : Fr lo (w.setCell ⟨g, i, none⟩ u) v L := by
  refine ⟨h.1, ?_⟩
  rcases h.2 with hn | ⟨g', cap, cur, rfl, hlo, hgc, rest⟩
  · exact .inl hn
  · refine .inr ⟨g', cap, cur, rfl, hlo, ?_, rest⟩
    rw [Below.heap_setCell _ _ _ _ (fun e => hne (by rw [e]; rfl))]; exact hgc

theorem Fr.slice {lo : Nat} {w : World} {v : Value} {L : List Nat} (h : Fr lo w v L) : ∃ ao m cp, v = .slice ao m cp := by
  rcases h.shape with ⟨rfl, _⟩ | ⟨g, cap, rfl, _⟩
  · exact ⟨_, _, _, rfl⟩
  · exact ⟨_, _, _, rfl⟩
/-- What Add and Merge leave: a row is another one. -/
theorem Sx.next {F : Nat → Prop} {w w1 : World} {g n : Nat} {va vb v' : Value} {A' : List Nat} (first : Bool) {X Y : List Nat}
    (h1 : Sk w g n va vb) (h2 : Fr 0 w va X) (h3 : Fr 0 w vb Y) (h4 : ∀ k, va.ownBlock = some k → vb.ownBlock ≠ some k) (h5 : F g) (h6 : ∀ k, va.ownBlock = some k → F k) (h7 : ∀ k, vb.ownBlock = some k → F k)
    (k1 : Fr 0 w1 v' A') (k2 : w.grownBy w1 (if first then va else vb).ownBlock) (k3 : v'.ownBlock = (if first then va else vb).ownBlock ∨ ∃ g, v'.ownBlock = some g ∧ w.heap.size ≤ g) :
    Sk w1 g n va vb ∧ Fr 0 w1 (if first then vb else va) (if first then Y else X) ∧ (∀ k, v'.ownBlock = some k → (if first then vb else va).ownBlock ≠ some k) ∧ (∀ k, v'.ownBlock = some k → Gr F w w1 k) ∧ v'.ownBlock ≠ some g ∧ Tch F w w1 := by
  have hg1 : Sk w1 g n va vb := h1.of_block (k2.block g h1.lt (fun e => by
    cases first
    · exact h1.not_row h3 e.symm
    · exact h1.not_row h2 e.symm))
  refine ⟨hg1, ?_, ?_, ?_, hg1.not_row k1, ?_⟩
  · cases first
    · exact h2.keep k2 (fun k hk => fun e => h4 k hk e)
    · exact h3.keep k2 (fun k hk => fun e => h4 k e hk)
  · intro k hk e
    rcases k3 with q | ⟨g', q, q2⟩
    · rw [q] at hk
      cases first
      · exact h4 k e hk
      · exact h4 k hk e
    · rw [q] at hk
      injection hk with hk
      subst hk
      cases first
      · have := (h2.lt e).2; omega
      · have := (h3.lt e).2; omega
  · intro k hk
    rcases k3 with q | ⟨g', q, q2⟩
    · rw [q] at hk
      left
      cases first
      · exact h7 k hk
      · exact h6 k hk
    · exact .inr ⟨by rw [q] at hk; injection hk with hk; omega, (k1.lt hk).2⟩
  · exact Tch.grown k2 (fun k hk => by
      cases first
      · exact h7 k hk
      · exact h6 k hk)

/-- The end of Add: a row is another one, the count one more. -/
theorem Sx.done {F : Nat → Prop} {w u : World} {g n : Nat} {va vb v' : Value} {A B : List Nat} {V1 V2 V : Int} {c : Nat} (h5 : F g) (h6 : ∀ k, va.ownBlock = some k → F k) (h7 : ∀ k, vb.ownBlock = some k → F k) (h8 : ∀ k, F k → k < w.heap.size)
    (s1 : Sk u g n va vb) (k1 : Fr 0 u v' A) (s2 : Fr 0 u vb B) (s3 : ∀ k, v'.ownBlock = some k → vb.ownBlock ≠ some k) (s4 : ∀ k, v'.ownBlock = some k → Gr F w u k) (s5 : v'.ownBlock ≠ some g) (s6 : Tch F w u)
    (r1 : Rk A V1 (n + 1) c) (r2 : Rk B V2 (n + 1) c) (hV : V = V1 + V2 * 18446744073709551616) (hn : n < 65536) (hb : (n + 1) * 17179869184 + c ≤ 4503599627370496) :
    Sx (Gr F w ((u.setCell ⟨g, 1, none⟩ v').setCell ⟨g, 0, none⟩ (.int .i64 ((n : Int) + 1)))) ((u.setCell ⟨g, 1, none⟩ v').setCell ⟨g, 0, none⟩ (.int .i64 ((n : Int) + 1))) g (n + 1) V c ∧ Tch F w ((u.setCell ⟨g, 1, none⟩ v').setCell ⟨g, 0, none⟩ (.int .i64 ((n : Int) + 1))) := by
  have e : ((n : Int) + 1) = ((n + 1 : Nat) : Int) := by omega
  have hsz : ((u.setCell ⟨g, 1, none⟩ v').setCell ⟨g, 0, none⟩ (.int .i64 ((n : Int) + 1))).heap.size = u.heap.size := by simp [World.setCell]
  have hgr : ∀ k, Gr F w u k → Gr F w ((u.setCell ⟨g, 1, none⟩ v').setCell ⟨g, 0, none⟩ (.int .i64 ((n : Int) + 1))) k := fun k q => by unfold Gr at q ⊢; rw [hsz]; exact q
  have hne : vb.ownBlock ≠ some g := s1.not_row s2
  refine ⟨⟨v', vb, A, B, V1, V2, ?_, (k1.set s5 _ _).set s5 _ _, (s2.set hne _ _).set hne _ _, s3, .inl h5, fun k hk => hgr k (s4 k hk), fun k hk => .inl (h7 k hk), fun k q => ?_, r1, r2, hV, by omega, hb⟩, (s6.set g 1 v' h5).set g 0 _ h5⟩
  · rw [e]; exact (s1.set1 v').set0 (n + 1)
  · unfold Gr at q
    rcases q with q | q
    · rw [hsz]; exact Nat.lt_of_lt_of_le (h8 k q) s6.size
    · exact q.2
theorem Sx.done2 {F : Nat → Prop} {w u : World} {g n : Nat} {va vb v' : Value} {A B : List Nat} {V1 V2 V : Int} {c : Nat} (h5 : F g) (h6 : ∀ k, va.ownBlock = some k → F k) (h7 : ∀ k, vb.ownBlock = some k → F k) (h8 : ∀ k, F k → k < w.heap.size)
    (s1 : Sk u g n va vb) (k1 : Fr 0 u v' B) (s2 : Fr 0 u va A) (s3 : ∀ k, v'.ownBlock = some k → va.ownBlock ≠ some k) (s4 : ∀ k, v'.ownBlock = some k → Gr F w u k) (s5 : v'.ownBlock ≠ some g) (s6 : Tch F w u)
    (r1 : Rk A V1 (n + 1) c) (r2 : Rk B V2 (n + 1) c) (hV : V = V1 + V2 * 18446744073709551616) (hn : n < 65536) (hb : (n + 1) * 17179869184 + c ≤ 4503599627370496) :
    Sx (Gr F w ((u.setCell ⟨g, 2, none⟩ v').setCell ⟨g, 0, none⟩ (.int .i64 ((n : Int) + 1)))) ((u.setCell ⟨g, 2, none⟩ v').setCell ⟨g, 0, none⟩ (.int .i64 ((n : Int) + 1))) g (n + 1) V c ∧ Tch F w ((u.setCell ⟨g, 2, none⟩ v').setCell ⟨g, 0, none⟩ (.int .i64 ((n : Int) + 1))) := by
  have e : ((n : Int) + 1) = ((n + 1 : Nat) : Int) := by omega
  have hsz : ((u.setCell ⟨g, 2, none⟩ v').setCell ⟨g, 0, none⟩ (.int .i64 ((n : Int) + 1))).heap.size = u.heap.size := by simp [World.setCell]
  have hgr : ∀ k, Gr F w u k → Gr F w ((u.setCell ⟨g, 2, none⟩ v').setCell ⟨g, 0, none⟩ (.int .i64 ((n : Int) + 1))) k := fun k q => by unfold Gr at q ⊢; rw [hsz]; exact q
  have hne : va.ownBlock ≠ some g := s1.not_row s2
  refine ⟨⟨va, v', A, B, V1, V2, ?_, (s2.set hne _ _).set hne _ _, (k1.set s5 _ _).set s5 _ _, fun k hk q => s3 k q hk, .inl h5, fun k hk => .inl (h6 k hk), fun k hk => hgr k (s4 k hk), fun k q => ?_, r1, r2, hV, by omega, hb⟩, (s6.set g 2 v' h5).set g 0 _ h5⟩
  · rw [e]; exact (s1.set2 v').set0 (n + 1)
  · unfold Gr at q
    rcases q with q | q
    · rw [hsz]; exact Nat.lt_of_lt_of_le (h8 k q) s6.size
    · exact q.2

set_option maxHeartbeats 2000000 in
theorem add_long8 (F : Nat → Prop) (w : World) (g n : Nat) (V : Int) (c x : Nat) (h : Sx F w g n V c) (hn : 65536 ≤ n) :
    Calls Tryz.prog 49 #[.pointer (some ⟨g, 0, none⟩), .float .f64 x] w fun r w' => r = .returned (.int .i64 2) ∧ w' = w := by
  obtain ⟨va, vb, A, B, V1, V2, h1, _⟩ := h
  obtain ⟨x0, _⟩ := h1.facts
  have hd : decide (65536 ≤ n) = true := by simpa using hn
  have hd2 : decide ((65536 : Int) ≤ (n : Int)) = true := by simp; omega
  clear h1 hn
  go_enter Tryz.func49, Tryz.ntmps49
  go_wp2
  go_ret
  exact ⟨rfl, rfl⟩
set_option maxHeartbeats 2000000 in
theorem add_odd8 (F : Nat → Prop) (w : World) (g n : Nat) (V : Int) (c x : Nat) (h : Sx F w g n V c) (hn : n < 65536) (hx : Wd x) (fx : ¬ finW x) :
    Calls Tryz.prog 49 #[.pointer (some ⟨g, 0, none⟩), .float .f64 x] w fun r w' => r = .returned (.int .i64 30) ∧ w' = w := by
  obtain ⟨va, vb, A, B, V1, V2, h1, _⟩ := h
  obtain ⟨x0, _⟩ := h1.facts
  have HN := hid (isNaN_w x hx w)
  have HI := hid (isInf_w8 x hx w)
  have hor : nanW x = true ∨ (nanW x = false ∧ (magW x == 9218868437227405312) = true) := by
    unfold nanW finW magW at *
    by_cases q : 9218868437227405312 < x % 9223372036854775808
    · left; simpa using q
    · right
      refine ⟨by simpa using q, ?_⟩
      simp only [beq_iff_eq]
      omega
  have hd : decide (65536 ≤ n) = false := by simpa using hn
  have hd2 : decide ((65536 : Int) ≤ (n : Int)) = false := by simp; omega
  clear h1 hx fx hn
  rcases hor with q | ⟨q1, q2⟩
  · rw [q] at HN
    clear HI
    go_enter Tryz.func49, Tryz.ntmps49
    go_wp2_with fail
    with_reducible refine HN.out.mono ?_
    rintro r w1 ⟨rfl, rfl⟩
    go_wp2
    go_ret
    exact ⟨rfl, rfl⟩
  · rw [q1] at HN
    rw [q2] at HI
    go_enter Tryz.func49, Tryz.ntmps49
    go_wp2_with fail
    with_reducible refine HN.out.mono ?_
    rintro r w1 ⟨rfl, rfl⟩
    go_wp2_with fail
    with_reducible refine HI.out.mono ?_
    rintro r w1 ⟨rfl, rfl⟩
    go_wp2
    go_ret
    exact ⟨rfl, rfl⟩
set_option maxHeartbeats 4000000 in
theorem add_ok8 (F : Nat → Prop) (w : World) (g n : Nat) (V : Int) (c x : Nat) (h : Sx F w g n V c) (hn : n < 65536) (hx : Wd x) (fx : finW x) (hb : n * 17179869184 + 17179869184 + c + n ≤ 4503599627370496) :
    Calls Tryz.prog 49 #[.pointer (some ⟨g, 0, none⟩), .float .f64 x] w fun r w' => r = .returned (.int .i64 0) ∧ Sx (Gr F w w') w' g (n + 1) (V + fvW x) (c + n) ∧ Tch F w w' := by
  obtain ⟨va, vb, A, B, V1, V2, h1, h2, h3, h4, h5, h6, h7, h8, r1, r2, r3, r4, r5⟩ := h
  obtain ⟨x0, x1, x2, f0, f1, f2⟩ := h1.facts
  have HN := hid (isNaN_w x hx w)
  have HI := hid (isInf_w8 x hx w)
  have HB := hid (abs_w8 x hx w)
  have q1 : nanW x = false := by unfold nanW; unfold finW magW at fx; simp; omega
  have q2 : (magW x == 9218868437227405312) = false := by simp; unfold finW at fx; omega
  rw [q1] at HN
  rw [q2] at HI
  have hA1 : avL A + A.length * GG + 17179869184 * GG ≤ 4503599627370496 * GG ∧ avL B + B.length * GG + 17179869184 * GG ≤ 4503599627370496 * GG := by
    have e2 : (n * 17179869184 + 17179869184 + c + n) * GG ≤ 4503599627370496 * GG := Nat.mul_le_mul_right _ hb
    rw [dist4] at e2
    have s1 := r1.size
    have s2 := r2.size
    have l1 : A.length * GG ≤ n * GG := Nat.mul_le_mul_right _ r1.len
    have l2 : B.length * GG ≤ n * GG := Nat.mul_le_mul_right _ r2.len
    omega
  have hcmp : ∀ b : Bool, decide (8930638061075693568 ≤ magW x) = b → ((FloatKind.f64.format.order (magW x) 8930638061075693568 == some .gt) || (FloatKind.f64.format.order (magW x) 8930638061075693568 == some .eq)) = b := by
    intro b hb
    have e1 := gt64 false false (magW x) 8930638061075693568 (Nat.le_of_lt fx) (by decide)
    have e2 := eq64 false false (magW x) 8930638061075693568 (Nat.le_of_lt fx) (by decide)
    rw [show wd64 false (magW x) = magW x from rfl, show wd64 false 8930638061075693568 = 8930638061075693568 from rfl] at e1 e2
    rw [e1, e2, ← hb, Bool.eq_iff_iff]
    simp [sK]
    omega
  by_cases hf : magW x < 8930638061075693568
  · have hc := hcmp false (by simpa using hf)
    have HW := hid (with_any 0 va A x w h2 (Nat.zero_le _) r1.fin ⟨hx, fx⟩ (by have := r1.len; omega) (by have := far8 fx hf; omega))
    have HR := Aside.intro (And.intro (r1.with ⟨hx, fx⟩ (far8 fx hf) hb) (r2.mono (Nat.le_add_right n 1) (Nat.le_add_right c n)))
    have HH := Aside.intro (And.intro h1 (And.intro h2 (And.intro h3 (And.intro h4 (And.intro h5 (And.intro h6 (And.intro h7 (And.intro h8 (And.intro r3 (And.intro hn hb))))))))))
    have hd : decide (65536 ≤ n) = false := by simpa using hn
    have hd2 : decide ((65536 : Int) ≤ (n : Int)) = false := by simp; omega
    clear hcmp h1 h2 h3 h4 h5 h6 h7 h8 r1 r2 r3 r4 r5 hA1 q1 q2 hx fx hf hb hn
    go_enter Tryz.func49, Tryz.ntmps49
    go_wp2_with fail
    with_reducible refine HN.out.mono ?_
    rintro r w1 ⟨rfl, rfl⟩
    go_wp2_with fail
    with_reducible refine HI.out.mono ?_
    rintro r w1 ⟨rfl, rfl⟩
    go_wp2_with fail
    with_reducible refine HB.out.mono ?_
    rintro r w1 ⟨rfl, rfl⟩
    go_wp2_with fail
    with_reducible refine HW.out.mono ?_
    rintro r u ⟨v', rfl, k1, k2, k3⟩
    obtain ⟨ao, ml, cp, rfl⟩ := k1.slice
    obtain ⟨h1, h2, h3, h4, h5, h6, h7, h8, r3, hn, hb⟩ := HH.out
    obtain ⟨s1, s2, s3, s4, s5, s6⟩ := Sx.next true h1 h2 h3 h4 h5 h6 h7 k1 k2 k3
    obtain ⟨y0, y1, y2, e0, e1, e2⟩ := s1.facts
    have HZ := Aside.intro (Sx.done h5 h6 h7 h8 s1 k1 s2 s3 s4 s5 s6 HR.out.1 HR.out.2 (show V + fvW x = (V1 + fvW x) + V2 * 18446744073709551616 by omega) hn (by omega))
    clear h1 h2 h3 h4 h5 h6 h7 h8 r3 hn hb s1 s2 s3 s4 s5 s6 k1 k2 k3 x0 x1 x2 f0 f1 f2
    have hn6 : n < 100000 := by have := HH.out.2.2.2.2.2.2.2.2.2.1; omega
    clear HH HR
    go_wp2
    go_ret
    exact ⟨rfl, HZ.out⟩
  · have hc := hcmp true (by simpa using hf)
    obtain ⟨y1, y2, y3⟩ := shrink8 hx fx hf
    have hy0 : Wd (tiW x 4318952042648305664) := (bits_fin (op := .mul) (.inr (.inr rfl)) (ti_bits y1)).2
    have d := run_float_arith (P := Tryz.prog) w .mul 38 .f64 x 4318952042648305664 (tiW x 4318952042648305664) (ti_bits y1)
    obtain ⟨y, hy⟩ : ∃ y, y = tiW x 4318952042648305664 := ⟨_, rfl⟩
    rw [← hy] at y1 y2 y3 hy0 d
    have HY := Aside.intro y2
    have HW := hid (with_any 0 vb B y w h3 (Nat.zero_le _) r2.fin ⟨hy0, y1⟩ (by have := r2.len; omega) (by omega))
    have HR := Aside.intro (And.intro (r1.mono (Nat.le_add_right n 1) (Nat.le_add_right c n)) (r2.with ⟨hy0, y1⟩ y3 hb))
    have HH := Aside.intro (And.intro h1 (And.intro h2 (And.intro h3 (And.intro h4 (And.intro h5 (And.intro h6 (And.intro h7 (And.intro h8 (And.intro r3 (And.intro hn hb))))))))))
    have hd : decide (65536 ≤ n) = false := by simpa using hn
    have hd2 : decide ((65536 : Int) ≤ (n : Int)) = false := by simp; omega
    clear hcmp h1 h2 h3 h4 h5 h6 h7 h8 r1 r2 r3 r4 r5 hA1 q1 q2 hx fx hf hb hn hy y1 y2 y3 hy0
    go_enter Tryz.func49, Tryz.ntmps49
    go_wp2_with fail
    with_reducible refine HN.out.mono ?_
    rintro r w1 ⟨rfl, rfl⟩
    go_wp2_with fail
    with_reducible refine HI.out.mono ?_
    rintro r w1 ⟨rfl, rfl⟩
    go_wp2_with fail
    with_reducible refine HB.out.mono ?_
    rintro r w1 ⟨rfl, rfl⟩
    go_wp2_with (simp only [d])
    with_reducible refine HW.out.mono ?_
    rintro r u ⟨v', rfl, k1, k2, k3⟩
    obtain ⟨ao, ml, cp, rfl⟩ := k1.slice
    obtain ⟨h1, h2, h3, h4, h5, h6, h7, h8, r3, hn, hb⟩ := HH.out
    obtain ⟨s1, s2, s3, s4, s5, s6⟩ := Sx.next false h1 h2 h3 h4 h5 h6 h7 k1 k2 k3
    obtain ⟨y0, y1, y2, e0, e1, e2⟩ := s1.facts
    have HZ := Aside.intro (Sx.done2 h5 h6 h7 h8 s1 k1 s2 s3 s4 s5 s6 HR.out.1 HR.out.2 (show V + fvW x = V1 + (V2 + fvW y) * 18446744073709551616 by have := HY.out; omega) hn (by omega))
    clear h1 h2 h3 h4 h5 h6 h7 h8 r3 hn hb s1 s2 s3 s4 s5 s6 k1 k2 k3 x0 x1 x2 f0 f1 f2
    have hn6 : n < 100000 := by have := HH.out.2.2.2.2.2.2.2.2.2.1; omega
    clear HH HR
    go_wp2
    go_ret
    exact ⟨rfl, HZ.out⟩
end Go.Proofs.YtnnlicahgdcbdaaGreatDoor

/- Merge. -/
namespace Go.Proofs.YtnnlicahgdcbdaaGreatDoor
open Go.RowKit
set_option linter.unusedVariables false
set_option maxRecDepth 20000
set_option linter.unusedSimpArgs false

theorem bdrewN {B : Nat} {a w : World} (h : Below B a w) (n : Nat) : Below B a (w.drewN n) := h.trans ⟨rfl, rfl, rfl, Nat.le_refl _, fun _ _ => rfl⟩
set_option maxHeartbeats 2000000 in
theorem merge_long8 (w : World) (g gb n m : Nat) (va vb ua ub : Value) (h1 : Sk w g n va vb) (h2 : Sk w gb m ua ub) (hn : n ≤ 65536) (hm : m ≤ 65536) (hb : 65536 < n + m) :
    Calls Tryz.prog 52 #[.pointer (some ⟨g, 0, none⟩), .pointer (some ⟨gb, 0, none⟩)] w fun r w' => r = .returned (.int .i64 2) ∧ Below w.heap.size w w' := by
  obtain ⟨x0, _⟩ := h1.facts
  obtain ⟨y0, _⟩ := h2.facts
  have hd : decide (65536 < n + m) = true := by simpa using hb
  have hd2 : decide ((65536 : Int) < (n : Int) + (m : Int)) = true := by simp; omega
  have hn9 : n < 100000 := by omega
  have hm9 : m < 100000 := by omega
  clear h1 h2 hb hn hm
  go_enter Tryz.func52, Tryz.ntmps52
  go_wp2
  go_quiet (fail)
  go_wp2
  go_ret
  exact ⟨rfl, bdrewN (Below.refl _ _) _⟩

/-- What stands ahead of Merge's second step. -/
structure Mg (w : World) (g gb n m : Nat) (va vb ua ub v' : Value) (u : World) : Prop where
  s : Sk u g n v' vb
  b1 : u.cell? ⟨gb, 2, none⟩ = some ub
  b0 : u.cell? ⟨gb, 0, none⟩ = some (.int .i64 (m : Nat))
set_option maxHeartbeats 8000000 in
theorem merge_core8 (w : World) (g gb n m : Nat) (va vb ua ub : Value) (AB BB : List Nat) (h1 : Sk w g n va vb) (h2 : Sk w gb m ua ub) (hb : n + m ≤ 65536)
    (HM : Hid (∀ u, Below w.heap.size w u → Calls Tryz.prog 111 #[va, ua] u fun r u' => ∃ v', r = .returned v' ∧ Fr 0 u' v' AB ∧ u.grownBy u' va.ownBlock ∧ (v'.ownBlock = va.ownBlock ∨ ∃ g, v'.ownBlock = some g ∧ u.heap.size ≤ g)))
    (HM2 : Hid (∀ u, Tch (fun k => k = g ∨ va.ownBlock = some k) w u → Calls Tryz.prog 111 #[vb, ub] u fun r u' => ∃ v', r = .returned v' ∧ Fr 0 u' v' BB ∧ u.grownBy u' vb.ownBlock ∧ (v'.ownBlock = vb.ownBlock ∨ ∃ g, v'.ownBlock = some g ∧ u.heap.size ≤ g)))
    (hva : va.ownBlock ≠ some g ∧ va.ownBlock ≠ some gb) (hvb : vb.ownBlock ≠ some g ∧ vb.ownBlock ≠ some gb) :
    Calls Tryz.prog 52 #[.pointer (some ⟨g, 0, none⟩), .pointer (some ⟨gb, 0, none⟩)] w fun r w' => r = .returned (.int .i64 0) ∧
      ∃ v1 v2 w1 w2, Fr 0 w1 v1 AB ∧ w.grownBy w1 va.ownBlock ∧ (v1.ownBlock = va.ownBlock ∨ ∃ g, v1.ownBlock = some g ∧ w.heap.size ≤ g) ∧
        Fr 0 w2 v2 BB ∧ (w1.setCell ⟨g, 1, none⟩ v1).grownBy w2 vb.ownBlock ∧ (v2.ownBlock = vb.ownBlock ∨ ∃ g, v2.ownBlock = some g ∧ w1.heap.size ≤ g) ∧
        But g w2 w' ∧ Sk w' g (n + m) v1 v2 := by
  obtain ⟨x0, x1, x2, xf0, xf1, xf2⟩ := h1.facts
  obtain ⟨y0, y1, y2, yf0, yf1, yf2⟩ := h2.facts
  have hd : decide (65536 < n + m) = false := by simpa using hb
  have hd2 : decide ((65536 : Int) < (n : Int) + (m : Int)) = false := by simp; omega
  have HH := Aside.intro (And.intro h1 (And.intro h2 (And.intro hb (And.intro hva hvb))))
  have hn9 : n < 100000 := by omega
  have hm9 : m < 100000 := by omega
  clear h1 h2 hb hva hvb
  go_enter Tryz.func52, Tryz.ntmps52
  go_wp2
  go_quiet (fail)
  go_wp2
  go_region_with (first
    | (go_at_call 111
       with_reducible refine (HM.out _ (by first | exact bdrewN (Below.refl _ _) _ | exact (bdrewN (Below.refl _ _) _).drew)).mono ?_
       rintro r u ⟨v', rfl, k1, k2, k3⟩
       obtain ⟨ao, ml, cp, rfl⟩ := k1.slice
       have hs1 : Sk u g n va vb := HH.out.1.of_block (k2.block g HH.out.1.lt (fun e => HH.out.2.2.2.1.1 e.symm))
       have hs2 : Sk u gb m ua ub := HH.out.2.1.of_block (k2.block gb HH.out.2.1.lt (fun e => HH.out.2.2.2.1.2 e.symm))
       obtain ⟨p0, p1, p2, pf0, pf1, pf2⟩ := hs1.facts
       have k2' : w.grownBy u va.ownBlock := ⟨k2.os, k2.tape, k2.output, k2.size, fun k hk hne => k2.block k hk hne⟩
       have k3' : (Value.slice ao ml cp).ownBlock = va.ownBlock ∨ ∃ g, (Value.slice ao ml cp).ownBlock = some g ∧ w.heap.size ≤ g := k3
       have K := Aside.intro (And.intro k1 (And.intro k2' (And.intro k3' (And.intro hs1 hs2))))
       clear k1 k2 k3 hs1 hs2 k2' k3'))
  all_goals (
    clear HM x0 x1 x2 xf0 xf1 xf2 y0 y1 y2 yf0 yf1 yf2 p0 p1 p2 pf0 pf1 pf2
    obtain ⟨U, hU⟩ : ∃ U, U = u.setCell ⟨g, 1, none⟩ (.slice ao ml cp) := ⟨_, rfl⟩
    rw [← hU]
    have hS : Sk U g n (.slice ao ml cp) vb := by rw [hU]; exact K.out.2.2.2.1.set1 _
    have hB : U.cell? ⟨gb, 2, none⟩ = some ub ∧ U.cell? ⟨gb, 0, none⟩ = some (.int .i64 (m : Nat)) := by
      by_cases e : gb = g
      · subst e
        obtain ⟨z0, _, z2, _⟩ := hS.facts
        obtain ⟨t0, _, t2, _⟩ := K.out.2.2.2.2.facts
        obtain ⟨s0, _, s2, _⟩ := K.out.2.2.2.1.facts
        exact ⟨by rw [z2, ← s2, t2], by rw [z0, ← s0, t0]⟩
      · have e2 : U.heap[gb]? = u.heap[gb]? := by rw [hU]; exact Below.heap_setCell _ _ _ _ e
        obtain ⟨t0, _, t2, _⟩ := (K.out.2.2.2.2.of_block e2).facts
        exact ⟨t2, t0⟩
    have hTc : Tch (fun k => k = g ∨ va.ownBlock = some k) w U := by
      rw [hU]
      exact (Tch.grown K.out.2.1 (fun k hk => .inr hk)).set g 1 _ (.inl rfl)
    have HT := Aside.intro (And.intro hS (And.intro hB hTc))
    obtain ⟨x0, x1, x2, xf0, xf1, xf2⟩ := hS.facts
    obtain ⟨y2, y0⟩ := hB
    have HUU := Aside.intro hU
    clear hS hTc hU
    go_wp2
    go_region_with (first
      | (go_at_call 111
         with_reducible refine (HM2.out _ (by first | exact HT.out.2.2 | exact HT.out.2.2.trans' (Tch.of_below (Below.refl _ _).drew))).mono ?_
         rintro r u2 ⟨v2, rfl, k1, k2, k3⟩
         obtain ⟨ao2, ml2, cp2, rfl⟩ := k1.slice
         have hs1 : Sk u2 g n (.slice ao ml cp) vb := HT.out.1.of_block (k2.block g HT.out.1.lt (fun e => HH.out.2.2.2.2.1 e.symm))
         obtain ⟨p0, p1, p2, pf0, pf1, pf2⟩ := hs1.facts
         have q0 : u2.cell? ⟨gb, 0, none⟩ = some (.int .i64 (m : Nat)) := by
           have e2 : u2.heap[gb]? = U.heap[gb]? := k2.block gb (Nat.lt_of_lt_of_le HH.out.2.1.lt HT.out.2.2.size) (fun e => HH.out.2.2.2.2.2 e.symm)
           rw [World.cell?_of_block (a := ⟨gb, 0, none⟩) e2]
           exact HT.out.2.1.2
         have k2' : U.grownBy u2 vb.ownBlock := ⟨k2.os, k2.tape, k2.output, k2.size, fun k hk hne => k2.block k hk hne⟩
         have k3' : (Value.slice ao2 ml2 cp2).ownBlock = vb.ownBlock ∨ ∃ g, (Value.slice ao2 ml2 cp2).ownBlock = some g ∧ U.heap.size ≤ g := k3
         have K2 := Aside.intro (And.intro k1 (And.intro k2' (And.intro k3' (And.intro hs1 q0))))
         clear k1 k2 k3 hs1 k2' k3'))
    all_goals (
      clear HM2 x0 x1 x2 xf0 xf1 xf2 y0 y2 p0 p1 p2 pf0 pf1 pf2 q0
      obtain ⟨U2, hU2⟩ : ∃ U, U = u2.setCell ⟨g, 2, none⟩ (.slice ao2 ml2 cp2) := ⟨_, rfl⟩
      rw [← hU2]
      have hS2 : Sk U2 g n (.slice ao ml cp) (.slice ao2 ml2 cp2) := by rw [hU2]; exact K2.out.2.2.2.1.set2 _
      have q0 : U2.cell? ⟨gb, 0, none⟩ = some (.int .i64 (m : Nat)) := by
        by_cases e : gb = g
        · have e0 := hS2.facts.1
          have e1 := K2.out.2.2.2.1.facts.1
          have e3 := K2.out.2.2.2.2
          rw [e] at e3 ⊢
          rw [e0, ← e1, e3]
        · rw [World.cell?_of_block (a := ⟨gb, 0, none⟩) (show U2.heap[gb]? = u2.heap[gb]? by rw [hU2]; exact Below.heap_setCell _ _ _ _ e)]
          exact K2.out.2.2.2.2
      obtain ⟨x0, x1, x2, xf0, xf1, xf2⟩ := hS2.facts
      have HU2 := Aside.intro (And.intro hU2 hS2)
      clear hU2 hS2
      go_wp2
      go_region_with (fail)
      all_goals (
        go_wp2
        go_ret
        have hUe := HUU.out
        obtain ⟨hU2e, hS2e⟩ := HU2.out
        refine ⟨rfl, .slice ao ml cp, .slice ao2 ml2 cp2, u, u2, K.out.1, K.out.2.1, K.out.2.2.1, K2.out.1, hUe ▸ K2.out.2.1, ?_, ?_, ?_⟩
        · rcases K2.out.2.2.1 with q | ⟨g', q, q2⟩
          · exact .inl q
          · exact .inr ⟨g', q, by rw [hUe] at q2; simpa [World.setCell] using q2⟩
        · have b1 : But g u2 U2 := by rw [hU2e]; exact (But.refl _ _).set 2 _
          first
            | exact b1.trans ((But.refl g U2).set 0 _).drew
            | exact b1.trans ((But.refl g U2).set 0 _)
        · have hw : IntKind.i64.wrap ((n : Int) + (m : Int)) = ((n + m : Nat) : Int) := by rw [IntKind.wrap_i64]; omega
          have e : ((n : Int) + (m : Int)) = ((n + m : Nat) : Int) := by omega
          first
            | (rw [hw]; exact hS2e.set0 (n + m))
            | (rw [e]; exact hS2e.set0 (n + m)))))
end Go.Proofs.YtnnlicahgdcbdaaGreatDoor

/- Parts: the nearest finite number, what is left, how long it goes on. -/
namespace Go.Proofs.YtnnlicahgdcbdaaGreatDoor
open Go.RowKit J
set_option linter.unusedVariables false
set_option maxRecDepth 20000
set_option linter.unusedSimpArgs false

/-- An infinity made the greatest number of its sign. -/
def clW (x : Nat) : Nat := if magW x == 9218868437227405312 then x - 1 else x
/-- The nearest finite number. -/
def nrW (V : Int) : Nat := clW (rndS (fo8 V) 0).1
/-- What Parts tells of V. -/
def IsParts : Int → List Nat → Prop
  | V, [] => V = 0
  | V, x :: l => V ≠ 0 ∧ x = nrW V ∧ IsParts (V - fvW x) l
theorem IsParts.one {V : Int} {l k : List Nat} (h : IsParts V l) (h2 : IsParts V k) : l = k := by
  induction l generalizing V k with
  | nil =>
    cases k with
    | nil => rfl
    | cons y k => exact absurd h h2.1
  | cons x l ih =>
    cases k with
    | nil => exact absurd h2 h.1
    | cons y k =>
      obtain ⟨_, rfl, h3⟩ := h
      obtain ⟨_, rfl, h4⟩ := h2
      rw [ih h3 h4]

theorem ex_ne (V : Nat) (hV : V ≠ 0) : ∃ R, NE R V 1 := by
  obtain ⟨R, _, h⟩ := nearest_ne false V 0 0 hV
  exact ⟨R, by simpa using h⟩
/-- What is rounded, by its nearest rung. -/
theorem rnd_ne (V : Int) (m : Nat) (hm : m ≤ 200000) (hV : V.natAbs < 2 ^ m) (h0 : V ≠ 0) {R : Nat} (hR : NE R V.natAbs 1) :
    rndS (fo8 V) 0 = (wd64 (decide (V < 0)) (min R 9218868437227405312), 0) := by
  obtain ⟨n, X, e, h1, F, h2, h3, _⟩ := fo8_frm V m hm hV
  have hf := fo8_fo V m hm hV
  rw [h1] at hf ⊢
  have hU := U_pos
  have hT : V * (UU : Int) ≠ 0 := fun q => by
    rcases Int.mul_eq_zero.1 q with q | q
    · exact h0 q
    · omega
  obtain ⟨hX, hn, hw⟩ := round_fo hf hT
  have hs := hR.scale UU hU
  rw [Nat.one_mul] at hs
  have e1 : (V * (UU : Int)).natAbs = V.natAbs * UU := by rw [Int.natAbs_mul, Int.natAbs_natCast]
  rw [rndS_form 0 n X e (by omega) (by omega), hw R (by rw [e1]; exact hs)]
  unfold rS
  rw [if_neg hX, h3 h0]
theorem sg_neg (s : Bool) (v : Nat) : B.sg s v = if s then -(v : Int) else v := by cases s <;> rfl
theorem maxV (a : Nat) (ha : a = 2045) : vK 9218868437227405311 = 9007199254740991 * 2 ^ a := by
  have e := vK_word a 9007199254740991 (.inr (by decide)) (by decide)
  rw [show a * 4503599627370496 + 9007199254740991 = 9218868437227405311 by omega] at e
  exact e
theorem magW_cl (s : Bool) : clW (wd64 s 9218868437227405312) = wd64 s 9218868437227405311 := by cases s <;> decide
/-- What the nearest finite number is: either the nearest number, or the greatest one, where the sum lies beyond. -/
theorem nr_any (V : Int) (m : Nat) (hm : m ≤ 200000) (hV : V.natAbs < 2 ^ m) (h0 : V ≠ 0) :
    (Wd (nrW V) ∧ finW (nrW V)) ∧ ((nrW V = (rndS (fo8 V) 0).1 ∧ finW (rndS (fo8 V) 0).1 ∧ IsRn V (fvW (nrW V))) ∨
      ((rndS (fo8 V) 0).1 = wd64 (decide (V < 0)) 9218868437227405312 ∧ nrW V = wd64 (decide (V < 0)) 9218868437227405311 ∧ fvW (nrW V) = B.sg (decide (V < 0)) (vK 9218868437227405311) ∧ vK 9218868437227405311 ≤ V.natAbs)) := by
  obtain ⟨R, hR⟩ := ex_ne V.natAbs (by omega)
  have hr := rnd_ne V m hm hV h0 hR
  unfold nrW
  rw [hr]
  simp only
  by_cases hi : R < 9218868437227405312
  · rw [Nat.min_eq_left (by omega)]
    obtain ⟨g1, g2, g3⟩ := magW_wd (decide (V < 0)) R (by omega)
    have hc : clW (wd64 (decide (V < 0)) R) = wd64 (decide (V < 0)) R := by
      unfold clW
      rw [g1, if_neg (by simp; omega)]
    rw [hc]
    obtain ⟨f1, f2⟩ := fv_wd (decide (V < 0)) R hi
    refine ⟨⟨g3, f1⟩, .inl ⟨rfl, f1, ?_⟩⟩
    rw [f2]
    exact ne_rn hR (fun _ => rfl)
  · rw [Nat.min_eq_right (by omega), magW_cl]
    obtain ⟨g1, g2, g3⟩ := magW_wd (decide (V < 0)) 9218868437227405311 (by omega)
    obtain ⟨f1, f2⟩ := fv_wd (decide (V < 0)) 9218868437227405311 (by omega)
    refine ⟨⟨g3, f1⟩, .inr ⟨rfl, rfl, f2, ?_⟩⟩
    have hd : (vK (R - 1) + vK R) * 1 ≤ 2 * V.natAbs := hR.dn (by omega)
    have h1 : vK 9218868437227405311 ≤ vK (R - 1) := vmono (by omega)
    have h2 : vK 9218868437227405311 ≤ vK R := vmono (by omega)
    rw [Nat.mul_one] at hd
    omega
def EL : Nat := 2097
def ET : Nat := 2117
/-- How long it goes on at most. -/
def stp (V : Int) : Nat := V.natAbs / 2 ^ EL + bl V.natAbs
theorem stp_less (V : Int) (m : Nat) (hm : m ≤ 200000) (hV : V.natAbs < 2 ^ m) (h0 : V ≠ 0) : stp (V - fvW (nrW V)) < stp V ∧ (V - fvW (nrW V)).natAbs < V.natAbs := by
  obtain ⟨_, h | ⟨_, _, h3, h4⟩⟩ := nr_any V m hm hV h0
  · have hr := h.2.2.rel
    generalize fvW (nrW V) = s at *
    have e : (s - V).natAbs = (V - s).natAbs := by omega
    rw [e] at hr
    have hlt : (V - s).natAbs < V.natAbs := by omega
    refine ⟨?_, hlt⟩
    unfold stp
    have hd : (V - s).natAbs / 2 ^ EL ≤ V.natAbs / 2 ^ EL := Nat.div_le_div_right (by omega)
    have hb : bl (V - s).natAbs < bl V.natAbs := by
      by_cases hz : (V - s).natAbs = 0
      · rw [hz]
        have : 0 < bl V.natAbs := (bl_gt _ 0).2 (by simp; omega)
        have : bl 0 = 0 := by decide
        omega
      · have h1 := bl_mul_pow 1 (V - s).natAbs hz
        have h2 := bl_mono (X := 2 ^ 1 * (V - s).natAbs) (Y := V.natAbs) (by omega)
        omega
    omega
  · obtain ⟨a, ha⟩ : ∃ a, a = 2045 := ⟨_, rfl⟩
    have hp : (2 : Nat) ^ EL ≤ vK 9218868437227405311 := by
      rw [maxV a ha, show EL = 52 + a by unfold EL; omega, Nat.pow_add]
      exact Nat.mul_le_mul_right _ (by decide)
    have h1 : 0 < (2 : Nat) ^ EL := Nat.two_pow_pos _
    have hs : (V - fvW (nrW V)).natAbs = V.natAbs - vK 9218868437227405311 := by
      rw [h3, sg_neg]
      by_cases hn : V < 0
      · rw [decide_eq_true hn, if_pos rfl]; omega
      · rw [decide_eq_false hn, if_neg (by decide)]; omega
    generalize vK 9218868437227405311 = M at *
    refine ⟨?_, by rw [hs]; omega⟩
    unfold stp
    rw [hs]
    have h2 := bl_mono (X := V.natAbs - M) (Y := V.natAbs) (by omega)
    have h3 : (V.natAbs - M) / 2 ^ EL < V.natAbs / 2 ^ EL := by
      generalize (2 : Nat) ^ EL = q at *
      have : (V.natAbs - M) / q ≤ (V.natAbs - q) / q := Nat.div_le_div_right (by omega)
      have e : (V.natAbs - q) / q + 1 = V.natAbs / q := by
        rw [← Nat.add_div_right _ h1, Nat.sub_add_cancel (by omega)]
      omega
    omega
theorem stp_top (V : Int) (hV : V.natAbs < 2 ^ ET) : stp V ≤ 1100000 := by
  unfold stp
  have h1 := blLe hV
  have h2 : V.natAbs / 2 ^ EL ≤ 1048576 := by
    refine Nat.le_of_lt_succ (Nat.div_lt_of_lt_mul ?_)
    rw [show ET = EL + 20 from rfl, Nat.pow_add] at hV
    have : (2 : Nat) ^ 20 = 1048576 := by decide
    rw [this] at hV
    exact Nat.lt_of_lt_of_le hV (Nat.mul_le_mul_left _ (by decide))
  have h3 : ET = 2117 := rfl
  omega
theorem stp_zero {V : Int} (h : stp V = 0) : V = 0 := by
  unfold stp at h
  have h1 : bl V.natAbs = 0 := by
    generalize V.natAbs / 2 ^ EL = q at *
    omega
  by_cases h0 : V = 0
  · exact h0
  · have : 0 < bl V.natAbs := (bl_gt _ 0).2 (by simp; omega)
    omega
end Go.Proofs.YtnnlicahgdcbdaaGreatDoor

/- Parts. -/
namespace Go.Proofs.YtnnlicahgdcbdaaGreatDoor
open Go.RowKit J
set_option linter.unusedVariables false
set_option maxRecDepth 20000
set_option linter.unusedSimpArgs false

theorem sub_any8 (V U : Int) (m : Nat) (hm : m ≤ 100000) (hV : V.natAbs < 2 ^ m) (hU : U.natAbs < 2 ^ m) (w : World) (a b : Option Addr) (c d : Nat) (hT : Tab w) (h1 : Arg w a (ws (dX (fo8 V))).length c (ws (dX (fo8 V)))) (h2 : Arg w b (ws (dX (fo8 U))).length d (ws (dX (fo8 U)))) :
    Calls Tryz.prog 75 #[.agg #[.bool (dN (fo8 V)), .slice a (ws (dX (fo8 V))).length c, .int .i64 (dE (fo8 V))], .agg #[.bool (dN (fo8 U)), .slice b (ws (dX (fo8 U))).length d, .int .i64 (dE (fo8 U))]] w fun r w' =>
      (∃ v, r = .returned (.tuple #[.agg #[.bool (dN (fo8 (V - U))), v, .int .i64 (dE (fo8 (V - U)))], .int .i64 0]) ∧ Nt w.heap.size w' v (dX (fo8 (V - U)))) ∧ Below w.heap.size w w' := by
  obtain ⟨l1, l2, l3, _⟩ := fo8_len V m (by omega) hV
  obtain ⟨k1, k2, k3, _⟩ := fo8_len U m (by omega) hU
  have := Sub_any3 h1 h2 hT (dN (fo8 V)) (dN (fo8 U)) (dE (fo8 V)) (dE (fo8 U)) l2 l3 k2 k3
  rw [val_ws, val_ws, fo8_self V m (by omega) hV, fo8_neg U m (by omega) hU, fo8_add V (-U) m hm hV (by omega), show V + -U = V - U by omega] at this
  refine this.mono ?_
  rintro r w' ⟨⟨v, rfl, hN⟩, hb⟩
  have e2 : 2 ^ (m + 1) = 2 * 2 ^ m := by rw [Nat.pow_succ, Nat.mul_comm]
  rw [fo8_er (V - U) (m + 1) (by omega) (by omega)]
  exact ⟨⟨v, rfl, hN⟩, hb⟩
theorem round_any8 (V : Int) (m : Nat) (hm : m ≤ 100000) (hV : V.natAbs < 2 ^ m) (mode : Int) (w : World) (a : Option Addr) (c : Nat) (hT : Tab w) (h1 : Arg w a (ws (dX (fo8 V))).length c (ws (dX (fo8 V)))) :
    Calls Tryz.prog 70 #[.agg #[.bool (dN (fo8 V)), .slice a (ws (dX (fo8 V))).length c, .int .i64 (dE (fo8 V))], .int .i64 mode] w fun r w' =>
      r = .returned (.tuple #[.float .f64 (rndS (fo8 V) mode).1, .int .i64 (rndS (fo8 V) mode).2]) ∧ Below w.heap.size w w' := by
  obtain ⟨l1, l2, l3, _⟩ := fo8_len V m (by omega) hV
  have := Round_any h1 hT (dN (fo8 V)) (dE (fo8 V)) mode l2 l3
  rw [val_ws, fo8_self V m (by omega) hV] at this
  exact this
theorem sgn_fo8 (V : Int) (m : Nat) (hm : m ≤ 200000) (hV : V.natAbs < 2 ^ m) : (sgn (dN (fo8 V)) (dX (fo8 V)) == 0) = decide (V = 0) := by
  obtain ⟨n, X, e, h1, F, h2, h3, _⟩ := fo8_frm V m hm hV
  rw [h1]
  show (sgn n X == 0) = _
  rw [Bool.eq_iff_iff]
  simp only [beq_iff_eq, decide_eq_true_eq]
  rw [← h2]
  unfold sgn
  by_cases hX : X = 0
  · simp [hX]
  · cases n <;> simp [hX]
end Go.Proofs.YtnnlicahgdcbdaaGreatDoor

/- The program's Parts. -/
namespace Go.Proofs.YtnnlicahgdcbdaaGreatDoor
open Go.RowKit J
set_option linter.unusedVariables false
set_option maxRecDepth 20000
set_option linter.unusedSimpArgs false

theorem Tryz.desc_f8 : Tryz.prog.underlying 66 = some (.slice 38) := by kernel_rfl
/-- A number put behind a row. -/
theorem append_f8 (w : World) (lo : Nat) (v : Value) (l : List Nat) (x s : Nat) (hown : Fr lo w v l) (hx : w.cell? ⟨s, 0, none⟩ = some (.float .f64 x)) (hl : l.length ≤ 2000000) (hlo : lo ≤ w.heap.size) :
    ∃ v' w', (Builtin.append_ #[66, 66] 66 #[v, .slice (some ⟨s, 0, none⟩) 1 1]).run Tryz.prog w = .ok v' w' ∧ Fr lo w' v' (l ++ [x]) ∧ w.grownBy w' v.ownBlock := by
  obtain ⟨i0, hi, hz0, hz1, hz2⟩ := info_parts Tryz.info_f8
  obtain ⟨v', w', r1, r2, r3, _, r5⟩ := run_append_own_at (P := Tryz.prog) w lo 66 66 38 i0 (.float .f64 0) 1 8 Tryz.desc_f8 hi hz0 hz1 hz2 rfl (by decide) v l.length (l.map Fw) hown ⟨s, 0, none⟩ 1 1 [.float .f64 x] rfl (by
      intro j u hj
      match j, hj with
      | 0, hj => simp at hj; subst hj; simpa [Addr.add] using hx) (by intro u hu; simp at hu; subst hu; rfl) (by unfold maxLen; omega) (by omega) hlo
  exact ⟨v', w', r1, by unfold Fr; rw [List.length_append, List.map_append]; exact r2, r3⟩
/-- Words and Dyads stay where a row of numbers grows. -/
theorem Nt.fr8 {lo lo' : Nat} {w w' : World} {v u : Value} {X : Nat} {L : List Nat} (h : Nt lo w v X) (hf : Fr lo' w u L) (hb : w.grownBy w' u.ownBlock) : Nt lo w' v X := by
  refine ⟨h.1, ?_⟩
  rcases h.2 with hn | ⟨g', cap, cur, rfl, hlo, hgc, rest⟩
  · exact .inl hn
  · refine .inr ⟨g', cap, cur, rfl, hlo, (hb.block g' (Array.getElem?_eq_some_iff.1 hgc).1 ?_).trans hgc, rest⟩
    intro e
    rcases hf.2 with ⟨rfl, _⟩ | ⟨g2, cap2, cur2, rfl, _, hg2, _⟩
    · simp [Value.ownBlock] at e
    · simp [Value.ownBlock] at e
      subst e
      rw [hg2] at hgc
      cases hgc
theorem Dk.fr8 {lo' : Nat} {w w' : World} {u v : Value} {L : List Nat} {g : Nat} {n : Bool} {e : Int} (h : Dk w g n v e) (hf : Fr lo' w u L) (hb : w.grownBy w' u.ownBlock) : Dk w' g n v e := by
  unfold Dk at h ⊢
  rw [hb.block g (Array.getElem?_eq_some_iff.1 h).1 ?_]
  · exact h
  · intro e
    rcases hf.2 with ⟨rfl, _⟩ | ⟨g2, cap2, cur2, rfl, _, hg2, _⟩
    · simp [Value.ownBlock] at e
    · simp [Value.ownBlock] at e
      subst e
      rw [hg2] at h
      cases h
theorem Fr.but8 {lo : Nat} {w w' : World} {v u : Value} {L : List Nat} {g : Nat} {n : Bool} {e : Int} (h : Fr lo w v L) (hD : Dk w g n u e) (hb : But g w w') : Fr lo w' v L := by
  refine ⟨h.1, ?_⟩
  rcases h.2 with hn | ⟨g', cap, cur, rfl, hlo, hgc, rest⟩
  · exact .inl hn
  · refine .inr ⟨g', cap, cur, rfl, hlo, (hb.block g' (Array.getElem?_eq_some_iff.1 hgc).1 ?_).trans hgc, rest⟩
    rintro rfl
    unfold Dk at hD
    rw [hD] at hgc
    cases hgc
theorem Nt.dk9 {lo : Nat} {w w' : World} {v : Value} {X : Nat} (h : Nt lo w v X) {g : Nat} {n : Bool} {u : Value} {e : Int} (hD : Dk w g n u e) (hb : But g w w') : Nt lo w' v X := by
  refine ⟨h.1, ?_⟩
  rcases h.2 with hn | ⟨g', cap, cur, rfl, hlo, hgc, rest⟩
  · exact .inl hn
  · refine .inr ⟨g', cap, cur, rfl, hlo, (hb.block g' (Array.getElem?_eq_some_iff.1 hgc).1 ?_).trans hgc, rest⟩
    rintro rfl
    unfold Dk at hD
    rw [hD] at hgc
    cases hgc
section
attribute [local go_sem] B.f64bits B.f64frombits
set_option maxHeartbeats 1000000 in
theorem copy_up8 (w : World) : Calls Tryz.prog 73 #[.float .f64 9218868437227405311, .float .f64 9218868437227405312] w fun r w' => r = .returned (.float .f64 9218868437227405311) ∧ w' = w := by
  go_enter Tryz.func73, Tryz.ntmps73
  go_wp2
  go_ret
  exact ⟨rfl, rfl⟩
set_option maxHeartbeats 1000000 in
theorem copy_dn8 (w : World) : Calls Tryz.prog 73 #[.float .f64 9218868437227405311, .float .f64 18442240474082181120] w fun r w' => r = .returned (.float .f64 18442240474082181119) ∧ w' = w := by
  go_enter Tryz.func73, Tryz.ntmps73
  go_wp2
  go_ret
  exact ⟨rfl, rfl⟩
end
theorem copy_any8 (s : Bool) (w : World) : Calls Tryz.prog 73 #[.float .f64 9218868437227405311, .float .f64 (wd64 s 9218868437227405312)] w fun r w' => r = .returned (.float .f64 (wd64 s 9218868437227405311)) ∧ w' = w := by
  cases s
  · exact copy_up8 w
  · exact copy_dn8 w
/-- What stands while Parts walks. -/
structure Pi8 (w : World) (gl : Nat) (V : Int) (N gk : Nat) (U : Int) (l : List Nat) (pv : Value) (wr : World) : Prop where
  left : ∃ v, Dk wr gl (dN (fo8 U)) v (dE (fo8 U)) ∧ Nt w.heap.size wr v (dX (fo8 U))
  row : Fr w.heap.size wr pv l
  bel : Below w.heap.size w wr
  val : ∀ r, IsParts U r → IsParts V (l ++ r)
  fin : FinL l
  len : l.length + gk ≤ N
  stp : stp U ≤ gk
  top : U.natAbs < 2 ^ ET
theorem ET5 : ET ≤ 100000 := by decide
theorem Pi8.next {w : World} {gl : Nat} {V : Int} {N gk : Nat} {U : Int} {l : List Nat} {pv pv' : Value} {wr w' : World} (h : Pi8 w gl V N gk U l pv wr) (h0 : U ≠ 0)
    (h1 : ∃ v, Dk w' gl (dN (fo8 (U - fvW (nrW U)))) v (dE (fo8 (U - fvW (nrW U)))) ∧ Nt w.heap.size w' v (dX (fo8 (U - fvW (nrW U))))) (h2 : Fr w.heap.size w' pv' (l ++ [nrW U])) (h3 : Below w.heap.size w w') :
    0 < gk ∧ Pi8 w gl V N (gk - 1) (U - fvW (nrW U)) (l ++ [nrW U]) pv' w' := by
  obtain ⟨s1, s2⟩ := stp_less U ET (Nat.le_trans ET5 (by decide)) h.top h0
  have hs := h.stp
  have hl := h.len
  have hg : 0 < gk := by omega
  refine ⟨hg, h1, h2, h3, fun r hr => ?_, h.fin.append (fun x hx => ?_), by rw [List.length_append, List.length_singleton]; omega, by omega, Nat.lt_trans s2 h.top⟩
  · rw [List.append_assoc]
    exact h.val _ ⟨h0, rfl, hr⟩
  · simp at hx
    subst hx
    exact (nr_any U ET (Nat.le_trans ET5 (by decide)) h.top h0).1

set_option maxHeartbeats 8000000 in
theorem parts_core8 (w : World) (g : Nat) (V : Int) (hV : V.natAbs < 2 ^ ET) (hT : Tab w)
    (HE : Hid (Calls Tryz.prog 23 #[.pointer (some ⟨g, 0, none⟩)] w fun r w' => (∃ v, r = .returned (.agg #[.bool (dN (fo8 V)), v, .int .i64 (dE (fo8 V))]) ∧ Nt w.heap.size w' v (dX (fo8 V))) ∧ Below w.heap.size w w')) :
    Calls Tryz.prog 25 #[.pointer (some ⟨g, 0, none⟩)] w fun r w' => ∃ v l, r = .returned v ∧ IsParts V l ∧ FinL l ∧ l.length ≤ 1100000 ∧ Fr w.heap.size w' v l ∧ Below w.heap.size w w' := by
  obtain ⟨N, hN⟩ : ∃ N, N = stp V := ⟨_, rfl⟩
  have HV := Aside.intro (And.intro hV (And.intro hT (And.intro hN (stp_top V hV))))
  have HL := Aside.intro (fo8_len V ET (Nat.le_trans ET5 (by decide)) hV).1
  clear hV hT hN
  obtain ⟨nn, hnn⟩ : ∃ b, b = dN (fo8 V) := ⟨_, rfl⟩
  obtain ⟨ee, hee⟩ : ∃ b, b = dE (fo8 V) := ⟨_, rfl⟩
  rw [← hnn, ← hee] at HE
  have HQ := Aside.intro (And.intro hnn hee)
  clear hnn hee
  go_enter Tryz.func25, Tryz.ntmps25
  go_wp2_with fail
  go_step3
  go_wp2_with fail
  with_reducible refine HE.out.mono ?_
  rintro r w1 ⟨⟨v1, rfl, hN1⟩, hb1⟩
  obtain ⟨a1, c1, rfl, _⟩ := hN1.arg (Nat.le_trans HL.out (by decide))
  obtain ⟨W, hW⟩ : ∃ W, W = w1.alloc (.cells #[.bool nn, .slice a1 (ws (dX (fo8 V))).length c1, .int .i64 ee] 33) := ⟨_, rfl⟩
  have H0 : Aside (Pi8 w w1.heap.size V N N V [] (.slice none 0 0) W) := by
    subst hW
    refine ⟨⟨.slice a1 (ws (dX (fo8 V))).length c1, ?_, hN1.below (below_alloc _ _)⟩, Fr.nil _ _, hb1.trans ((below_alloc _ _).mono hb1.size), fun r hr => hr, FinL.nil, by simp, by rw [HV.out.2.2.1]; exact Nat.le_refl _, HV.out.1⟩
    rw [← HQ.out.1, ← HQ.out.2]
    exact Dk.new _ _ _ _
  have hs1 : Aside (w.heap.size ≤ w1.heap.size) := hb1.size
  obtain ⟨gl, hgl⟩ : ∃ k, k = w1.heap.size := ⟨_, rfl⟩
  rw [← hgl] at H0 hs1
  clear hN1 hb1 HE
  go_wp2_with fail
  rw [← hW, ← hgl]
  clear hW hgl
  go_step3
  go_wp2_with fail
  go_loopg [3] N (fun gk pv wr => ∃ (U : Int) (l : List Nat), Aside (Pi8 w gl V N gk U l pv wr))
  case atStart => exact ⟨V, [], H0⟩
  case round =>
    clear H0
    obtain ⟨U, l, HP⟩ := hrel
    obtain ⟨sv, S1, S2⟩ := HP.out.left
    have HU := Aside.intro (And.intro HP.out.top (HV.out.2.1.belows HP.out.bel))
    have HUL := Aside.intro (fo8_len U ET (Nat.le_trans ET5 (by decide)) HP.out.top).1
    obtain ⟨a0, c0, rfl, A0⟩ := S2.arg (Nat.le_trans HUL.out (by decide))
    obtain ⟨x0, x1, x2, xf0, xf1, xf2⟩ := S1.facts
    have HR := hid (round_any8 U ET ET5 HU.out.1 0 wr a0 c0 HU.out.2 A0)
    have HSg := Aside.intro (sgn_fo8 U ET (Nat.le_trans ET5 (by decide)) HU.out.1)
    obtain ⟨un, hun⟩ : ∃ b, b = dN (fo8 U) := ⟨_, rfl⟩
    obtain ⟨ue, hue⟩ : ∃ b, b = dE (fo8 U) := ⟨_, rfl⟩
    obtain ⟨ux, hux⟩ : ∃ b, b = dX (fo8 U) := ⟨_, rfl⟩
    obtain ⟨rx, hrx⟩ : ∃ b, b = (rndS (fo8 U) 0).1 := ⟨_, rfl⟩
    obtain ⟨re, hre⟩ : ∃ b, b = (rndS (fo8 U) 0).2 := ⟨_, rfl⟩
    rw [← hun, ← hue, ← hux, ← hrx, ← hre] at HR
    rw [← hun] at x0
    rw [← hux] at x1
    rw [← hue] at x2
    rw [← hun, ← hux] at HSg
    rw [← hux] at HUL
    have HQ2 := Aside.intro (And.intro hun (And.intro hue (And.intro hux hrx)))
    rw [← hun, ← hue, ← hux] at S1
    rw [← hux] at S2 A0
    have HS := Aside.intro (And.intro S1 (And.intro S2 A0))
    clear hun hue hux hrx hre S1 S2 A0
    go_wp2_with fail
    with_reducible refine HR.out.mono ?_
    rintro r w2 ⟨rfl, hb2⟩
    have HS2 := Aside.intro (And.intro (HS.out.1.below hb2) (And.intro (HS.out.2.1.below hb2) (And.intro (HS.out.2.2.below hb2) hb2)))
    have HSn := hid (Sign_any3 HS2.out.2.2.1 un ue)
    rw [val_ws] at HSn
    obtain ⟨y0, y1, y2, yf0, yf1, yf2⟩ := HS2.out.1.facts
    obtain ⟨sg, hsg⟩ : ∃ z, z = sgn un ux := ⟨_, rfl⟩
    rw [← hsg] at HSn HSg
    clear hb2 hsg HR x0 x1 x2 xf0 xf1 xf2
    go_wp2_with fail
    with_reducible refine HSn.out.mono ?_
    rintro r w3 ⟨rfl, hb3⟩
    have HS3 := Aside.intro (And.intro (HS2.out.1.below hb3) (And.intro (HS2.out.2.1.below hb3) (HS2.out.2.2.2.trans (hb3.mono HS2.out.2.2.2.size))))
    clear hb3 HSn y0 y1 y2 yf0 yf1 yf2
    by_cases h0 : U = 0
    · have hz := HSg.out
      rw [decide_eq_true h0] at hz
      have HF : Aside (IsParts V l ∧ FinL l ∧ l.length ≤ 1100000 ∧ Fr w.heap.size w3 u3 l ∧ Below w.heap.size w w3) := by
        refine ⟨?_, HP.out.fin, by have := HP.out.len; have := HV.out.2.2.1; have := HV.out.2.2.2; omega, HP.out.row.below HS3.out.2.2, HP.out.bel.trans (HS3.out.2.2.mono HP.out.bel.size)⟩
        have := HP.out.val [] h0
        rw [List.append_nil] at this
        exact this
      clear h0
      go_wp2
      rw [Exit.noGoto_ret]
      go_ret
      exact ⟨u3, l, rfl, HF.out⟩
    · have hz := HSg.out
      rw [decide_eq_false h0] at hz
      have H00 := Aside.intro h0
      clear h0
      obtain ⟨hnf, hor⟩ := nr_any U ET (Nat.le_trans ET5 (by decide)) HU.out.1 H00.out
      rw [← HQ2.out.2.2.2] at hor
      have HNF := Aside.intro hnf
      clear hnf
      obtain ⟨y, hy⟩ : ∃ y, y = nrW U := ⟨_, rfl⟩
      rw [← hy] at hor HNF
      have HY := Aside.intro hy
      clear hy
      rcases hor with ⟨rfl, hfin, _⟩ | ⟨hx1, rfl, _, _⟩
      · have HI := hid (fun u => isInf_w8 y HNF.out.1 u)
        have hb0 : (magW y == 9218868437227405312) = false := by unfold finW at hfin; simp; omega
        rw [hb0] at HI
        clear hfin hb0
        go_wp2_with fail
        with_reducible refine (HI.out _).mono ?_
        rintro r w4 ⟨rfl, rfl⟩
        obtain ⟨W4, hW4⟩ : ∃ W, W = w4.alloc (.cells #[.float .f64 y] 38) := ⟨_, rfl⟩
        have hfr : Fr w.heap.size W4 u3 l := by subst hW4; exact (HP.out.row.below HS3.out.2.2).below (below_alloc _ _)
        have hbw : Below w4.heap.size w4 W4 := by subst hW4; exact below_alloc _ _
        have hcx : W4.cell? ⟨w4.heap.size, 0, none⟩ = some (.float .f64 y) := by subst hW4; unfold World.cell?; simp only [heap_alloc_new]; rfl
        have hsz : w.heap.size ≤ W4.heap.size := Nat.le_trans (Nat.le_trans HP.out.bel.size HS3.out.2.2.size) hbw.size
        obtain ⟨v5, w5, hap, hf5, hg5⟩ := append_f8 W4 w.heap.size u3 l y w4.heap.size hfr hcx (by have := HP.out.len; have := HV.out.2.2.1; have := HV.out.2.2.2; omega) hsz
        have HAP := hid hap
        have H5 : Aside (Fr w.heap.size w5 v5 (l ++ [y]) ∧ Dk w5 gl un (.slice a0 (ws ux).length c0) ue ∧ Nt w.heap.size w5 (.slice a0 (ws ux).length c0) ux ∧ Below w.heap.size w w5) := by
          have hD := (HS3.out.1.below hbw)
          have hNN := (HS3.out.2.1.below hbw)
          have hBB : Below w.heap.size w W4 := (HP.out.bel.trans (HS3.out.2.2.mono HP.out.bel.size)).trans (hbw.mono (Nat.le_trans HP.out.bel.size HS3.out.2.2.size))
          exact ⟨hf5, hD.fr8 hfr hg5, hNN.fr8 hfr hg5, hBB.grown hg5 hsz (fun k hk => (hfr.lt hk).1)⟩
        clear hap hf5 hg5 hfr hbw hcx hsz
        go_wp2_with (at_builtin; rw [← hW4]; refine wpList_append8 rfl (.tmp 25) (.tmp 27) 66 rfl _ _ rfl rfl _ _ HAP.out ?_)
        have HO := hid (of_any8 y HNF.out w5 (HV.out.2.1.belows H5.out.2.2.2))
        obtain ⟨dn, hdn⟩ : ∃ b, b = dN (fo8 (fvW y)) := ⟨_, rfl⟩
        obtain ⟨de, hde⟩ : ∃ b, b = dE (fo8 (fvW y)) := ⟨_, rfl⟩
        obtain ⟨dx, hdx⟩ : ∃ b, b = dX (fo8 (fvW y)) := ⟨_, rfl⟩
        have HTF : Aside ((fvW y).natAbs < 2 ^ ET) := by
          obtain ⟨z, hz⟩ : ∃ z, z = 2098 := ⟨_, rfl⟩
          exact Nat.lt_of_lt_of_le (top_fv HNF.out.1 HNF.out.2 z hz) (Nat.pow_le_pow_right (by decide) (by unfold ET; omega))
        have HDL := Aside.intro (fo8_len (fvW y) ET (Nat.le_trans ET5 (by decide)) HTF.out).1
        rw [← hdx] at HDL
        rw [← hdn, ← hde, ← hdx] at HO
        have HQ3 := Aside.intro (And.intro hdn (And.intro hde hdx))
        clear hdn hde hdx hW4 HAP
        go_wp2_with fail
        with_reducible refine HO.out.mono ?_
        rintro r w6 ⟨⟨v6, rfl, hN6⟩, hb6⟩
        obtain ⟨a6, c6, rfl, _⟩ := hN6.arg (Nat.le_trans HDL.out (by decide))
        obtain ⟨W7, hW7⟩ : ∃ W, W = w6.alloc (.cells #[.bool dn, .slice a6 (ws dx).length c6, .int .i64 de] 33) := ⟨_, rfl⟩
        have H7 : Aside (Fr w.heap.size W7 v5 (l ++ [y]) ∧ Dk W7 gl un (.slice a0 (ws ux).length c0) ue ∧ Nt w.heap.size W7 (.slice a0 (ws ux).length c0) ux ∧ Below w.heap.size w W7 ∧ Dk W7 w6.heap.size dn (.slice a6 (ws dx).length c6) de ∧ Nt w.heap.size W7 (.slice a6 (ws dx).length c6) dx) := by
          have hbx : Below w5.heap.size w5 W7 := by subst hW7; exact hb6.trans ((below_alloc _ _).mono hb6.size)
          refine ⟨H5.out.1.below hbx, H5.out.2.1.below hbx, H5.out.2.2.1.below hbx, H5.out.2.2.2.trans (hbx.mono H5.out.2.2.2.size), ?_, ?_⟩
          · subst hW7; exact Dk.new _ _ _ _
          · have := hN6.mono H5.out.2.2.2.size
            subst hW7; exact this.below (below_alloc _ _)
        clear hN6 hb6 HO H5
        go_upto_region 9 with fail
        rw [← hW7]
        clear hW7
        obtain ⟨x0, x1, x2, xf0, xf1, xf2⟩ := H7.out.2.1.facts
        obtain ⟨z0, z1, z2, zf0, zf1, zf2⟩ := H7.out.2.2.2.2.1.facts
        have HSb : Hid (Calls Tryz.prog 75 #[.agg #[.bool un, .slice a0 (ws ux).length c0, .int .i64 ue], .agg #[.bool dn, .slice a6 (ws dx).length c6, .int .i64 de]] W7 fun r w' =>
            (∃ v, r = .returned (.tuple #[.agg #[.bool (dN (fo8 (U - fvW y))), v, .int .i64 (dE (fo8 (U - fvW y)))], .int .i64 0]) ∧ Nt W7.heap.size w' v (dX (fo8 (U - fvW y)))) ∧ Below W7.heap.size W7 w') := by
          have h1 := (H7.out.2.2.1.arg' (Nat.le_trans HUL.out (by decide))).2
          have h2 := (H7.out.2.2.2.2.2.arg' (Nat.le_trans HDL.out (by decide))).2
          have hT7 := HV.out.2.1.belows H7.out.2.2.2.1
          rw [HQ2.out.1, HQ2.out.2.1, HQ2.out.2.2.1, HQ3.out.1, HQ3.out.2.1, HQ3.out.2.2] at *
          exact sub_any8 U (fvW y) ET ET5 HU.out.1 HTF.out W7 a0 a6 c0 c6 hT7 h1 h2
        obtain ⟨tn, htn⟩ : ∃ b, b = dN (fo8 (U - fvW y)) := ⟨_, rfl⟩
        obtain ⟨te, hte⟩ : ∃ b, b = dE (fo8 (U - fvW y)) := ⟨_, rfl⟩
        obtain ⟨tx, htx⟩ : ∃ b, b = dX (fo8 (U - fvW y)) := ⟨_, rfl⟩
        have HTX : Aside ((ws tx).length ≤ 8192) := by
          rw [htx]
          have q1 := HU.out.1
          have q2 := HTF.out
          exact (fo8_len (U - fvW y) (ET + 1) (by decide) (by rw [Nat.pow_succ]; omega)).1
        rw [← htn, ← hte, ← htx] at HSb
        have HQ4 := Aside.intro (And.intro htn (And.intro hte htx))
        clear htn hte htx
        go_wp2_with fail
        with_reducible refine HSb.out.mono ?_
        rintro r w8 ⟨⟨v8, rfl, hN8⟩, hb8⟩
        obtain ⟨a8, c8, rfl, _⟩ := hN8.arg (Nat.le_trans HTX.out (by decide))
        have hD8 := H7.out.2.1.below hb8
        obtain ⟨p0, p1, p2, pf0, pf1, pf2⟩ := hD8.facts
        have hbt := st3_but8 gl w8 (.bool tn) (.slice a8 (ws tx).length c8) (.int .i64 te)
        have hB8 := H7.out.2.2.2.1.trans (hb8.mono H7.out.2.2.2.1.size)
        have HX : Aside (0 < gk ∧ Pi8 w gl V N (gk - 1) (U - fvW y) (l ++ [y]) v5 (st3 w8 gl (.bool tn) (.slice a8 (ws tx).length c8) (.int .i64 te))) := by
          have q := HP.out.next (pv' := v5) (w' := st3 w8 gl (.bool tn) (.slice a8 (ws tx).length c8) (.int .i64 te)) H00.out
          rw [← HY.out] at q
          refine q ⟨.slice a8 (ws tx).length c8, ?_, ?_⟩ ((H7.out.1.below hb8).but8 hD8 hbt) (But.below hB8 hbt hB8.size hs1.out)
          · rw [← HQ4.out.1, ← HQ4.out.2.1]; exact hD8.set _ _ _
          · rw [← HQ4.out.2.2]; exact (hN8.mono H7.out.2.2.2.1.size).dk9 hD8 hbt
        unfold st3 at HX
        clear hN8 hb8 hD8 hbt hB8 HSb H7 HQ4 x0 x1 x2 xf0 xf1 xf2 z0 z1 z2 zf0 zf1 zf2
        go_wp2
        go_roundg (gk - 1)
        case measure => have := HX.out.1; omega
        case rel => exact ⟨_, _, HX.out.2⟩
      · rw [hx1] at *
        have hwd : Wd (wd64 (decide (U < 0)) 9218868437227405312) ∧ (magW (wd64 (decide (U < 0)) 9218868437227405312) == 9218868437227405312) = true := by cases (decide (U < 0)) <;> exact ⟨by unfold Wd wd64; decide, by decide⟩
        have HI := hid (fun u => isInf_w8 (wd64 (decide (U < 0)) 9218868437227405312) hwd.1 u)
        rw [hwd.2] at HI
        have HC := hid (fun u => copy_any8 (decide (U < 0)) u)
        obtain ⟨y, hy⟩ : ∃ y, y = wd64 (decide (U < 0)) 9218868437227405311 := ⟨_, rfl⟩
        obtain ⟨yi, hyi⟩ : ∃ y, y = wd64 (decide (U < 0)) 9218868437227405312 := ⟨_, rfl⟩
        rw [← hy] at HC HNF HY
        rw [← hyi] at HI HC ⊢
        clear hwd hx1 hy hyi
        go_wp2_with fail
        with_reducible refine (HI.out _).mono ?_
        rintro r w4 ⟨rfl, rfl⟩
        go_wp2_with fail
        with_reducible refine (HC.out _).mono ?_
        rintro r w4 ⟨rfl, rfl⟩
        obtain ⟨W4, hW4⟩ : ∃ W, W = w4.alloc (.cells #[.float .f64 y] 38) := ⟨_, rfl⟩
        have hfr : Fr w.heap.size W4 u3 l := by subst hW4; exact (HP.out.row.below HS3.out.2.2).below (below_alloc _ _)
        have hbw : Below w4.heap.size w4 W4 := by subst hW4; exact below_alloc _ _
        have hcx : W4.cell? ⟨w4.heap.size, 0, none⟩ = some (.float .f64 y) := by subst hW4; unfold World.cell?; simp only [heap_alloc_new]; rfl
        have hsz : w.heap.size ≤ W4.heap.size := Nat.le_trans (Nat.le_trans HP.out.bel.size HS3.out.2.2.size) hbw.size
        obtain ⟨v5, w5, hap, hf5, hg5⟩ := append_f8 W4 w.heap.size u3 l y w4.heap.size hfr hcx (by have := HP.out.len; have := HV.out.2.2.1; have := HV.out.2.2.2; omega) hsz
        have HAP := hid hap
        have H5 : Aside (Fr w.heap.size w5 v5 (l ++ [y]) ∧ Dk w5 gl un (.slice a0 (ws ux).length c0) ue ∧ Nt w.heap.size w5 (.slice a0 (ws ux).length c0) ux ∧ Below w.heap.size w w5) := by
          have hD := (HS3.out.1.below hbw)
          have hNN := (HS3.out.2.1.below hbw)
          have hBB : Below w.heap.size w W4 := (HP.out.bel.trans (HS3.out.2.2.mono HP.out.bel.size)).trans (hbw.mono (Nat.le_trans HP.out.bel.size HS3.out.2.2.size))
          exact ⟨hf5, hD.fr8 hfr hg5, hNN.fr8 hfr hg5, hBB.grown hg5 hsz (fun k hk => (hfr.lt hk).1)⟩
        clear hap hf5 hg5 hfr hbw hcx hsz
        go_wp2_with (at_builtin; rw [← hW4]; refine wpList_append8 rfl (.tmp 25) (.tmp 27) 66 rfl _ _ rfl rfl _ _ HAP.out ?_)
        have HO := hid (of_any8 y HNF.out w5 (HV.out.2.1.belows H5.out.2.2.2))
        obtain ⟨dn, hdn⟩ : ∃ b, b = dN (fo8 (fvW y)) := ⟨_, rfl⟩
        obtain ⟨de, hde⟩ : ∃ b, b = dE (fo8 (fvW y)) := ⟨_, rfl⟩
        obtain ⟨dx, hdx⟩ : ∃ b, b = dX (fo8 (fvW y)) := ⟨_, rfl⟩
        have HTF : Aside ((fvW y).natAbs < 2 ^ ET) := by
          obtain ⟨z, hz⟩ : ∃ z, z = 2098 := ⟨_, rfl⟩
          exact Nat.lt_of_lt_of_le (top_fv HNF.out.1 HNF.out.2 z hz) (Nat.pow_le_pow_right (by decide) (by unfold ET; omega))
        have HDL := Aside.intro (fo8_len (fvW y) ET (Nat.le_trans ET5 (by decide)) HTF.out).1
        rw [← hdx] at HDL
        rw [← hdn, ← hde, ← hdx] at HO
        have HQ3 := Aside.intro (And.intro hdn (And.intro hde hdx))
        clear hdn hde hdx hW4 HAP
        go_wp2_with fail
        with_reducible refine HO.out.mono ?_
        rintro r w6 ⟨⟨v6, rfl, hN6⟩, hb6⟩
        obtain ⟨a6, c6, rfl, _⟩ := hN6.arg (Nat.le_trans HDL.out (by decide))
        obtain ⟨W7, hW7⟩ : ∃ W, W = w6.alloc (.cells #[.bool dn, .slice a6 (ws dx).length c6, .int .i64 de] 33) := ⟨_, rfl⟩
        have H7 : Aside (Fr w.heap.size W7 v5 (l ++ [y]) ∧ Dk W7 gl un (.slice a0 (ws ux).length c0) ue ∧ Nt w.heap.size W7 (.slice a0 (ws ux).length c0) ux ∧ Below w.heap.size w W7 ∧ Dk W7 w6.heap.size dn (.slice a6 (ws dx).length c6) de ∧ Nt w.heap.size W7 (.slice a6 (ws dx).length c6) dx) := by
          have hbx : Below w5.heap.size w5 W7 := by subst hW7; exact hb6.trans ((below_alloc _ _).mono hb6.size)
          refine ⟨H5.out.1.below hbx, H5.out.2.1.below hbx, H5.out.2.2.1.below hbx, H5.out.2.2.2.trans (hbx.mono H5.out.2.2.2.size), ?_, ?_⟩
          · subst hW7; exact Dk.new _ _ _ _
          · have := hN6.mono H5.out.2.2.2.size
            subst hW7; exact this.below (below_alloc _ _)
        clear hN6 hb6 HO H5
        go_upto_region 9 with fail
        rw [← hW7]
        clear hW7
        obtain ⟨x0, x1, x2, xf0, xf1, xf2⟩ := H7.out.2.1.facts
        obtain ⟨z0, z1, z2, zf0, zf1, zf2⟩ := H7.out.2.2.2.2.1.facts
        have HSb : Hid (Calls Tryz.prog 75 #[.agg #[.bool un, .slice a0 (ws ux).length c0, .int .i64 ue], .agg #[.bool dn, .slice a6 (ws dx).length c6, .int .i64 de]] W7 fun r w' =>
            (∃ v, r = .returned (.tuple #[.agg #[.bool (dN (fo8 (U - fvW y))), v, .int .i64 (dE (fo8 (U - fvW y)))], .int .i64 0]) ∧ Nt W7.heap.size w' v (dX (fo8 (U - fvW y)))) ∧ Below W7.heap.size W7 w') := by
          have h1 := (H7.out.2.2.1.arg' (Nat.le_trans HUL.out (by decide))).2
          have h2 := (H7.out.2.2.2.2.2.arg' (Nat.le_trans HDL.out (by decide))).2
          have hT7 := HV.out.2.1.belows H7.out.2.2.2.1
          rw [HQ2.out.1, HQ2.out.2.1, HQ2.out.2.2.1, HQ3.out.1, HQ3.out.2.1, HQ3.out.2.2] at *
          exact sub_any8 U (fvW y) ET ET5 HU.out.1 HTF.out W7 a0 a6 c0 c6 hT7 h1 h2
        obtain ⟨tn, htn⟩ : ∃ b, b = dN (fo8 (U - fvW y)) := ⟨_, rfl⟩
        obtain ⟨te, hte⟩ : ∃ b, b = dE (fo8 (U - fvW y)) := ⟨_, rfl⟩
        obtain ⟨tx, htx⟩ : ∃ b, b = dX (fo8 (U - fvW y)) := ⟨_, rfl⟩
        have HTX : Aside ((ws tx).length ≤ 8192) := by
          rw [htx]
          have q1 := HU.out.1
          have q2 := HTF.out
          exact (fo8_len (U - fvW y) (ET + 1) (by decide) (by rw [Nat.pow_succ]; omega)).1
        rw [← htn, ← hte, ← htx] at HSb
        have HQ4 := Aside.intro (And.intro htn (And.intro hte htx))
        clear htn hte htx
        go_wp2_with fail
        with_reducible refine HSb.out.mono ?_
        rintro r w8 ⟨⟨v8, rfl, hN8⟩, hb8⟩
        obtain ⟨a8, c8, rfl, _⟩ := hN8.arg (Nat.le_trans HTX.out (by decide))
        have hD8 := H7.out.2.1.below hb8
        obtain ⟨p0, p1, p2, pf0, pf1, pf2⟩ := hD8.facts
        have hbt := st3_but8 gl w8 (.bool tn) (.slice a8 (ws tx).length c8) (.int .i64 te)
        have hB8 := H7.out.2.2.2.1.trans (hb8.mono H7.out.2.2.2.1.size)
        have HX : Aside (0 < gk ∧ Pi8 w gl V N (gk - 1) (U - fvW y) (l ++ [y]) v5 (st3 w8 gl (.bool tn) (.slice a8 (ws tx).length c8) (.int .i64 te))) := by
          have q := HP.out.next (pv' := v5) (w' := st3 w8 gl (.bool tn) (.slice a8 (ws tx).length c8) (.int .i64 te)) H00.out
          rw [← HY.out] at q
          refine q ⟨.slice a8 (ws tx).length c8, ?_, ?_⟩ ((H7.out.1.below hb8).but8 hD8 hbt) (But.below hB8 hbt hB8.size hs1.out)
          · rw [← HQ4.out.1, ← HQ4.out.2.1]; exact hD8.set _ _ _
          · rw [← HQ4.out.2.2]; exact (hN8.mono H7.out.2.2.2.1.size).dk9 hD8 hbt
        unfold st3 at HX
        clear hN8 hb8 hD8 hbt hB8 HSb H7 HQ4 x0 x1 x2 xf0 xf1 xf2 z0 z1 z2 zf0 zf1 zf2
        go_wp2
        go_roundg (gk - 1)
        case measure => have := HX.out.1; omega
        case rel => exact ⟨_, _, HX.out.2⟩
end Go.Proofs.YtnnlicahgdcbdaaGreatDoor

/- Exact, Round. -/
namespace Go.Proofs.YtnnlicahgdcbdaaGreatDoor
open Go.RowKit
set_option linter.unusedVariables false
set_option maxRecDepth 20000
set_option linter.unusedSimpArgs false

theorem Dk.but8 {w w' : World} {g k : Nat} {n : Bool} {v : Value} {e : Int} (h : Dk w k n v e) (hb : But g w w') (hk : k ≠ g) : Dk w' k n v e := by unfold Dk at h ⊢; rw [hb.block k (Array.getElem?_eq_some_iff.1 h).1 hk]; exact h

/-- Words are no Dyads: a row of words stays where a Dyad's block is written. -/
theorem Nt.dk8 {lo : Nat} {w w' : World} {v : Value} {X : Nat} (h : Nt lo w v X) {g : Nat} {n : Bool} {u : Value} {e : Int} (hD : Dk w g n u e) (hb : But g w w') : Nt lo w' v X := by
  refine ⟨h.1, ?_⟩
  rcases h.2 with hn | ⟨g', cap, cur, rfl, hlo, hgc, rest⟩
  · exact .inl hn
  · refine .inr ⟨g', cap, cur, rfl, hlo, (hb.block g' (Array.getElem?_eq_some_iff.1 hgc).1 ?_).trans hgc, rest⟩
    rintro rfl
    unfold Dk at hD
    rw [hD] at hgc
    cases hgc
theorem name_world8 {K : Act → World → Prop} {Q : Exit → Act → World → Prop} {e : Exit} {a : Act} {W : World} (P : World → Prop) (hP : P W) (h : ∀ U, P U → Exit.then K Q e a U) : Exit.then K Q e a W := h W hP
def Ex9 (w W1 : World) (n3 : Bool) (v3 : Value) (e3 : Int) (X3 k : Nat) (U : World) : Prop := Dk U k n3 v3 e3 ∧ Dk U w.heap.size false (.slice none 0 0) 0 ∧ Nt W1.heap.size U v3 X3 ∧ Below w.heap.size w U ∧ w.heap.size ≠ k
theorem Ex9.a {w W1 u : World} {n3 : Bool} {v3 : Value} {e3 : Int} {X3 : Nat} (Z : Dk u w.heap.size false (.slice none 0 0) 0) (NC : Nt W1.heap.size u v3 X3) (hB : Below w.heap.size w u) (hk : w.heap.size ≠ u.heap.size) :
    Ex9 w W1 n3 v3 e3 X3 u.heap.size (u.alloc (.cells #[.bool n3, v3, .int .i64 e3] 33)) :=
  ⟨Dk.new u _ _ _, Z.below (below_alloc _ _), NC.below (below_alloc _ _), hB.trans ((below_alloc _ _).mono hB.size), hk⟩
theorem Ex9.b {w W1 u : World} {n3 : Bool} {v3 : Value} {e3 : Int} {X3 k : Nat} (D : Dk u k false (.slice none 0 0) 0) (Z : Dk u w.heap.size false (.slice none 0 0) 0) (NC : Nt W1.heap.size u v3 X3) (hB : Below w.heap.size w u) (hk : w.heap.size < k) :
    Ex9 w W1 n3 v3 e3 X3 k (((u.setCell ⟨k, 0, none⟩ (.bool n3)).setCell ⟨k, 1, none⟩ v3).setCell ⟨k, 2, none⟩ (.int .i64 e3)) :=
  ⟨D.set _ _ _, Z.but8 (st3_but8 k u (.bool n3) v3 (.int .i64 e3)) (by omega), NC.dk8 D (st3_but8 k u (.bool n3) v3 (.int .i64 e3)), But.below hB (st3_but8 k u (.bool n3) v3 (.int .i64 e3)) hB.size (by omega), by omega⟩
theorem alloc2 {u : World} {a b : Addr} {va vb : Value} {o : Obj} (h : u.cell? a = some va ∧ u.cell? b = some vb) : (u.alloc o).cell? a = some va ∧ (u.alloc o).cell? b = some vb := ⟨Lib.cell?_alloc_some _ h.1, Lib.cell?_alloc_some _ h.2⟩
theorem alloc2d {u : World} {a b : Addr} {va vb : Value} {o : Obj} (h : u.cell? a = some va ∧ u.cell? b = some vb) : (u.alloc o).drew.cell? a = some va ∧ (u.alloc o).drew.cell? b = some vb := alloc2 h
theorem set2 {u : World} {g i j : Nat} {va vb : Value} {k l : Nat} {x : Value} (hk : g ≠ k) (h : u.cell? ⟨g, i, none⟩ = some va ∧ u.cell? ⟨g, j, none⟩ = some vb) : (u.setCell ⟨k, l, none⟩ x).cell? ⟨g, i, none⟩ = some va ∧ (u.setCell ⟨k, l, none⟩ x).cell? ⟨g, j, none⟩ = some vb := by
  have e : (u.setCell ⟨k, l, none⟩ x).heap[g]? = u.heap[g]? := Below.heap_setCell _ _ _ _ hk
  exact ⟨(World.cell?_of_block (a := ⟨g, i, none⟩) e).trans h.1, (World.cell?_of_block (a := ⟨g, j, none⟩) e).trans h.2⟩
set_option maxHeartbeats 4000000 in
theorem exact_core8 {w : World} {g n : Nat} {va vb : Value} (n1 n2 n3 : Bool) (X1 X2 X3 : Nat) (e1 e2 e3 : Int) (l1 : (ws X1).length ≤ 8192) (l2 : (ws X2).length ≤ 8192) (l3 : (ws X3).length ≤ 8192)
    (hk : Sk w g n va vb)
    (EA : Hid (∀ u, Below w.heap.size w u → Calls Tryz.prog 69 #[va, .int .i64 0] u fun r w' => (∃ v, r = .returned (.agg #[.bool n1, v, .int .i64 e1]) ∧ Nt u.heap.size w' v X1) ∧ Below u.heap.size u w'))
    (EB : Hid (∀ u, Below w.heap.size w u → Calls Tryz.prog 69 #[vb, .int .i64 64] u fun r w' => (∃ v, r = .returned (.agg #[.bool n2, v, .int .i64 e2]) ∧ Nt u.heap.size w' v X2) ∧ Below u.heap.size u w'))
    (HA : Hid (∀ u a c b d, Below w.heap.size w u → Nt w.heap.size u (.slice a (ws X1).length c) X1 → Nt w.heap.size u (.slice b (ws X2).length d) X2 → Calls Tryz.prog 68 #[.agg #[.bool n1, .slice a (ws X1).length c, .int .i64 e1], .agg #[.bool n2, .slice b (ws X2).length d, .int .i64 e2]] u fun r w' => (∃ v, r = .returned (.tuple #[.agg #[.bool n3, v, .int .i64 e3], .int .i64 0]) ∧ Nt u.heap.size w' v X3) ∧ Below u.heap.size u w')) :
    Calls Tryz.prog 23 #[.pointer (some ⟨g, 0, none⟩)] w fun r w' => (∃ v, r = .returned (.agg #[.bool n3, v, .int .i64 e3]) ∧ Nt w.heap.size w' v X3) ∧ Below w.heap.size w w' := by
  have hlt := hk.lt
  obtain ⟨W1, hW1⟩ : ∃ W, W = w.alloc (.cells #[.bool false, .slice none 0 0, .int .i64 0] 33) := ⟨_, rfl⟩
  have H1 : Aside (Below w.heap.size w W1 ∧ Dk W1 w.heap.size false (.slice none 0 0) 0 ∧ W1.heap.size = w.heap.size + 1) := by
    subst hW1; exact ⟨below_alloc _ _, Dk.new _ _ _ _, by simp⟩
  have HK : Aside (∀ W, Below w.heap.size w W → W.cell? ⟨g, 1, none⟩ = some va ∧ W.cell? ⟨g, 2, none⟩ = some vb) := fun W hW => by
    obtain ⟨_, x1, x2, _⟩ := (hk.of_block (hW.block g hlt)).facts
    exact ⟨x1, x2⟩
  obtain ⟨x1, x2⟩ := HK.out W1 H1.out.1
  have hlt1 : g < W1.heap.size := by have := H1.out.2.2; omega
  have HW1 : Aside (w.heap.size < W1.heap.size) := by have := H1.out.2.2; exact Aside.intro (by omega)
  have kS : Aside (W1.drew.cell? ⟨g, 1, none⟩ = some va ∧ W1.drew.cell? ⟨g, 2, none⟩ = some vb) := ⟨x1, x2⟩
  have BB : Aside (Below W1.heap.size W1 W1.drew) := (Below.refl _ _).drew
  have HB : Aside (∀ W, Below W1.heap.size W1 W → Below w.heap.size w W) := fun W h => H1.out.1.trans (h.mono H1.out.1.size)
  clear hk
  go_enter Tryz.func23, Tryz.ntmps23
  go_wp2
  rw [← hW1]
  clear hW1
  go_region_held3 (fun w' => w'.cell? ⟨g, 1, none⟩ = some va ∧ w'.cell? ⟨g, 2, none⟩ = some vb) (first | with_reducible exact kS.out | with_reducible exact alloc2 kS.out | with_reducible exact alloc2d ⟨x1, x2⟩ | (with_reducible refine set2 (by first | exact hdz _ DZ.out.2 | exact hdz _ BB.out.size) (set2 (by first | exact hdz _ DZ.out.2 | exact hdz _ BB.out.size) (set2 (by first | exact hdz _ DZ.out.2 | exact hdz _ BB.out.size) ?_)); first | with_reducible exact kS.out | with_reducible exact alloc2 kS.out)) (first
    | (go_at_call 69
       first
       | (with_reducible refine (EA.out _ (by first | exact HB.out _ BB.out | exact HB.out _ (BB.out.trans ((below_alloc _ _).mono BB.out.size)) | exact HB.out _ (below_alloc W1 _).drew)).mono ?_
          rintro r u ⟨⟨v1, rfl, hN⟩, hb⟩
          obtain ⟨a1, c1, rfl, _⟩ := hN.arg (Nat.le_trans l1 (by decide))
          have hu : Below W1.heap.size W1 u := by
            first
            | exact BB.out.trans (hb.mono BB.out.size)
            | exact (BB.out.trans ((below_alloc _ _).mono BB.out.size)).trans (hb.mono (by have := BB.out.size; simp; omega))
            | exact ((below_alloc W1 _).drew).trans (hb.mono (by simp))
          first
            | have NB := Aside.intro (NB.out.below hb)
            | have NB := Aside.intro ((NB.out.below (below_alloc _ _)).below hb)
            | skip
          first
            | have DZ := Aside.intro (And.intro (DZ.out.1.below hb) DZ.out.2)
            | have DZ := Aside.intro (And.intro ((Dk.new _ false (.slice none 0 0) 0).below hb) BB.out.size)
            | have DZ := Aside.intro (And.intro (Dk.below (w := (W1.alloc (.cells #[.bool false, .slice none 0 0, .int .i64 0] 33)).drew) (Dk.new W1 false (.slice none 0 0) 0) hb) (Nat.le_refl W1.heap.size))
            | skip
          have NA := Aside.intro (hN.mono (show w.heap.size ≤ _ by first | exact Nat.le_trans H1.out.1.size BB.out.size | (have := BB.out.size; have := H1.out.2.2; simp; omega) | (have := H1.out.2.2; simp; omega)))
          have kS := Aside.intro (HK.out u (HB.out u hu))
          obtain ⟨x1, x2⟩ := HK.out u (HB.out u hu)
          have hgu : g < u.heap.size := by have := hu.size; omega
          have BB := Aside.intro hu
          clear hN hb hu)
       | (with_reducible refine (EB.out _ (by first | exact HB.out _ BB.out | exact HB.out _ (BB.out.trans ((below_alloc _ _).mono BB.out.size)) | exact HB.out _ (below_alloc W1 _).drew)).mono ?_
          rintro r u ⟨⟨v2, rfl, hN⟩, hb⟩
          obtain ⟨a2, c2, rfl, _⟩ := hN.arg (Nat.le_trans l2 (by decide))
          have hu : Below W1.heap.size W1 u := by
            first
            | exact BB.out.trans (hb.mono BB.out.size)
            | exact (BB.out.trans ((below_alloc _ _).mono BB.out.size)).trans (hb.mono (by have := BB.out.size; simp; omega))
            | exact ((below_alloc W1 _).drew).trans (hb.mono (by simp))
          first
            | have NA := Aside.intro (NA.out.below hb)
            | have NA := Aside.intro ((NA.out.below (below_alloc _ _)).below hb)
            | skip
          first
            | have DZ := Aside.intro (And.intro (DZ.out.1.below hb) DZ.out.2)
            | have DZ := Aside.intro (And.intro ((Dk.new _ false (.slice none 0 0) 0).below hb) BB.out.size)
            | have DZ := Aside.intro (And.intro (Dk.below (w := (W1.alloc (.cells #[.bool false, .slice none 0 0, .int .i64 0] 33)).drew) (Dk.new W1 false (.slice none 0 0) 0) hb) (Nat.le_refl W1.heap.size))
            | skip
          have NB := Aside.intro (hN.mono (show w.heap.size ≤ _ by first | exact Nat.le_trans H1.out.1.size BB.out.size | (have := BB.out.size; have := H1.out.2.2; simp; omega) | (have := H1.out.2.2; simp; omega)))
          have kS := Aside.intro (HK.out u (HB.out u hu))
          obtain ⟨x1, x2⟩ := HK.out u (HB.out u hu)
          have hgu : g < u.heap.size := by have := hu.size; omega
          have BB := Aside.intro hu
          clear hN hb hu))
    | (go_at_call 68
       with_reducible refine (HA.out _ a1 c1 a2 c2 (by first | exact HB.out _ BB.out | exact HB.out _ (BB.out.trans ((below_alloc _ _).mono BB.out.size)) | exact HB.out _ (below_alloc W1 _).drew) (by first | exact NA.out | exact NA.out.below (below_alloc _ _)) (by first | exact NB.out | exact NB.out.below (below_alloc _ _))).mono ?_
       rintro r u ⟨⟨v3, rfl, hN⟩, hb⟩
       obtain ⟨a3, c3, rfl, _⟩ := hN.arg (Nat.le_trans l3 (by decide))
       have hu : Below W1.heap.size W1 u := by
         first
         | exact BB.out.trans (hb.mono BB.out.size)
         | exact (BB.out.trans ((below_alloc _ _).mono BB.out.size)).trans (hb.mono (by have := BB.out.size; simp; omega))
         | exact ((below_alloc W1 _).drew).trans (hb.mono (by simp))
       first
         | have DZ := Aside.intro (And.intro (DZ.out.1.below hb) DZ.out.2)
         | have DZ := Aside.intro (And.intro ((Dk.new _ false (.slice none 0 0) 0).below hb) BB.out.size)
         | have DZ := Aside.intro (And.intro (Dk.below (w := (W1.alloc (.cells #[.bool false, .slice none 0 0, .int .i64 0] 33)).drew) (Dk.new W1 false (.slice none 0 0) 0) hb) (Nat.le_refl W1.heap.size))
         | skip
       have NC := Aside.intro (hN.mono (show W1.heap.size ≤ _ by first | exact BB.out.size | (have := BB.out.size; simp; omega) | (simp; omega)))
       have kS := Aside.intro (HK.out u (HB.out u hu))
       try obtain ⟨d0, d1, d2, df0, df1, df2⟩ := DZ.out.1.facts
       have hgu : g < u.heap.size := by have := hu.size; omega
       have hdz : ∀ k, W1.heap.size ≤ k → g ≠ k := fun k hk => by omega
       have BB := Aside.intro hu
       clear hN hb hu))
  all_goals (
    have Z := H1.out.2.1.below BB.out
    first
      | with_reducible refine name_world8 (Ex9 w W1 n3 (.slice a3 (ws X3).length c3) e3 X3 _) (Ex9.b DZ.out.1 Z NC.out (HB.out u BB.out) (Nat.lt_of_lt_of_le HW1.out DZ.out.2)) ?_
      | with_reducible refine name_world8 (Ex9 w W1 n3 (.slice a3 (ws X3).length c3) e3 X3 u.heap.size) (Ex9.a Z NC.out (HB.out u BB.out) (Nat.ne_of_lt (Nat.lt_of_lt_of_le HW1.out BB.out.size))) ?_
    intro U HU
    obtain ⟨y0, y1, y2, yf0, yf1, yf2⟩ := HU.1.facts
    obtain ⟨z0, z1, z2, zf0, zf1, zf2⟩ := HU.2.1.facts
    have hnk := HU.2.2.2.2
    have HX := Aside.intro HU
    clear hdz hgu HU HK kS EA EB HA HB NA NB NC BB Z H1
    try clear d0 d1 d2 df0 df1 df2 DZ
    go_wp2
    obtain ⟨R1, R2, R3, R4, R5⟩ := HX.out
    have hbt := st3_but8 w.heap.size U (.bool n3) (.slice a3 (ws X3).length c3) (.int .i64 e3)
    refine close8 Tryz.results23 (g := w.heap.size) (n := n3) (v := .slice a3 (ws X3).length c3) (e := e3) ?_ (R2.set _ _ _) ?_
    · rfl
    exact ⟨⟨_, rfl, (R3.dk8 R2 hbt).mono (Nat.le_of_lt HW1.out)⟩, But.below R4 hbt R4.size (Nat.le_refl _)⟩)

theorem GGm (k : Nat) (hk : k = 2053) {c n : Nat} (h : n * 17179869184 + c ≤ 4503599627370496) : (n * 17179869184 + c) * GG < 2 ^ k := by
  have e : 4503599627370496 * GG = 2 ^ (k - 1) := by
    rw [G_eq, show (4503599627370496 : Nat) = 2 ^ 52 by decide, ← Nat.pow_add]
    congr 1
    rw [hk]; rfl
  have h1 : (n * 17179869184 + c) * GG ≤ 4503599627370496 * GG := Nat.mul_le_mul_right _ h
  have h2 : 2 ^ k = 2 ^ (k - 1) * 2 := by rw [← Nat.pow_succ]; congr 1; omega
  have h3 := Nat.two_pow_pos (k - 1)
  omega
theorem GGh (k : Nat) (hk : k = 2053) {c n : Nat} (h : n * 17179869184 + c ≤ 4503599627370496) : (n * 17179869184 + c) * GG * 2 ≤ 2 ^ k := by
  have e : 4503599627370496 * GG = 2 ^ (k - 1) := by
    rw [G_eq, show (4503599627370496 : Nat) = 2 ^ 52 by decide, ← Nat.pow_add]
    congr 1
    rw [hk]; rfl
  have h1 : (n * 17179869184 + c) * GG ≤ 4503599627370496 * GG := Nat.mul_le_mul_right _ h
  have h2 : 2 ^ k = 2 ^ (k - 1) * 2 := by rw [← Nat.pow_succ]; congr 1; omega
  omega
/-- How great a Spread's sum may be. -/
theorem Sx.top {F : Nat → Prop} {w : World} {g n : Nat} {V : Int} {c : Nat} (h : Sx F w g n V c) (m : Nat) (hm : m = 2117) : V.natAbs < 2 ^ m := by
  obtain ⟨va, vb, A, B, V1, V2, h1, h2, h3, h4, h5, h6, h7, h8, r1, r2, r3, r4, r5⟩ := h
  obtain ⟨k, hk⟩ : ∃ k, k = 2053 := ⟨_, rfl⟩
  have a1 := fv_av A
  have a2 := fv_av B
  have b1 := r1.size
  have b2 := r2.size
  have c1 := GGh k hk r5
  rw [r1.val] at a1
  rw [r2.val] at a2
  have d1 : V1.natAbs * 2 ≤ 2 ^ k := by omega
  have d2 : V2.natAbs * 2 ≤ 2 ^ k := by omega
  have d3 := Nat.two_pow_pos k
  rw [show m = k + 64 by omega, Nat.pow_add, show (2 : Nat) ^ 64 = 18446744073709551616 by decide, r3]
  generalize (2 : Nat) ^ k = z at *
  omega
theorem fo8_fr {V : Int} {m : Nat} (hm : m ≤ 200000) (hV : V.natAbs < 2 ^ m) : (ws (dX (fo8 V))).length ≤ 8192 := (fo8_len V m hm hV).1
/-- Exact. -/
theorem exact8 (F : Nat → Prop) (w : World) (g n : Nat) (V : Int) (c : Nat) (h : Sx F w g n V c) (hT : Tab w) :
    Calls Tryz.prog 23 #[.pointer (some ⟨g, 0, none⟩)] w fun r w' => (∃ v, r = .returned (.agg #[.bool (dN (fo8 V)), v, .int .i64 (dE (fo8 V))]) ∧ Nt w.heap.size w' v (dX (fo8 V))) ∧ Below w.heap.size w w' := by
  have htop := h.top
  obtain ⟨va, vb, A, B, V1, V2, h1, h2, h3, h4, h5, h6, h7, h8, r1, r2, r3, r4, r5⟩ := h
  obtain ⟨k, hk⟩ : ∃ k, k = 2053 := ⟨_, rfl⟩
  obtain ⟨m, hm⟩ : ∃ m, m = 2117 := ⟨_, rfl⟩
  have c1 := GGm k hk r5
  have b1 := r1.size
  have b2 := r2.size
  have l1 : avL A < 2 ^ k := by omega
  have l2 : avL B < 2 ^ k := by omega
  have v1 : V1.natAbs < 2 ^ m := by
    have := fv_av A; rw [r1.val] at this
    exact Nat.lt_of_lt_of_le (Nat.lt_of_le_of_lt this l1) (Nat.pow_le_pow_right (by decide) (by omega))
  have v2 : (V2 * 18446744073709551616).natAbs < 2 ^ m := by
    have := fv_av B; rw [r2.val] at this
    have q : V2.natAbs < 2 ^ k := by omega
    rw [show m = k + 64 by omega, Nat.pow_add, show (2 : Nat) ^ 64 = 18446744073709551616 by decide]
    generalize (2 : Nat) ^ k = z at *
    omega
  have e1 : fvL A * 2 ^ 0 = V1 := by rw [r1.val]; simp
  have e2 : fvL B * 2 ^ 64 = V2 * 18446744073709551616 := by rw [r2.val]; rfl
  refine exact_core8 (dN (fo8 V1)) (dN (fo8 (V2 * 18446744073709551616))) _ (dX (fo8 V1)) (dX (fo8 (V2 * 18446744073709551616))) _ (dE (fo8 V1)) (dE (fo8 (V2 * 18446744073709551616))) _ (fo8_fr (m := m) (by omega) v1) (fo8_fr (m := m) (by omega) v2) (fo8_fr (m := m) (by omega) (htop m hm)) h1 (hid fun u hu => ?_) (hid fun u hu => ?_) (hid fun u a c b d hu n1 n2 => ?_)
  · have := exact_any8 0 va A 0 u (h2.below hu) (hT.belows hu) r1.fin (by have := r1.len; omega) k (by omega) (by omega) l1
    rw [e1] at this
    exact this
  · have := exact_any8 0 vb B 64 u (h3.below hu) (hT.belows hu) r2.fin (by have := r2.len; omega) k (by omega) (by omega) l2
    rw [e2] at this
    exact this
  · have q1 := (n1.arg' (Nat.le_trans (fo8_fr (m := m) (by omega) v1) (by decide))).2
    have q2 := (n2.arg' (Nat.le_trans (fo8_fr (m := m) (by omega) v2) (by decide))).2
    obtain ⟨_, s2, s3, _⟩ := fo8_len (V2 * 18446744073709551616) m (by omega) v2
    have := add_any8 V1 (V2 * 18446744073709551616) m (by omega) v1 v2 _ s2 s3 _ _ (fo8_self _ m (by omega) v2) u a b c d (hT.belows hu) q1 q2
    rw [← r3] at this
    exact this
end Go.Proofs.YtnnlicahgdcbdaaGreatDoor

