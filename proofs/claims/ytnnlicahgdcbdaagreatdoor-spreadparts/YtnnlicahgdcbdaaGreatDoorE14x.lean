/- Merge of another one, of itself; Round, Parts. -/
import Derived.Test.YtnnlicahgdcbdaaGreatDoorE8x
import Derived.Test.YtnnlicahgdcbdaaGreatDoorD36x
import Derived.ProofKit
import Derived.OpenShut
import Derived.ChangeOld
import Derived.ChangeArms
import Derived.SizedLaws
import Derived.Laws.Cover2
import Derived.Test.YtnnlicahgdcbdaaGreatDoorD8x
import Derived.Deep.Cut
import Derived.Test.YtnnlicahgdcbdaaGreatDoorO1x
import Derived.Deep.RegionHeld3
namespace Go.Proofs.YtnnlicahgdcbdaaGreatDoor
open Go.RowKit
set_option linter.unusedVariables false
set_option maxRecDepth 20000
set_option linter.unusedSimpArgs false

theorem parts8 (F : Nat → Prop) (w : World) (g n : Nat) (V : Int) (c : Nat) (h : Sx F w g n V c) (hT : Tab w) :
    Calls Tryz.prog 25 #[.pointer (some ⟨g, 0, none⟩)] w fun r w' => ∃ v l, r = .returned v ∧ IsParts V l ∧ FinL l ∧ l.length ≤ 1100000 ∧ Fr w.heap.size w' v l ∧ Below w.heap.size w w' :=
  parts_core8 w g V (h.top ET rfl) hT (hid (exact8 F w g n V c h hT))
set_option maxHeartbeats 2000000 in
theorem round8 (F : Nat → Prop) (w : World) (g n : Nat) (V : Int) (c : Nat) (h : Sx F w g n V c) (hT : Tab w) (mode : Int) :
    Calls Tryz.prog 24 #[.pointer (some ⟨g, 0, none⟩), .int .i64 mode] w fun r w' => r = .returned (.tuple #[.float .f64 (rndS (fo8 V) mode).1, .int .i64 (rndS (fo8 V) mode).2]) ∧ Below w.heap.size w w' := by
  have HE := hid (exact8 F w g n V c h hT)
  have ht := h.top ET rfl
  have HL := Aside.intro (fo8_len V ET (Nat.le_trans ET5 (by decide)) ht).1
  have HR := hid (fun u a c hu q => round_any8 V ET ET5 ht mode u a c hu q)
  have HT := Aside.intro hT
  obtain ⟨X, hX⟩ : ∃ X, X = (rndS (fo8 V) mode).1 := ⟨_, rfl⟩
  obtain ⟨er, her⟩ : ∃ X, X = (rndS (fo8 V) mode).2 := ⟨_, rfl⟩
  rw [← hX, ← her] at HR ⊢
  clear hX her ht h hT
  generalize dN (fo8 V) = nn at *
  generalize dE (fo8 V) = ee at *
  generalize dX (fo8 V) = xx at *
  go_enter Tryz.func24, Tryz.ntmps24
  go_wp2_with fail
  with_reducible refine HE.out.mono ?_
  rintro r w1 ⟨⟨v1, rfl, hN1⟩, hb1⟩
  obtain ⟨a1, c1, rfl, A1⟩ := hN1.arg (Nat.le_trans HL.out (by decide))
  have HR1 := hid (HR.out w1 a1 c1 (HT.out.belows hb1) A1)
  have B1 := Aside.intro hb1
  clear hb1 hN1 A1 HR HE
  go_wp2_with fail
  with_reducible refine HR1.out.mono ?_
  rintro r w2 ⟨rfl, hb2⟩
  have B2 := Aside.intro (B1.out.trans (hb2.mono B1.out.size))
  clear hb2
  go_wp2
  refine bodyPost_ret (v := .tuple #[.float .f64 X, .int .i64 er]) (by simp [results, Tryz.results24, go_sem]) rfl ?_
  exact ⟨rfl, B2.out⟩

theorem room8 {A B : List Nat} {V U : Int} {n c m d : Nat} (h : Rk A V n c) (k : Rk B U m d) (hb : (n + m) * 17179869184 + c + d + m * (n + m) ≤ 4503599627370496) : avL A + avL B + B.length * (A.length + B.length) * GG ≤ 4503599627370496 * GG := by
  have e0 : B.length * (A.length + B.length) ≤ m * (n + m) := Nat.mul_le_mul k.len (by have := h.len; have := k.len; omega)
  have e1 : B.length * (A.length + B.length) * GG ≤ m * (n + m) * GG := Nat.mul_le_mul_right _ e0
  have e2 : ((n + m) * 17179869184 + c + d + m * (n + m)) * GG ≤ 4503599627370496 * GG := Nat.mul_le_mul_right _ hb
  rw [Nat.add_mul n m 17179869184, dist5] at e2
  have hs1 := h.size
  have hs2 := k.size
  omega

/-- Merge: refused. -/
theorem merge_no8 (F G : Nat → Prop) (w : World) (g gb n m : Nat) (V U : Int) (c d : Nat) (h : Sx F w g n V c) (k : Sx G w gb m U d) (hb : 65536 < n + m) :
    Calls Tryz.prog 52 #[.pointer (some ⟨g, 0, none⟩), .pointer (some ⟨gb, 0, none⟩)] w fun r w' => r = .returned (.int .i64 2) ∧ Below w.heap.size w w' := by
  obtain ⟨va, vb, A, B, V1, V2, h1, h2, h3, h4, h5, h6, h7, h8, r1, r2, r3, r4, r5⟩ := h
  obtain ⟨ua, ub, C, D, U1, U2, k1, k2, k3, k4, k5, k6, k7, k8, s1, s2, s3, s4, s5⟩ := k
  exact merge_long8 w g gb n m va vb ua ub h1 k1 r4 s4 hb

theorem merge_all8 (F : Nat → Prop) (w : World) (g gb n m : Nat) (V U : Int) (c d : Nat) (va vb ua ub : Value) (A B C D : List Nat) (V1 V2 U1 U2 : Int)
    (h1 : Sk w g n va vb) (h2 : Fr 0 w va A) (h3 : Fr 0 w vb B) (h4 : ∀ k, va.ownBlock = some k → vb.ownBlock ≠ some k) (h5 : F g) (h6 : ∀ k, va.ownBlock = some k → F k) (h7 : ∀ k, vb.ownBlock = some k → F k) (h8 : ∀ k, F k → k < w.heap.size)
    (r1 : Rk A V1 n c) (r2 : Rk B V2 n c) (r3 : V = V1 + V2 * 18446744073709551616)
    (k1 : Sk w gb m ua ub) (k2 : Fr 0 w ua C) (k3 : Fr 0 w ub D) (s1 : Rk C U1 m d) (s2 : Rk D U2 m d) (s3 : U = U1 + U2 * 18446744073709551616)
    (ap : ∀ k, (k = g ∨ va.ownBlock = some k) → ub.ownBlock ≠ some k) (ag : va.ownBlock ≠ some gb ∧ vb.ownBlock ≠ some gb)
    (hn : n + m ≤ 65536) (hb : (n + m) * 17179869184 + c + d + m * (n + m) ≤ 4503599627370496) :
    Calls Tryz.prog 52 #[.pointer (some ⟨g, 0, none⟩), .pointer (some ⟨gb, 0, none⟩)] w fun r w' => r = .returned (.int .i64 0) ∧ Sx (Gr F w w') w' g (n + m) (V + U) (c + d + m * (n + m)) ∧ Tch F w w' := by
  have la := r1.len
  have lb := r2.len
  have lc := s1.len
  have ld := s2.len
  have hva : va.ownBlock ≠ some g := h1.not_row h2
  have hvb : vb.ownBlock ≠ some g := h1.not_row h3
  refine (merge_core8 w g gb n m va vb ua ub (mergeL A C) (mergeL B D) h1 k1 hn
    (hid fun u hu => merged_any 0 va ua A C u (h2.below hu) (k2.below hu) (Nat.zero_le _) r1.fin s1.fin (by omega) (room8 r1 s1 hb))
    (hid fun u hu => merged_any 0 vb ub B D u ?_ ?_ (Nat.zero_le _) r2.fin s2.fin (by omega) (room8 r2 s2 hb)) ⟨hva, ag.1⟩ ⟨hvb, ag.2⟩).mono ?_
  · refine ⟨h3.1, ?_⟩
    rcases h3.2 with q | ⟨g', cap, cur, rfl, hlo, hgc, rest⟩
    · exact .inl q
    · refine .inr ⟨g', cap, cur, rfl, hlo, ?_, rest⟩
      rw [hu.block g' (Array.getElem?_eq_some_iff.1 hgc).1 (fun q => by
        rcases q with q | q
        · exact hvb (by rw [← q]; rfl)
        · exact h4 g' q rfl)]
      exact hgc
  · refine ⟨k3.1, ?_⟩
    rcases k3.2 with q | ⟨g', cap, cur, rfl, hlo, hgc, rest⟩
    · exact .inl q
    · refine .inr ⟨g', cap, cur, rfl, hlo, ?_, rest⟩
      rw [hu.block g' (Array.getElem?_eq_some_iff.1 hgc).1 (fun q => ap g' q rfl)]
      exact hgc
  · rintro r w' ⟨rfl, v1, v2, w1, w2, f1, g1, o1, f2, g2, o2, bt, sk⟩
    have hs1 : w.heap.size ≤ w1.heap.size := g1.size
    have hs2 : w1.heap.size ≤ w2.heap.size := by have := g2.size; simpa [World.setCell] using this
    have hs3 : w2.heap.size ≤ w'.heap.size := bt.size
    obtain ⟨t1, t2, t3, t4, t5, t6⟩ := Sx.next (F := F) true h1 h2 h3 h4 h5 h6 h7 f1 g1 o1
    -- the first row, through what came behind it
    have hv1g : v1.ownBlock ≠ some g := t5
    have f1' : Fr 0 (w1.setCell ⟨g, 1, none⟩ v1) v1 (mergeL A C) := f1.set hv1g _ _
    have f1'' : Fr 0 w2 v1 (mergeL A C) := f1'.keep g2 (fun k hk => t3 k hk)
    have tc2 : Tch (Gr F w w1) (w1.setCell ⟨g, 1, none⟩ v1) w2 := Tch.grown g2 (fun k hk => .inl (h7 k hk))
    have blk : ∀ (v : Value) (L : List Nat), Fr 0 w2 v L → v.ownBlock ≠ some g → Fr 0 w' v L := by
      intro v L hv hg
      refine ⟨hv.1, ?_⟩
      rcases hv.2 with q | ⟨g', cap, cur, rfl, hlo, hgc, rest⟩
      · exact .inl q
      · refine .inr ⟨g', cap, cur, rfl, hlo, ?_, rest⟩
        rw [bt.block g' (Array.getElem?_eq_some_iff.1 hgc).1 (fun e => hg (by rw [e]; rfl))]
        exact hgc
    have hsk2 : Sk w2 g n v1 vb := ((t1.set1 v1).of_block (g2.block g (by have := t1.lt; simpa [World.setCell] using this) (fun e => hvb e.symm)))
    have hv2g : v2.ownBlock ≠ some g := hsk2.not_row f2
    have tch : Tch F w w' := by
      refine ⟨?_, ?_, ?_, by omega, fun k hk hn => ?_⟩
      · rw [bt.os, g2.os]; exact g1.os
      · rw [bt.tape, g2.tape]; exact g1.tape
      · rw [bt.output, g2.output]; exact g1.output
      · rw [bt.block k (by omega) (fun e => hn (e ▸ h5)), g2.block k (by simp [World.setCell]; omega) (fun e => hn (h7 k e.symm)), Below.heap_setCell _ _ _ _ (fun e => hn (by rw [show k = g from e]; exact h5)), g1.block k hk (fun e => hn (h6 k e.symm))]
    have gr1 : ∀ k, v1.ownBlock = some k → Gr F w w' k := fun k hk => by
      rcases t4 k hk with q | ⟨q1, q2⟩
      · exact .inl q
      · exact .inr ⟨q1, by omega⟩
    have gr2 : ∀ k, v2.ownBlock = some k → Gr F w w' k := fun k hk => by
      rcases o2 with q | ⟨g', q, q2⟩
      · rw [q] at hk; exact .inl (h7 k hk)
      · have h9 := (f2.lt hk).2
        rw [q] at hk
        injection hk with hk
        exact .inr ⟨by omega, by omega⟩
    have apart : ∀ k, v1.ownBlock = some k → v2.ownBlock ≠ some k := fun k hk e => by
      rcases o2 with q | ⟨g', q, q2⟩
      · rw [q] at e; exact t3 k hk e
      · rw [q] at e
        injection e with e
        have := (f1.lt hk).2
        omega
    refine ⟨rfl, ⟨v1, v2, mergeL A C, mergeL B D, V1 + U1, V2 + U2, sk, blk v1 _ f1'' hv1g, blk v2 _ f2 hv2g, apart, .inl h5, gr1, gr2, fun k q => ?_, r1.merge s1 hb, r2.merge s2 hb, ?_, hn, by rw [← Nat.add_assoc, ← Nat.add_assoc]; exact hb⟩, tch⟩
    · rcases q with q | q
      · exact Nat.lt_of_lt_of_le (h8 k q) tch.size
      · exact q.2
    · rw [r3, s3, Int.add_mul]; omega
/-- Merge of another one. -/
theorem merge8 (F G : Nat → Prop) (w : World) (g gb n m : Nat) (V U : Int) (c d : Nat) (h : Sx F w g n V c) (k : Sx G w gb m U d) (hd : ∀ j, F j → ¬ G j) (hn : n + m ≤ 65536) (hb : (n + m) * 17179869184 + c + d + m * (n + m) ≤ 4503599627370496) :
    Calls Tryz.prog 52 #[.pointer (some ⟨g, 0, none⟩), .pointer (some ⟨gb, 0, none⟩)] w fun r w' => r = .returned (.int .i64 0) ∧ Sx (Gr F w w') w' g (n + m) (V + U) (c + d + m * (n + m)) ∧ Tch F w w' := by
  obtain ⟨va, vb, A, B, V1, V2, h1, h2, h3, h4, h5, h6, h7, h8, r1, r2, r3, r4, r5⟩ := h
  obtain ⟨ua, ub, C, D, U1, U2, k1, k2, k3, k4, k5, k6, k7, k8, s1, s2, s3, s4, s5⟩ := k
  refine merge_all8 F w g gb n m V U c d va vb ua ub A B C D V1 V2 U1 U2 h1 h2 h3 h4 h5 h6 h7 h8 r1 r2 r3 k1 k2 k3 s1 s2 s3 ?_ ⟨?_, ?_⟩ hn hb
  · intro j hj e
    have hG := k7 j e
    rcases hj with q | q
    · subst q; exact hd _ h5 hG
    · exact hd _ (h6 j q) hG
  · intro e; exact hd _ (h6 _ e) k5
  · intro e; exact hd _ (h7 _ e) k5
/-- Merge of itself. -/
theorem merge_self8 (F : Nat → Prop) (w : World) (g n : Nat) (V : Int) (c : Nat) (h : Sx F w g n V c) (hn : n + n ≤ 65536) (hb : (n + n) * 17179869184 + c + c + n * (n + n) ≤ 4503599627370496) :
    Calls Tryz.prog 52 #[.pointer (some ⟨g, 0, none⟩), .pointer (some ⟨g, 0, none⟩)] w fun r w' => r = .returned (.int .i64 0) ∧ Sx (Gr F w w') w' g (n + n) (V + V) (c + c + n * (n + n)) ∧ Tch F w w' := by
  obtain ⟨va, vb, A, B, V1, V2, h1, h2, h3, h4, h5, h6, h7, h8, r1, r2, r3, r4, r5⟩ := h
  refine merge_all8 F w g g n n V V c c va vb va vb A B A B V1 V2 V1 V2 h1 h2 h3 h4 h5 h6 h7 h8 r1 r2 r3 h1 h2 h3 r1 r2 r3 ?_ ⟨h1.not_row h2, h1.not_row h3⟩ hn hb
  intro j hj e
  rcases hj with q | q
  · subst q; exact h1.not_row h3 e
  · exact h4 j q e
end Go.Proofs.YtnnlicahgdcbdaaGreatDoor

/- Lists of numbers held against each other; the law's first look. -/
namespace Go.Proofs.YtnnlicahgdcbdaaGreatDoor
open Go.RowKit
set_option linter.unusedVariables false
set_option maxRecDepth 20000
set_option linter.unusedSimpArgs false

/-- Numbers that can be read. -/
def Rf (w : World) (v : Value) (L : List Nat) : Prop := ∃ ao c, v = .slice ao L.length c ∧ (L ≠ [] → ∃ b off, ao = some ⟨b, off, none⟩ ∧ ∀ i, i < L.length → w.cell? ⟨b, off + i, none⟩ = some (.float .f64 (L.getD i 0)))
theorem Fr.rf {lo : Nat} {w : World} {v : Value} {L : List Nat} (h : Fr lo w v L) : Rf w v L := by
  rcases h.shape with ⟨rfl, rfl⟩ | ⟨g, cap, rfl, _, _, _, _, hc⟩
  · exact ⟨none, 0, rfl, fun q => absurd rfl q⟩
  · exact ⟨_, cap, rfl, fun _ => ⟨g, 0, rfl, fun i hi => by rw [Nat.zero_add]; exact hc i hi⟩⟩
set_option maxHeartbeats 2000000 in
theorem same8 (w : World) (va vb : Value) (L : List Nat) (ha : Rf w va L) (hb : Rf w vb L) (hl : L.length ≤ 2000000) :
    Calls Tryz.prog 50 #[va, vb] w fun r w' => r = .returned (.bool true) ∧ Below w.heap.size w w' := by
  obtain ⟨ao, ca, rfl, ha⟩ := ha
  obtain ⟨bo, cb, rfl, hb⟩ := hb
  obtain ⟨n, hn⟩ : ∃ n, n = L.length := ⟨_, rfl⟩
  have HA := Aside.intro (And.intro hn (And.intro ha hb))
  have hn5 : n ≤ 2000000 := by omega
  rw [← hn]
  clear ha hb hn hl
  go_enter Tryz.func50, Tryz.ntmps50
  go_wp2_with fail
  go_loopg [5] n (fun gk iv wr => ∃ i : Nat, gk + i = n ∧ iv = .int .i64 (i : Nat) ∧ Aside (Below w.heap.size w wr))
  case atStart => exact ⟨0, by omega, rfl, Below.refl _ _⟩
  case round =>
    obtain ⟨i, hgi, rfl, HW⟩ := hrel
    by_cases hi : i < n
    · have hne : L ≠ [] := by
        intro e
        have := HA.out.1
        rw [e] at this
        simp at this
        omega
      obtain ⟨b1, o1, rfl, c1⟩ := HA.out.2.1 hne
      obtain ⟨b2, o2, rfl, c2⟩ := HA.out.2.2 hne
      obtain ⟨x, hx⟩ : ∃ x, x = L.getD i 0 := ⟨_, rfl⟩
      have d1 : wr.cell? ⟨b1, o1 + i, none⟩ = some (.float .f64 x) := by
        have q := c1 i (by have := HA.out.1; omega)
        rw [hx, ← q]; exact HW.out.cell (p := ⟨b1, o1 + i, none⟩) (World.block_lt_of_cell? w _ q)
      have d2 : wr.cell? ⟨b2, o2 + i, none⟩ = some (.float .f64 x) := by
        have q := c2 i (by have := HA.out.1; omega)
        rw [hx, ← q]; exact HW.out.cell (p := ⟨b2, o2 + i, none⟩) (World.block_lt_of_cell? w _ q)
      have HS := hid (fun u => rSame_w x x u)
      rw [beq_self_eq_true] at HS
      clear hx c1 c2
      go_wp2
      go_quiet (first | (go_at_call 27; exact Calls.quiet_of_same (HS.out _)))
      go_wp2
      go_roundg (gk - 1)
      case measure => omega
      case rel => exact ⟨i + 1, by omega, by simp, bdrewN HW.out _⟩
    · go_wp2
      go_ret
      exact ⟨rfl, HW.out⟩
end Go.Proofs.YtnnlicahgdcbdaaGreatDoor

/- awake: the law's first look. -/
namespace Go.Proofs.YtnnlicahgdcbdaaGreatDoor
open Go.RowKit
set_option linter.unusedVariables false
set_option maxRecDepth 20000
set_option linter.unusedSimpArgs false

theorem mkS_pow2 (n : Bool) (X k : Nat) : ∀ e : Int, mkS n (X * 2 ^ k) e = mkS n X (e + (k : Nat)) := by
  induction k with
  | zero => intro e; simp
  | succ k ih =>
    intro e
    rw [Nat.pow_succ, ← Nat.mul_assoc, Nat.mul_comm (X * 2 ^ k) 2, mkS_double, ih]
    congr 1
    omega
/-- A whole number times 2^k, in units of 2^-1074. -/
theorem fo8_nat (X k : Nat) (i : Int) (hi : i = (k : Int) - 1074) : fo8 ((X * 2 ^ k : Nat) : Int) = mkS false X i := by
  unfold fo8
  rw [decide_eq_false (by omega), Int.natAbs_natCast, mkS_pow2]
  congr 1
  omega
theorem fv_pos (x j F K : Nat) (hx : x = j * 4503599627370496 + F) (h : j = 0 ∨ 4503599627370496 ≤ F) (hF : F ≤ 9007199254740992) (hx2 : x < 9223372036854775808) : fvW x = ((F * 2 ^ j : Nat) : Int) := by
  unfold fvW
  have e1 : negW x = false := by unfold negW; simp; omega
  have e2 : magW x = x := by unfold magW; omega
  rw [e1, e2, hx, vK_word j F h hF]
  rfl
theorem fv_two53 (k : Nat) (hk : k = 1074) : fvW 4845873199050653696 = ((9007199254740992 * 2 ^ k : Nat) : Int) := by
  obtain ⟨j, hj⟩ : ∃ j, j = 1075 := ⟨_, rfl⟩
  rw [fv_pos 4845873199050653696 j 4503599627370496 0 (by omega) (.inr (Nat.le_refl _)) (by decide) (by decide), show j = k + 1 by omega, Nat.pow_succ]
  congr 1
  generalize (2 : Nat) ^ k = z
  omega
theorem fv_one (k : Nat) (hk : k = 1074) : fvW 4607182418800017408 = ((2 ^ k : Nat) : Int) := by
  obtain ⟨j, hj⟩ : ∃ j, j = 1022 := ⟨_, rfl⟩
  rw [fv_pos 4607182418800017408 j 4503599627370496 0 (by omega) (.inr (Nat.le_refl _)) (by decide) (by decide), show k = 52 + j by omega, Nat.pow_add]
theorem aw_fo (k : Nat) (hk : k = 1074) : fo8 (0 + fvW 4845873199050653696 + fvW 4607182418800017408) = some (false, 9007199254740993, 0) := by
  rw [fv_two53 k hk, fv_one k hk]
  have e : (0 : Int) + ((9007199254740992 * 2 ^ k : Nat) : Int) + ((2 ^ k : Nat) : Int) = ((9007199254740993 * 2 ^ k : Nat) : Int) := by
    generalize (2 : Nat) ^ k = z
    omega
  rw [e, fo8_nat 9007199254740993 k 0 (by omega)]
  have q : mkS false 9007199254740993 0 = some (false, 9007199254740993, 0) := by kernel_rfl
  exact q
theorem aw_rnd : rndS (some (false, 9007199254740993, 0)) 0 = (4845873199050653696, 0) ∧ rndS (some (false, 9007199254740993, 0)) 2 = (4845873199050653697, 0) ∧ rndS (some (false, 9007199254740993, 0)) 5 = (0, 1) := by
  refine ⟨?_, ?_, ?_⟩ <;> kernel_rfl
theorem one_fo (k : Nat) (hk : k = 1074) : fo8 ((2 ^ k : Nat) : Int) = some (false, 1, 0) := by
  have := fo8_nat 1 k 0 (by omega)
  rw [Nat.one_mul] at this
  rw [this]
  have q : mkS false 1 0 = some (false, 1, 0) := by kernel_rfl
  exact q
theorem aw_parts : IsParts (0 + fvW 4845873199050653696 + fvW 4607182418800017408) [4845873199050653696, 4607182418800017408] := by
  obtain ⟨k, hk⟩ : ∃ k, k = 1074 := ⟨_, rfl⟩
  have hp := Nat.two_pow_pos k
  have e : (0 : Int) + fvW 4845873199050653696 + fvW 4607182418800017408 - fvW 4845873199050653696 = ((2 ^ k : Nat) : Int) := by rw [← fv_one k hk]; omega
  refine ⟨?_, ?_, ?_, ?_, ?_⟩
  · rw [fv_two53 k hk, fv_one k hk]; omega
  · unfold nrW
    rw [aw_fo k hk, aw_rnd.1]
    decide
  · rw [e]; omega
  · rw [e]
    unfold nrW
    rw [one_fo k hk]
    have : rndS (some (false, 1, 0)) 0 = (4607182418800017408, 0) := by kernel_rfl
    rw [this]
    decide
  · show _ - _ = _
    rw [e, fv_one k hk]
    omega
theorem fin_two53 : Wd 4845873199050653696 ∧ finW 4845873199050653696 := ⟨by unfold Wd; decide, by unfold finW magW; decide⟩
theorem fin_one8 : Wd 4607182418800017408 ∧ finW 4607182418800017408 := ⟨by unfold Wd; decide, by unfold finW magW; decide⟩
theorem inf_odd8 : Wd 9218868437227405312 ∧ ¬ finW 9218868437227405312 := ⟨by unfold Wd; decide, by unfold finW magW; decide⟩
/-- What an object's memory is, if it was made since. -/
theorem Sx.inter {lo : Nat} {w w' : World} {g n : Nat} {V : Int} {c : Nat} (h : Sx (Gr (fun k => lo ≤ k ∧ k < w.heap.size) w w') w' g n V c) (hlo : lo ≤ w.heap.size) (hs : w.heap.size ≤ w'.heap.size) : Sx (fun k => lo ≤ k ∧ k < w'.heap.size) w' g n V c :=
  h.wide (fun k q => by rcases q with q | q <;> exact ⟨by omega, by omega⟩) (fun k q => q.2)
theorem Sx.inter2 {lo : Nat} {w w' : World} {g n : Nat} {V : Int} {c : Nat} (h : Sx (fun k => lo ≤ k ∧ k < w.heap.size) w g n V c) (hb : Below w.heap.size w w') : Sx (fun k => lo ≤ k ∧ k < w'.heap.size) w' g n V c :=
  (h.below hb).wide (fun k q => ⟨q.1, Nat.lt_of_lt_of_le q.2 hb.size⟩) (fun k q => q.2)
section
attribute [local go_sem] B.f64bits B.f64frombits st_float
set_option maxHeartbeats 8000000 in
theorem awake8 (w : World) (hT : Tab w) : Calls Tryz.prog 13 #[] w fun r w' => r = .returned (.bool true) ∧ Below w.heap.size w w' := by
  have HT := Aside.intro hT
  have heq1 : (FloatKind.f64.format.order 4845873199050653696 4845873199050653696 == some .eq) = true := by kernel_rfl
  have heq2 : (FloatKind.f64.format.order 4845873199050653697 4845873199050653697 == some .eq) = true := by kernel_rfl
  clear hT
  go_enter Tryz.func13, Tryz.ntmps13
  go_wp2_with fail
  refine (new8 w).mono ?_
  rintro r w1 ⟨rfl, h1, h2, _⟩
  have S1 := Aside.intro (And.intro h1 h2)
  clear h1 h2
  go_wp2_with fail
  refine (parts8 _ w1 _ _ _ _ S1.out.1 (HT.out.belows S1.out.2)).mono ?_
  rintro r w2 ⟨v2, l2, rfl, hp, _, _, hf, hb⟩
  obtain rfl : l2 = [] := hp.one (show IsParts 0 [] from rfl)
  obtain ⟨ao2, c2, rfl, _⟩ := hf.rf
  have S2 := Aside.intro (And.intro (S1.out.1.inter2 hb) (S1.out.2.trans (hb.mono S1.out.2.size)))
  clear hp hf hb
  go_wp2_with fail
  refine (add_ok8 _ w2 _ _ _ _ 4845873199050653696 S2.out.1 (by decide) fin_two53.1 fin_two53.2 (by decide)).mono ?_
  rintro r w3 ⟨rfl, hs, ht⟩
  have S3 := Aside.intro (And.intro (hs.inter S2.out.2.size ht.size) (Tch.below S2.out.2 ht (fun j q => q.1) S2.out.2.size))
  clear hs ht
  go_wp2_with fail
  refine (add_ok8 _ w3 _ _ _ _ 4607182418800017408 S3.out.1 (by decide) fin_one8.1 fin_one8.2 (by decide)).mono ?_
  rintro r w4 ⟨rfl, hs, ht⟩
  have S4 := Aside.intro (And.intro (hs.inter S3.out.2.size ht.size) (Tch.below S3.out.2 ht (fun j q => q.1) S3.out.2.size))
  clear hs ht
  go_wp2_with fail
  refine (add_odd8 _ w4 _ _ _ _ 9218868437227405312 S4.out.1 (by decide) inf_odd8.1 inf_odd8.2).mono ?_
  rintro r w5 ⟨rfl, rfl⟩
  go_wp2_with fail
  refine (parts8 _ w5 _ _ _ _ S4.out.1 (HT.out.belows S4.out.2)).mono ?_
  rintro r w6 ⟨v6, l6, rfl, hp, _, _, hf, hb⟩
  obtain rfl : l6 = [4845873199050653696, 4607182418800017408] := hp.one aw_parts
  obtain ⟨ao6, c6, rfl, _⟩ := hf.rf
  have S6 := Aside.intro (And.intro (S4.out.1.inter2 hb) (And.intro (S4.out.2.trans (hb.mono S4.out.2.size)) hf))
  clear hp hf hb
  obtain ⟨k, hk⟩ : ∃ k, k = 1074 := ⟨_, rfl⟩
  go_wp2_with fail
  have R1 := round8 _ w6 _ _ _ _ S6.out.1 (HT.out.belows S6.out.2.1) 0
  rw [aw_fo k hk, aw_rnd.1] at R1
  refine R1.mono ?_
  rintro r w7 ⟨rfl, hb⟩
  have S7 := Aside.intro (And.intro (S6.out.1.inter2 hb) (And.intro (S6.out.2.1.trans (hb.mono S6.out.2.1.size)) (S6.out.2.2.below hb)))
  clear hb R1
  go_wp2_with fail
  have R1 := round8 _ w7 _ _ _ _ S7.out.1 (HT.out.belows S7.out.2.1) 2
  rw [aw_fo k hk, aw_rnd.2.1] at R1
  refine R1.mono ?_
  rintro r w8 ⟨rfl, hb⟩
  have S8 := Aside.intro (And.intro (S7.out.1.inter2 hb) (And.intro (S7.out.2.1.trans (hb.mono S7.out.2.1.size)) (S7.out.2.2.below hb)))
  clear hb R1
  go_wp2_with fail
  have R1 := round8 _ w8 _ _ _ _ S8.out.1 (HT.out.belows S8.out.2.1) 5
  rw [aw_fo k hk, aw_rnd.2.2] at R1
  refine R1.mono ?_
  rintro r w9 ⟨rfl, hb⟩
  have S9 := Aside.intro (And.intro (S8.out.1.inter2 hb) (And.intro (S8.out.2.1.trans (hb.mono S8.out.2.1.size)) (S8.out.2.2.below hb)))
  clear hb R1
  go_wp2_with fail
  have R1 := exact8 _ w9 _ _ _ _ S9.out.1 (HT.out.belows S9.out.2.1)
  rw [aw_fo k hk] at R1
  refine R1.mono ?_
  rintro r w10 ⟨⟨v10, rfl, hN⟩, hb⟩
  have hlen : (ws (dX (some (false, 9007199254740993, 0)))).length = 2 := by
    show (ws 9007199254740993).length = 2
    rw [ws_len_bl]; decide
  obtain ⟨a10, c10, rfl, _⟩ := hN.arg (by rw [hlen]; decide)
  rw [hlen]
  simp only [dN, dE, Option.getD_some]
  obtain ⟨W, hW⟩ : ∃ W, W = w10.alloc (.cells #[.bool false, .slice a10 2 c10, .int .i64 0] 33) := ⟨_, rfl⟩
  obtain ⟨W2, hW2⟩ : ∃ X, X = W.alloc (.cells #[.float .f64 4845873199050653696, .float .f64 4607182418800017408] 38) := ⟨_, rfl⟩
  have hB10 : Below w9.heap.size w9 W2 := by
    subst hW2; subst hW
    have q := hb.trans ((below_alloc w10 (.cells #[.bool false, .slice a10 2 c10, .int .i64 0] 33)).mono hb.size)
    exact q.trans ((below_alloc _ _).mono q.size)
  have hD : Dk W2 w10.heap.size false (.slice a10 2 c10) 0 := by subst hW2; subst hW; exact (Dk.new _ _ _ _).alloc _
  have hRf : Rf W2 (.slice (some ⟨W.heap.size, 0, none⟩) 2 2) [4845873199050653696, 4607182418800017408] := by
    subst hW2
    refine ⟨some ⟨W.heap.size, 0, none⟩, 2, rfl, fun _ => ⟨W.heap.size, 0, rfl, fun i hi => ?_⟩⟩
    have : i = 0 ∨ i = 1 := by simp at hi; omega
    rcases this with rfl | rfl <;> (unfold World.cell?; simp only [heap_alloc_new]; rfl)
  have HSm := hid (same8 W2 _ _ [4845873199050653696, 4607182418800017408] (S9.out.2.2.below hB10).rf hRf (by decide))
  have S10 := Aside.intro (And.intro hD (S9.out.2.1.trans (hB10.mono S9.out.2.1.size)))
  have hWs : W.heap.size = w10.heap.size + 1 := by subst hW; simp
  clear hD hB10 hRf hN hb R1 hlen hk
  go_wp2_with fail
  rw [← hW, ← hW2]
  rw [hWs] at HSm
  clear hW hW2 hWs
  refine HSm.out.mono ?_
  rintro r w11 ⟨rfl, hb⟩
  obtain ⟨x0, x1, x2, _, _, _⟩ := (S10.out.1.below hb).facts
  have S11 := Aside.intro (S10.out.2.trans (hb.mono S10.out.2.size))
  clear hb HSm
  go_wp2
  go_ret
  exact ⟨rfl, S11.out⟩
end
end Go.Proofs.YtnnlicahgdcbdaaGreatDoor

/- Lists that came in. -/
namespace Go.Proofs.YtnnlicahgdcbdaaGreatDoor
open Go.ChangeShapes Go.WideShapes Go.ChangeAt Go.RowKit
set_option linter.unusedVariables false
set_option maxRecDepth 20000
set_option linter.unusedSimpArgs false

/-- Numbers that lie in memory below B. -/
def Fs (B : Nat) (w : World) (ao : Option Addr) (xs : List Nat) : Prop :=
  xs ≠ [] → ∃ b off, b < B ∧ ao = some ⟨b, off, none⟩ ∧ ∀ i, i < xs.length → w.cell? ⟨b, off + i, none⟩ = some (.float .f64 (xs.getD i 0))
theorem Fs.at {B : Nat} {w w' : World} {ao : Option Addr} {xs : List Nat} (h : Fs B w ao xs) (hb : Below B w w') (i : Nat) (hi : i < xs.length) : ∃ b off, ao = some ⟨b, off, none⟩ ∧ w'.cell? ⟨b, off + i, none⟩ = some (.float .f64 (xs.getD i 0)) := by
  obtain ⟨b, off, h1, h2, h3⟩ := h (by intro e; subst e; simp at hi)
  exact ⟨b, off, h2, (hb.cell (p := ⟨b, off + i, none⟩) h1).trans (h3 i hi)⟩
def W64 (xs : List Nat) : Prop := ∀ x ∈ xs, x < 18446744073709551616
theorem W64.get {xs : List Nat} (h : W64 xs) (i : Nat) : xs.getD i 0 < 18446744073709551616 := by
  by_cases hi : i < xs.length
  · rw [List.getD_eq_getElem?_getD, List.getElem?_eq_getElem hi]; exact h _ (List.getElem_mem hi)
  · rw [List.getD_eq_getElem?_getD, List.getElem?_eq_none (by omega)]; simp

theorem trodF {H : Type} {enc : TypeId × Value → H} {P : Program} {w : World} {base : Nat} {spare : Nat → Bool} {held : Bool} {fuel : Nat} {t : TypeId} {cs : List Value} {x : DataW H × List MemPlace} {k : FloatKind} (ht : P.underlying t = some (.float k)) (h : DataW.trod enc P w base spare held fuel t cs = some x) : ∃ n, cs = [.float k n] ∧ x = (.lit (.float k n), []) ∧ (Lit.float k n).wf = true := by
  cases fuel with
  | zero => simp [DataW.trod] at h
  | succ m =>
    simp only [DataW.trod, ht] at h
    split at h <;> simp_all

/-- A list that came in: its numbers, its room. -/
structure CameF (w : World) (a : Option Addr) (n c : Nat) (xs : List Nat) : Prop where
  len : n = xs.length
  cap : n ≤ c
  wf : W64 xs
  rd : Fs w.heap.size w a xs
  nil : a = none → c = 0

theorem add_noneF (b off i : Nat) : (⟨b, off, none⟩ : Addr).add i = ⟨b, off + i, none⟩ := by unfold Addr.add; split <;> simp_all

def numF {H : Type} (y : DataW H × List MemPlace) : Nat := match y.1 with | .lit (.float _ n) => n | _ => 0

theorem Tryz.cellsF : Tryz.prog.cellsOf 38 = 1 := by kernel_rfl
theorem Tryz.bytesF : Tryz.prog.bytesOf 38 = 8 := by kernel_rfl

theorem cameF_of {H : Type} {enc : TypeId × Value → H} {W : World} {a : Option Addr} {n c : Nat} {d : DataW H} {p : List MemPlace} (h : DataW.Trod enc Tryz.prog W 0 (fun _ => true) true 66 (.slice a n c) d p) :
    ∃ xs, CameF W a n c xs ∧ ((d = .nil ∧ c = 0) ∨ ∃ elems spare : List (DataW H), d = .slice elems spare ∧ elems.length + spare.length = c) := by
  obtain ⟨fuel, hf⟩ := h
  rcases DataW.trod_slice Tryz.underlying66 hf with ⟨hcs, hx⟩ | ⟨x, l, cp, elems, rest, m, _, hcs, hx, hb, hl, hm, hlen, hel, hsp, hns⟩
  · simp [Value.cells] at hcs
    obtain ⟨rfl, rfl, rfl⟩ := hcs
    exact ⟨[], ⟨rfl, Nat.le_refl _, (fun x hx => by cases hx), (fun h => absurd rfl h), fun _ => rfl⟩, .inl ⟨(Prod.mk.inj hx).1, rfl⟩⟩
  · simp [Value.cells] at hcs
    obtain ⟨rfl, rfl, rfl⟩ := hcs
    have each : ∀ i y, i < n → elems[i]? = some y → y = (.lit (.float .f64 (numF y)), []) ∧ (Lit.float .f64 (numF y)).wf = true ∧ W.cell? (x.add i) = some (.float .f64 (numF y)) := by
      intro i y hi hy
      have hb' := hel i hi
      rw [hy, Tryz.cellsF, Nat.mul_one, Option.bind_eq_some_iff] at hb'
      obtain ⟨cs', hcs, hy'⟩ := hb'
      obtain ⟨k, rfl, rfl, hw⟩ := trodF Tryz.underlying38 hy'
      exact ⟨rfl, hw, cell_of_cells?_one hcs⟩
    refine ⟨elems.map numF, ⟨by simp [hlen], hl, ?_, ?_, fun e => by cases e⟩, .inr ⟨_, _, (Prod.mk.inj hx).1, ?_⟩⟩
    · intro y hy
      obtain ⟨z, hz, rfl⟩ := List.mem_map.1 hy
      obtain ⟨i, hi⟩ := List.getElem?_of_mem hz
      have hil := (List.getElem?_eq_some_iff.1 hi).1
      have := (each i z (by omega) hi).2.1
      exact of_decide_eq_true this
    · intro hne
      obtain ⟨b, off, spot⟩ := x
      have hn0 : 0 < n := by
        rcases Nat.eq_zero_or_pos n with h0 | h0
        · rw [h0] at hlen; have := List.eq_nil_of_length_eq_zero hlen; subst this; simp at hne
        · exact h0
      have hc0 := (each 0 (elems[0]'(by omega)) hn0 (List.getElem?_eq_getElem _)).2.2
      have hspot : spot = none := by simpa [Addr.add] using World.cell?_spot hc0
      subst hspot
      refine ⟨b, off, World.block_lt_of_cell? W _ (by simpa [Addr.add] using hc0), rfl, fun i hi => ?_⟩
      rw [List.length_map] at hi
      have hadd := add_noneF b off i
      have := (each i (elems[i]'hi) (by omega) (List.getElem?_eq_getElem _)).2.2
      rw [hadd] at this
      rw [this]
      simp [List.getD_eq_getElem?_getD, hi]
    · have hr := (hsp rfl).1
      simp only [List.length_map]
      omega

/-- The form's own reach. -/
theorem cameF_reach {H : Type} {ts : List TypeId} {ds : List (DataW H)} (h : (DataW.weightsEach Tryz.prog ts ds).all (· ≤ reachBytes) = true) {j : Nat} {d : DataW H} {c n : Nat} (ht : ts[j]? = some 66) (hd : ds[j]? = some d) (hn : n ≤ c)
    (hc : (d = .nil ∧ c = 0) ∨ ∃ elems spare : List (DataW H), d = .slice elems spare ∧ elems.length + spare.length = c) : n ≤ 17592186043904 := by
  rcases hc with ⟨_, rfl⟩ | ⟨elems, spare, rfl, hl⟩
  · omega
  · have := sized_slice h ht hd Tryz.underlying66
    rw [Tryz.bytesF, hl] at this
    simp only [reachBytes] at this
    omega

end Go.Proofs.YtnnlicahgdcbdaaGreatDoor

/- finite, told. -/
namespace Go.Proofs.YtnnlicahgdcbdaaGreatDoor
open Go.RowKit
set_option linter.unusedVariables false
set_option maxRecDepth 20000
set_option linter.unusedSimpArgs false

/-- The document's Of: whether a number is finite. -/
theorem rof_fin8 (x : Nat) (hx : Wd x) (w : World) : Calls Tryz.prog 20 #[.float .f64 x] w fun r w' => (∃ n ao c e er, ∃ X, r = .returned (.tuple #[.agg #[.bool n, .slice ao (ws X).length c, .int .i64 e], .int .i64 er]) ∧ (er == 0) = decide (finW x)) ∧ Below w.heap.size w w' := by
  obtain ⟨s, e, f, he, hf, h1, h2⟩ := bwz x hx
  have := rOf3_any s e f he hf w
  rw [← h1] at this
  refine this.mono ?_
  rintro r w' ⟨⟨v, rfl, hN⟩, hb⟩
  obtain ⟨ao, c, rfl, _⟩ := hN.shape
  refine ⟨⟨_, ao, c, _, ofE e, _, rfl, ?_⟩, hb⟩
  unfold ofE
  rw [Bool.eq_iff_iff]
  simp only [beq_iff_eq, decide_eq_true_eq]
  unfold finW magW
  rw [h1]
  unfold B.bw
  constructor
  · intro q
    split at q
    · omega
    · cases s <;> simp <;> omega
  · intro q
    rw [if_neg]
    intro h
    subst h
    cases s <;> simp at q <;> omega
set_option maxHeartbeats 4000000 in
theorem finite8 (w : World) (ao : Option Addr) (n c : Nat) (xs : List Nat) (hn : n = xs.length) (hr : Fs w.heap.size w ao xs) (hw : W64 xs) (hb : n ≤ 4611686018427387904) :
    Calls Tryz.prog 18 #[.slice ao n c] w fun r w' => ∃ v L, r = .returned v ∧ FinL L ∧ L.length ≤ 1000 ∧ Fr w.heap.size w' v L ∧ Below w.heap.size w w' := by
  have HA := Aside.intro (And.intro hn (And.intro hr hw))
  clear hn hr hw
  go_enter Tryz.func18, Tryz.ntmps18
  go_wp2_with fail
  go_loopg [3, 4] n (fun gk ov iv wr => ∃ (i : Nat) (L : List Nat), gk + i = n ∧ iv = .int .i64 (i : Nat) ∧ Aside (FinL L ∧ L.length ≤ 1000 ∧ Fr w.heap.size wr ov L ∧ Below w.heap.size w wr))
  case atStart => exact ⟨0, [], by omega, rfl, FinL.nil, by simp, Fr.nil _ _, Below.refl _ _⟩
  case round =>
    obtain ⟨i, L, hgi, rfl, HW⟩ := hrel
    obtain ⟨bo, m, cp, rfl⟩ := HW.out.2.2.1.slice
    have hm : m = L.length := by rcases HW.out.2.2.1.shape with ⟨h, h'⟩ | ⟨g, cap, h, _⟩ <;> (cases h; first | rfl | (rw [h']; rfl))
    by_cases hi : i < n
    · by_cases hL : m < 1000
      · have HM := Aside.intro (And.intro hm hL)
        clear hm
        obtain ⟨b, off, rfl, hc⟩ := HA.out.2.1.at HW.out.2.2.2 i (by have := HA.out.1; omega)
        obtain ⟨x, hx⟩ : ∃ x, x = xs.getD i 0 := ⟨_, rfl⟩
        rw [← hx] at hc
        have HX : Aside (Wd x) := by rw [hx]; exact HA.out.2.2.get i
        have HO := hid (rof_fin8 x HX.out wr)
        clear hx
        go_wp2_with fail
        with_reducible refine HO.out.mono ?_
        rintro r w1 ⟨⟨dn, da, dc, de, er, dX, rfl, her⟩, hb1⟩
        have hc1 : w1.cell? ⟨b, off + i, none⟩ = some (.float .f64 x) := by
          rw [← hc]; exact hb1.cell (p := ⟨b, off + i, none⟩) (World.block_lt_of_cell? wr _ hc)
        by_cases hf : finW x
        · rw [decide_eq_true hf] at her
          obtain ⟨W2, hW2⟩ : ∃ W, W = w1.alloc (.cells #[.bool dn, .slice da (ws dX).length dc, .int .i64 de] 33) := ⟨_, rfl⟩
          obtain ⟨W, hW⟩ : ∃ W, W = W2.alloc (.cells #[.float .f64 x] 38) := ⟨_, rfl⟩
          have hbx : Below wr.heap.size wr W := by
            subst hW; subst hW2
            have q := hb1.trans ((below_alloc w1 (.cells #[.bool dn, .slice da (ws dX).length dc, .int .i64 de] 33)).mono hb1.size)
            exact q.trans ((below_alloc _ _).mono q.size)
          have hcx : W.cell? ⟨W2.heap.size, 0, none⟩ = some (.float .f64 x) := by subst hW; unfold World.cell?; simp only [heap_alloc_new]; rfl
          have hfr := HW.out.2.2.1.below hbx
          have hbw := HW.out.2.2.2.trans (hbx.mono HW.out.2.2.2.size)
          obtain ⟨v5, w5, hap, hf5, hg5⟩ := append_f8 W w.heap.size _ L x W2.heap.size hfr hcx (by have := HW.out.2.1; omega) hbw.size
          have HAP := hid hap
          have H5 : Aside (FinL (L ++ [x]) ∧ (L ++ [x]).length ≤ 1000 ∧ Fr w.heap.size w5 v5 (L ++ [x]) ∧ Below w.heap.size w w5) := by
            refine ⟨HW.out.1.append (fun y hy => ?_), ?_, hf5, hbw.grown hg5 hbw.size (fun k hk => (hfr.lt hk).1)⟩
            · simp at hy; subst hy; exact ⟨HX.out, hf⟩
            · rw [List.length_append, List.length_singleton]; have := HM.out; omega
          have hd2 : W2.cell? ⟨b, off + i, none⟩ = some (.float .f64 x) := by subst hW2; exact Lib.cell?_alloc_some _ hc1
          clear hap hf5 hg5 hfr hbw hcx hbx hb1 hf HO
          go_upto_region 7 with fail
          rw [← hW2]
          clear hW2
          go_wp2_with (at_builtin; rw [← hW]; refine wpList_append8 rfl (.tmp 28) (.tmp 33) 66 rfl _ _ rfl rfl _ _ HAP.out ?_)
          go_roundg (gk - 1)
          case measure => omega
          case rel => exact ⟨i + 1, _, by omega, by simp, H5⟩
        · rw [decide_eq_false hf] at her
          have H5 : Aside (FinL L ∧ L.length ≤ 1000 ∧ Fr w.heap.size (w1.alloc (.cells #[.bool dn, .slice da (ws dX).length dc, .int .i64 de] 33)) (.slice bo m cp) L ∧ Below w.heap.size w (w1.alloc (.cells #[.bool dn, .slice da (ws dX).length dc, .int .i64 de] 33))) := by
            have q := hb1.trans ((below_alloc w1 (.cells #[.bool dn, .slice da (ws dX).length dc, .int .i64 de] 33)).mono hb1.size)
            exact ⟨HW.out.1, HW.out.2.1, HW.out.2.2.1.below q, HW.out.2.2.2.trans (q.mono HW.out.2.2.2.size)⟩
          clear hb1 hf HO
          go_wp2
          go_roundg (gk - 1)
          case measure => omega
          case rel => exact ⟨i + 1, _, by omega, by simp, H5⟩
      · clear hm
        go_wp2
        go_ret
        exact ⟨_, L, rfl, HW.out⟩
    · clear hm
      go_wp2
      go_ret
      exact ⟨_, L, rfl, HW.out⟩

theorem fvL_take0 (L : List Nat) : fvL (L.take 0) = 0 := by simp [fvL]
set_option maxHeartbeats 4000000 in
theorem told8 (w : World) (ao : Option Addr) (n c : Nat) (L : List Nat) (hn : n = L.length) (hl : n ≤ 1000) (hF : FinL L) (hr : Fs w.heap.size w ao L) :
    Calls Tryz.prog 19 #[.slice ao n c] w fun r w' => r = .returned (.pointer (some ⟨w.heap.size, 0, none⟩)) ∧ Sx (fun j => w.heap.size ≤ j ∧ j < w'.heap.size) w' w.heap.size n (fvL L) (n * n) ∧ Below w.heap.size w w' := by
  have HA := Aside.intro (And.intro hn (And.intro hF hr))
  clear hn hF hr
  go_enter Tryz.func19, Tryz.ntmps19
  go_wp2_with fail
  refine (new8 w).mono ?_
  rintro r w1 ⟨rfl, h1, h2, _⟩
  have H0 : Aside (Sx (fun j => w.heap.size ≤ j ∧ j < w1.heap.size) w1 w.heap.size 0 (fvL (L.take 0)) (0 * 0) ∧ Below w.heap.size w w1) := by
    rw [fvL_take0]; exact ⟨h1, h2⟩
  clear h1 h2
  go_wp2_with fail
  go_loopg [4] n (fun gk iv wr => ∃ i : Nat, gk + i = n ∧ iv = .int .i64 (i : Nat) ∧ Aside (Sx (fun j => w.heap.size ≤ j ∧ j < wr.heap.size) wr w.heap.size i (fvL (L.take i)) (i * i) ∧ Below w.heap.size w wr))
  case atStart => exact ⟨0, by omega, rfl, H0⟩
  case round =>
    clear H0
    obtain ⟨i, hgi, rfl, HW⟩ := hrel
    by_cases hi : i < n
    · have HI : Aside (i < L.length) := by have := HA.out.1; exact Aside.intro (by omega)
      obtain ⟨b, off, rfl, hc⟩ := HA.out.2.2.at HW.out.2 i HI.out
      obtain ⟨x, hx⟩ : ∃ x, x = L.getD i 0 := ⟨_, rfl⟩
      rw [← hx] at hc
      have hii : i * i ≤ 1000 * 1000 := Nat.mul_le_mul (by omega) (by omega)
      have hfx := HA.out.2.1.get i HI.out
      rw [← hx] at hfx
      have HD := hid (add_ok8 _ wr _ _ _ _ x HW.out.1 (by omega) hfx.1 hfx.2 (by omega))
      have HE : Aside (fvL (L.take (i + 1)) = fvL (L.take i) + fvW x ∧ i * i ≤ 1000 * 1000 ∧ i < 1000) := by rw [fvL_take L i HI.out, hx]; exact ⟨rfl, hii, by omega⟩
      clear hii hfx hx
      go_wp2_with fail
      with_reducible refine HD.out.mono ?_
      rintro r w3 ⟨rfl, hs, ht⟩
      have H3 : Aside (Sx (fun j => w.heap.size ≤ j ∧ j < w3.heap.size) w3 w.heap.size (i + 1) (fvL (L.take (i + 1))) ((i + 1) * (i + 1)) ∧ Below w.heap.size w w3) := by
        obtain ⟨e1, e2, e3⟩ := HE.out
        rw [e1]
        have e4 : (i + 1) * (i + 1) = i * i + i + i + 1 := by grind
        refine ⟨(hs.inter HW.out.2.size ht.size).more ?_ ?_, Tch.below HW.out.2 ht (fun j q => q.1) HW.out.2.size⟩
        · omega
        · omega
      clear hs ht HD
      go_wp2
      go_roundg (gk - 1)
      case measure => omega
      case rel => exact ⟨i + 1, by omega, by simp, H3⟩
    · obtain rfl : i = n := by omega
      obtain rfl : gk = 0 := by omega
      have H1 : Aside (Sx (fun j => w.heap.size ≤ j ∧ j < wr.heap.size) wr w.heap.size i (fvL L) (i * i) ∧ Below w.heap.size w wr) := by
        have := HW.out
        rw [show L.take i = L by rw [HA.out.1, List.take_length]] at this
        exact this
      clear HW
      go_wp2
      go_ret
      exact ⟨rfl, H1.out⟩
end Go.Proofs.YtnnlicahgdcbdaaGreatDoor

/- The document's dyads by value; Nearest. -/
namespace Go.Proofs.YtnnlicahgdcbdaaGreatDoor
open Go.RowKit
set_option linter.unusedVariables false
set_option maxRecDepth 20000
set_option linter.unusedSimpArgs false

theorem rof8 (x : Nat) (hx : Wd x ∧ finW x) (w : World) :
    Calls Tryz.prog 20 #[.float .f64 x] w fun r w' => (∃ v, r = .returned (.tuple #[.agg #[.bool (dN (fo8 (fvW x))), v, .int .i64 (dE (fo8 (fvW x)))], .int .i64 0]) ∧ Nt w.heap.size w' v (dX (fo8 (fvW x)))) ∧ Below w.heap.size w w' := by
  obtain ⟨h1, h2, h3, _⟩ := wd64_bw (negW x) (magW x) (Nat.le_of_lt hx.2)
  have := rOf3_any (negW x) (magW x / 4503599627370496) (magW x % 4503599627370496) h2 h3 w
  rw [← h1, ← wd_of x hx.1] at this
  refine this.mono ?_
  rintro r w' ⟨⟨v, rfl, hN⟩, hb⟩
  have e := of_fo8 hx.1 hx.2
  unfold ofK at e
  rw [e] at hN ⊢
  have he : ofE (magW x / 4503599627370496) = 0 := by unfold ofE; rw [if_neg (by have := hx.2; omega)]
  rw [he]
  exact ⟨⟨v, rfl, hN⟩, hb⟩
theorem radd8 (V U : Int) (m : Nat) (hm : m ≤ 100000) (hV : V.natAbs < 2 ^ m) (hU : U.natAbs < 2 ^ m) (w : World) (a b : Option Addr) (c d : Nat) (h1 : Arg w a (ws (dX (fo8 V))).length c (ws (dX (fo8 V)))) (h2 : Arg w b (ws (dX (fo8 U))).length d (ws (dX (fo8 U)))) :
    Calls Tryz.prog 21 #[.agg #[.bool (dN (fo8 V)), .slice a (ws (dX (fo8 V))).length c, .int .i64 (dE (fo8 V))], .agg #[.bool (dN (fo8 U)), .slice b (ws (dX (fo8 U))).length d, .int .i64 (dE (fo8 U))]] w fun r w' =>
      (∃ v, r = .returned (.tuple #[.agg #[.bool (dN (fo8 (V + U))), v, .int .i64 (dE (fo8 (V + U)))], .int .i64 0]) ∧ Nt w.heap.size w' v (dX (fo8 (V + U)))) ∧ Below w.heap.size w w' := by
  obtain ⟨l1, l2, l3, _⟩ := fo8_len V m (by omega) hV
  obtain ⟨k1, k2, k3, _⟩ := fo8_len U m (by omega) hU
  have := rAdd_any3 h1 h2 (by omega) (by omega) (dN (fo8 V)) (dN (fo8 U)) (dE (fo8 V)) (dE (fo8 U)) l2 l3 k2 k3
  rw [val_ws, val_ws, fo8_self V m (by omega) hV, fo8_self U m (by omega) hU, fo8_add V U m hm hV hU] at this
  refine this.mono ?_
  rintro r w' ⟨⟨v, rfl, hN⟩, hb⟩
  have e2 : 2 ^ (m + 1) = 2 * 2 ^ m := by rw [Nat.pow_succ, Nat.mul_comm]
  rw [fo8_er (V + U) (m + 1) (by omega) (by omega)]
  exact ⟨⟨v, rfl, hN⟩, hb⟩
theorem rsub8 (V U : Int) (m : Nat) (hm : m ≤ 100000) (hV : V.natAbs < 2 ^ m) (hU : U.natAbs < 2 ^ m) (w : World) (a b : Option Addr) (c d : Nat) (h1 : Arg w a (ws (dX (fo8 V))).length c (ws (dX (fo8 V)))) (h2 : Arg w b (ws (dX (fo8 U))).length d (ws (dX (fo8 U)))) :
    Calls Tryz.prog 29 #[.agg #[.bool (dN (fo8 V)), .slice a (ws (dX (fo8 V))).length c, .int .i64 (dE (fo8 V))], .agg #[.bool (dN (fo8 U)), .slice b (ws (dX (fo8 U))).length d, .int .i64 (dE (fo8 U))]] w fun r w' =>
      (∃ v, r = .returned (.tuple #[.agg #[.bool (dN (fo8 (V - U))), v, .int .i64 (dE (fo8 (V - U)))], .int .i64 0]) ∧ Nt w.heap.size w' v (dX (fo8 (V - U)))) ∧ Below w.heap.size w w' := by
  obtain ⟨l1, l2, l3, _⟩ := fo8_len V m (by omega) hV
  obtain ⟨k1, k2, k3, _⟩ := fo8_len U m (by omega) hU
  have := rSub_any3 h1 h2 (by omega) (by omega) (dN (fo8 V)) (dN (fo8 U)) (dE (fo8 V)) (dE (fo8 U)) l2 l3 k2 k3
  rw [val_ws, val_ws, fo8_self V m (by omega) hV, fo8_neg U m (by omega) hU, fo8_add V (-U) m hm hV (by omega), show V + -U = V - U by omega] at this
  refine this.mono ?_
  rintro r w' ⟨⟨v, rfl, hN⟩, hb⟩
  have e2 : 2 ^ (m + 1) = 2 * 2 ^ m := by rw [Nat.pow_succ, Nat.mul_comm]
  rw [fo8_er (V - U) (m + 1) (by omega) (by omega)]
  exact ⟨⟨v, rfl, hN⟩, hb⟩
theorem rround8 (V : Int) (m : Nat) (hm : m ≤ 100000) (hV : V.natAbs < 2 ^ m) (mode : Int) (w : World) (a : Option Addr) (c : Nat) (h1 : Arg w a (ws (dX (fo8 V))).length c (ws (dX (fo8 V)))) :
    Calls Tryz.prog 76 #[.agg #[.bool (dN (fo8 V)), .slice a (ws (dX (fo8 V))).length c, .int .i64 (dE (fo8 V))], .int .i64 mode] w fun r w' =>
      r = .returned (.tuple #[.float .f64 (rndS (fo8 V) mode).1, .int .i64 (rndS (fo8 V) mode).2]) ∧ Below w.heap.size w w' := by
  obtain ⟨l1, l2, l3, _⟩ := fo8_len V m (by omega) hV
  have := rRound_any h1 (by omega) (dN (fo8 V)) (dE (fo8 V)) mode l2 l3
  rw [val_ws, fo8_self V m (by omega) hV] at this
  exact this
section
attribute [local go_sem] B.f64bits B.f64frombits
set_option maxHeartbeats 2000000 in
theorem nearest8 (V : Int) (hV : V.natAbs < 2 ^ ET) (w : World) (a : Option Addr) (c : Nat) (h1 : Arg w a (ws (dX (fo8 V))).length c (ws (dX (fo8 V)))) :
    Calls Tryz.prog 28 #[.agg #[.bool (dN (fo8 V)), .slice a (ws (dX (fo8 V))).length c, .int .i64 (dE (fo8 V))]] w fun r w' => r = .returned (.float .f64 (nrW V)) ∧ Below w.heap.size w w' := by
  obtain ⟨W, hW⟩ : ∃ W, W = w.alloc (.cells #[.bool (dN (fo8 V)), .slice a (ws (dX (fo8 V))).length c, .int .i64 (dE (fo8 V))] 33) := ⟨_, rfl⟩
  have hbW : Below w.heap.size w W := by subst hW; exact below_alloc _ _
  have hR := rround8 V ET ET5 hV 0 W a c (h1.below hbW)
  have hw2 : (rndS (fo8 V) 0).1 < 18446744073709551616 := by
    obtain ⟨n, X, e, q1, F, _⟩ := fo8_frm V ET (Nat.le_trans ET5 (by decide)) hV
    rw [q1, rndS_form 0 n X e (by omega) (by omega)]
    have := rW_le 0 n X e F
    show wd64 (rS n X) (rW 0 n X e) < _
    unfold wd64
    split <;> omega
  unfold nrW
  obtain ⟨x, hx⟩ : ∃ x, x = (rndS (fo8 V) 0).1 := ⟨_, rfl⟩
  obtain ⟨er, her⟩ : ∃ x, x = (rndS (fo8 V) 0).2 := ⟨_, rfl⟩
  rw [← hx] at hR hw2 ⊢
  rw [← her] at hR
  have HR := hid hR
  have HB := Aside.intro hbW
  have hand : bits .and .u64 ((x : Nat) : Int) 9223372036854775807 = ((magW x : Nat) : Int) := by
    have h := bits_mask .u64 64 (by decide) B.wraps_u64 63 (by decide) (x : Int) (by omega) (by omega)
    rw [show ((2 : Int) ^ 63 - 1) = 9223372036854775807 from rfl] at h
    rw [h]
    unfold magW
    omega
  clear hR hbW hx her
  generalize dN (fo8 V) = nn at *
  generalize dE (fo8 V) = ee at *
  generalize (ws (dX (fo8 V))).length = ll at *
  cases hm : (magW x == 9218868437227405312)
  · have hcl : clW x = x := by unfold clW; rw [hm]; rfl
    rw [hcl]
    go_enter Tryz.func28, Tryz.ntmps28
    go_wp2_with fail
    rw [← hW]
    clear hW
    with_reducible refine HR.out.mono ?_
    rintro r w1 ⟨rfl, hb⟩
    have B1 := Aside.intro (HB.out.trans (hb.mono HB.out.size))
    have hm2 : ((magW x : Nat) : Int) ≠ 9218868437227405312 := by simp at hm; omega
    have hm3 : (((magW x : Nat) : Int) == 9218868437227405312) = false := by simpa using hm2
    clear hb HR hm2
    go_wp2
    go_ret
    exact ⟨rfl, B1.out⟩
  · have hcl : clW x = x - 1 := by unfold clW; rw [hm]; rfl
    have hx1 : 1 ≤ x := by simp at hm; unfold magW at hm; omega
    obtain ⟨y, hy⟩ : ∃ y, y = x - 1 := ⟨_, rfl⟩
    have hxy : ((x : Nat) : Int) - 1 = (y : Nat) := by omega
    rw [hcl, ← hy]
    clear hcl hy
    go_enter Tryz.func28, Tryz.ntmps28
    go_wp2_with fail
    rw [← hW]
    clear hW
    with_reducible refine HR.out.mono ?_
    rintro r w1 ⟨rfl, hb⟩
    have B1 := Aside.intro (HB.out.trans (hb.mono HB.out.size))
    have hm3 : (((magW x : Nat) : Int) == 9218868437227405312) = true := by simp at hm ⊢; omega
    clear hb HR
    go_wp2
    go_ret
    exact ⟨rfl, B1.out⟩
end
end Go.Proofs.YtnnlicahgdcbdaaGreatDoor

/- Down, Even, Up in their order; parts grow no greater. -/
namespace Go.Proofs.YtnnlicahgdcbdaaGreatDoor
open Go.RowKit J
set_option linter.unusedVariables false
set_option maxRecDepth 20000
set_option linter.unusedSimpArgs false

theorem abs_leF8 {V s f : Int} (h : IsRn V s) (hf : IsF f) (hV : V.natAbs ≤ f.natAbs) : s.natAbs ≤ f.natAbs := by
  by_cases q : 0 ≤ f
  · have h1 := h.le hf (by omega)
    have h2 := h.ge hf.neg (by omega)
    omega
  · have h1 := h.ge hf (by omega)
    have h2 := h.le hf.neg (by omega)
    omega
theorem rK_order (n : Bool) (K : Nat) (t : Bool) (m : Int) : sK n (rK 3 n K t m) ≤ sK n (rK 0 n K t m) ∧ sK n (rK 0 n K t m) ≤ sK n (rK 2 n K t m) := by
  unfold rK sK
  cases t
  · have h3 : outS 3 K m n = n := by unfold outS; simp
    have h2 : outS 2 K m n = !n := by unfold outS; simp
    rw [h3, h2]
    cases n <;> simp <;> (split <;> omega)
  · cases n <;> simp
/-- What is rounded, by three modes. -/
theorem rnd_order (V : Int) (m : Nat) (hm : m ≤ 200000) (hV : V.natAbs < 2 ^ m) :
    ∃ (n : Bool) (A B C : Nat), A ≤ 9218868437227405312 ∧ B ≤ 9218868437227405312 ∧ C ≤ 9218868437227405312 ∧ rndS (fo8 V) 3 = (wd64 n A, 0) ∧ rndS (fo8 V) 0 = (wd64 n B, 0) ∧ rndS (fo8 V) 2 = (wd64 n C, 0) ∧ sK n A ≤ sK n B ∧ sK n B ≤ sK n C := by
  obtain ⟨n, X, e, h1, F, _⟩ := fo8_frm V m hm hV
  rw [h1]
  refine ⟨rS n X, rW 3 n X e, rW 0 n X e, rW 2 n X e, rW_le 3 n X e F, rW_le 0 n X e F, rW_le 2 n X e F, rndS_form 3 n X e (by omega) (by omega), rndS_form 0 n X e (by omega) (by omega), rndS_form 2 n X e (by omega) (by omega), ?_⟩
  unfold rW rS
  by_cases hX : X = 0
  · simp [hX]
  · rw [if_neg hX, if_neg hX, if_neg hX, if_neg hX, rndK_eq, rndK_eq, rndK_eq]
    exact rK_order n _ _ _
theorem le64 (s t : Bool) (K L : Nat) (hK : K ≤ 9218868437227405312) (hL : L ≤ 9218868437227405312) (h : sK s K ≤ sK t L) : ((FloatKind.f64.format.order (wd64 s K) (wd64 t L) == some .lt) || (FloatKind.f64.format.order (wd64 s K) (wd64 t L) == some .eq)) = true := by
  rw [lt64 s t K L hK hL, eq64 s t K L hK hL]
  simp
  omega
/-- A part is no nought. -/
theorem nr_pos (V : Int) (m : Nat) (hm : m ≤ 200000) (hV : V.natAbs < 2 ^ m) (h0 : V ≠ 0) : 0 < (fvW (nrW V)).natAbs := by
  obtain ⟨_, h | ⟨_, _, h3, h4⟩⟩ := nr_any V m hm hV h0
  · have := h.2.2.abs_ge (k := 0) (by simp; omega)
    simp at this
    omega
  · rw [h3, sg_abs]
    obtain ⟨a, ha⟩ : ∃ a, a = 2045 := ⟨_, rfl⟩
    rw [maxV a ha]
    have := Nat.two_pow_pos a
    omega
theorem fin_le (x : Nat) (hx : finW x) : (fvW x).natAbs ≤ vK 9218868437227405311 := by
  unfold fvW
  rw [sg_abs]
  exact vmono (by unfold finW at hx; omega)
/-- The next part is no greater. -/
theorem nr_next (V : Int) (m : Nat) (hm : m ≤ 200000) (hV : V.natAbs < 2 ^ m) (h0 : V ≠ 0) (h1 : V - fvW (nrW V) ≠ 0) : (fvW (nrW (V - fvW (nrW V)))).natAbs ≤ (fvW (nrW V)).natAbs := by
  have hl := (stp_less V m hm hV h0).2
  have hV2 : (V - fvW (nrW V)).natAbs < 2 ^ m := Nat.lt_trans hl hV
  obtain ⟨hf2, h2⟩ := nr_any (V - fvW (nrW V)) m hm hV2 h1
  obtain ⟨hf, h | ⟨_, _, h3, h4⟩⟩ := nr_any V m hm hV h0
  · have hr := h.2.2.rel
    have hle : (V - fvW (nrW V)).natAbs ≤ (fvW (nrW V)).natAbs := by
      generalize fvW (nrW V) = s at *
      have e : (s - V).natAbs = (V - s).natAbs := by omega
      rw [e] at hr
      omega
    rcases h2 with q | ⟨_, _, q3, q4⟩
    · exact abs_leF8 q.2.2 (fv_F _) hle
    · rw [q3, sg_abs]
      omega
  · have q := fin_le _ hf2.2
    have e : (fvW (nrW V)).natAbs = vK 9218868437227405311 := by rw [h3, sg_abs]
    omega
end Go.Proofs.YtnnlicahgdcbdaaGreatDoor

/- SpreadParts: its loops' steps. -/
namespace Go.Proofs.YtnnlicahgdcbdaaGreatDoor
open Go.RowKit J
set_option linter.unusedVariables false
set_option maxRecDepth 20000
set_option linter.unusedSimpArgs false

theorem avL_top (L : List Nat) (hF : FinL L) (m : Nat) (hm : m = 2098) : avL L ≤ L.length * 2 ^ m := by
  induction L with
  | nil => simp [avL]
  | cons x L ih =>
    simp only [avL, List.length_cons]
    rw [Nat.add_mul, Nat.one_mul]
    have h1 := ih hF.tail
    have h2 := top_fv hF.head.1 hF.head.2 m hm
    omega
theorem avL_ET (L : List Nat) (hF : FinL L) (hl : L.length ≤ 1000) : avL L < 2 ^ ET := by
  obtain ⟨m, hm⟩ : ∃ m, m = 2098 := ⟨_, rfl⟩
  have h := avL_top L hF m hm
  have e : 2 ^ ET = 524288 * 2 ^ m := by
    rw [show ET = 19 + m by rw [hm]; rfl, Nat.pow_add]
  have hp := Nat.two_pow_pos m
  have h2 : L.length * 2 ^ m ≤ 1000 * 2 ^ m := Nat.mul_le_mul_right _ hl
  rw [e]
  omega
theorem fv_ET {x : Nat} (h : Wd x ∧ finW x) : (fvW x).natAbs < 2 ^ ET := by
  obtain ⟨z, hz⟩ : ∃ z, z = 2098 := ⟨_, rfl⟩
  exact Nat.lt_of_lt_of_le (top_fv h.1 h.2 z hz) (Nat.pow_le_pow_right (by decide) (by unfold ET; omega))
/-- A Dyad's block whose value is V. -/
def Lv (lo : Nat) (w : World) (g : Nat) (V : Int) : Prop := ∃ a c, Dk w g (dN (fo8 V)) (.slice a (ws (dX (fo8 V))).length c) (dE (fo8 V)) ∧ Nt lo w (.slice a (ws (dX (fo8 V))).length c) (dX (fo8 V))
theorem Lv.below {lo : Nat} {w w' : World} {g : Nat} {V : Int} (h : Lv lo w g V) (hb : Below w.heap.size w w') : Lv lo w' g V := by
  obtain ⟨a, c, h1, h2⟩ := h
  exact ⟨a, c, h1.below hb, h2.below hb⟩
theorem Lv.lt {lo : Nat} {w : World} {g : Nat} {V : Int} (h : Lv lo w g V) : g < w.heap.size := by
  obtain ⟨a, c, h1, h2⟩ := h
  exact h1.lt
theorem Lv.set {lo : Nat} {w : World} {g : Nat} {V U : Int} (h : Lv lo w g V) {a : Option Addr} {c : Nat} (hN : Nt lo w (.slice a (ws (dX (fo8 U))).length c) (dX (fo8 U))) :
    Lv lo (((w.setCell ⟨g, 0, none⟩ (.bool (dN (fo8 U)))).setCell ⟨g, 1, none⟩ (.slice a (ws (dX (fo8 U))).length c)).setCell ⟨g, 2, none⟩ (.int .i64 (dE (fo8 U)))) g U := by
  obtain ⟨a0, c0, h1, h2⟩ := h
  exact ⟨a, c, h1.set _ _ _, hN.dk9 h1 (st3_but8 g w _ _ _)⟩

theorem order_lt0 {y : Nat} (h : Wd y ∧ finW y) (h0 : 0 < (fvW y).natAbs) : (FloatKind.f64.format.order y 0 == some .lt) = negW y ∧ 0 < magW y := by
  have hm : 0 < magW y := by
    by_cases q : magW y = 0
    · have := fv_no (x := y) (by unfold noW; simpa using q)
      rw [this] at h0
      simp at h0
    · omega
  refine ⟨?_, hm⟩
  have e := lt64 (negW y) false (magW y) 0 (Nat.le_of_lt h.2) (by decide)
  rw [← wd_of y h.1, show wd64 false 0 = 0 from rfl] at e
  rw [e, Bool.eq_iff_iff]
  simp only [decide_eq_true_eq, sK]
  cases negW y <;> simp <;> omega
theorem xor_sign8 (r : Nat) (hr : r < 2 ^ 63) : r ^^^ 2 ^ 63 = 2 ^ 63 + r := by
  apply Nat.eq_of_testBit_eq
  intro i
  rw [Nat.testBit_xor, Nat.testBit_two_pow]
  by_cases h : i < 63
  · rw [Nat.testBit_two_pow_add_gt h, decide_eq_false (by omega), Bool.xor_false]
  · by_cases h2 : i = 63
    · subst h2
      rw [Nat.testBit_two_pow_add_eq, decide_eq_true rfl, Bool.xor_true]
    · have h64 : 2 ^ 64 ≤ 2 ^ i := Nat.pow_le_pow_right (by omega) (by omega)
      rw [decide_eq_false (by omega), Bool.xor_false, Nat.testBit_lt_two_pow (by omega : r < 2 ^ i), Nat.testBit_lt_two_pow (by omega : 2 ^ 63 + r < 2 ^ i)]

theorem neg_word {y : Nat} (h : Wd y ∧ finW y) (hn : negW y = true) (u : World) : (Op.unary .neg (.float .f64 y)).run Tryz.prog u = .ok (.float .f64 (magW y)) u := by
  have e : y ^^^ 2 ^ 63 = magW y := by
    have h1 := wd_of y h.1
    rw [hn] at h1
    unfold wd64 at h1
    simp only [if_true] at h1
    have hm : magW y < 9223372036854775808 := by unfold magW; omega
    have key := xor_sign8 (magW y) (by omega)
    conv => lhs; rw [h1]
    rw [show magW y + 9223372036854775808 = magW y ^^^ 2 ^ 63 by rw [key]; omega, Nat.xor_assoc, Nat.xor_self, Nat.xor_zero]
  have e2 : Op.negFloat .f64 y = magW y := e
  rw [← e2]
  rfl
/-- Sizes, as words. -/
theorem size_pos {K : Nat} (h0 : 0 < K) (hK : K ≤ 9218868437227405312) : (FloatKind.f64.format.order K 0 == some .gt) = true := by
  have e := gt64 false false K 0 hK (by decide)
  rw [show wd64 false K = K from rfl, show wd64 false 0 = 0 from rfl] at e
  rw [e]
  simp [sK]
  omega
theorem size_le {K L : Nat} (hK : K ≤ 9218868437227405312) (hL : L ≤ 9218868437227405312) (h : K ≤ L) : ((FloatKind.f64.format.order K L == some .lt) || (FloatKind.f64.format.order K L == some .eq)) = true := by
  have e := le64 false false K L hK hL (by simp [sK]; omega)
  rw [show wd64 false K = K from rfl, show wd64 false L = L from rfl] at e
  exact e
theorem mag_le {x y : Nat} (h : (fvW x).natAbs ≤ (fvW y).natAbs) : magW x ≤ magW y := by
  unfold fvW at h
  rw [sg_abs, sg_abs] at h
  by_cases q : magW x ≤ magW y
  · exact q
  · have := vK_lt.2 (show magW y < magW x by omega)
    omega
end Go.Proofs.YtnnlicahgdcbdaaGreatDoor

