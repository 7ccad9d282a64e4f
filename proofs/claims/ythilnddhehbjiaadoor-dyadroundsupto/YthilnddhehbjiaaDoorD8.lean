/- The program's Of. -/
import Derived.Test.YthilnddhehbjiaaDoorD1x
import Derived.Test.YthilnddhehbjiaaDoorBFlx
import Derived.Deep.RegionWith
import Derived.BigQuiet
namespace Go.Proofs.YthilnddhehbjiaaDoor
open Go.RowKit
set_option linter.unusedVariables false
set_option maxRecDepth 20000
attribute [local go_sem] B.eqParts B.fld0 B.fld1 B.fld2 B.fld3

/-- What Of answers: a form, or that the number is not finite. -/
def ofR (s : Bool) (e f : Nat) : Option (Bool × Nat × Int) := if e = 2047 then none else mkS s (if e = 0 then f else f + 4503599627370496) (if e = 0 then -1074 else (e : Int) - 1075)
def ofE (e : Nat) : Int := if e = 2047 then 30 else 0

def OAns (lo : Nat) (w : World) (r : Ending) (o : Option (Bool × Nat × Int)) (er : Int) : Prop :=
  ∃ v, r = .returned (.tuple #[.agg #[.bool (dN o), v, .int .i64 (dE o)], .int .i64 er]) ∧ Nt lo w v (dX o)

theorem bl_le53 (X : Nat) (h : X < 9007199254740992) : bl X ≤ 53 := by
  by_cases h0 : X = 0
  · subst h0; rw [bl_zero]; omega
  · have := (Nat.pow_lt_pow_iff_right (a := 2) (by omega)).1 (Nat.lt_of_le_of_lt (bl_ge X h0) (show X < 2 ^ 53 from h))
    omega

theorem of_some (s : Bool) (X : Nat) (x : Int) (hX : X < 9007199254740992) (h0 : -1100 ≤ x) (h1 : x ≤ 1000) : ∃ d, mkS s X x = some d := by
  unfold mkS
  by_cases h : X = 0
  · rw [if_pos h]; exact ⟨_, rfl⟩
  · rw [if_neg h]
    obtain ⟨m, _, _, hb⟩ := odd_part X h
    have := bl_le53 X hX
    rw [if_neg (by omega)]
    exact ⟨_, rfl⟩

set_option maxHeartbeats 4000000 in
theorem of_core (s : Bool) (b : Nat) (F : Nat) (k x : Int) (w : World) (hT : Tab w) (hF : F < 9007199254740992) (hx0 : -1100 ≤ x) (hx1 : x ≤ 1000)
    (HA : Hid (∀ u, Calls Tryd.prog 70 #[.float .f64 b] u fun r w' => r = .returned (.float .f64 (b % 9223372036854775808)) ∧ w' = u))
    (HS : Hid (∀ u, Calls Tryd.prog 69 #[.float .f64 (b % 9223372036854775808)] u fun r w' => r = .returned (.agg #[.bool false, .int .i64 k, .int .i64 x, .int .u64 (F : Nat)]) ∧ Below u.heap.size u w'))
    (H0 : Hid (∀ u, Calls Tryd.prog 69 #[.float .f64 0] u fun r w' => r = .returned (.agg #[.bool false, .int .i64 0, .int .i64 (-1074), .int .u64 0]) ∧ Below u.heap.size u w'))
    (hlt : (FloatKind.f64.format.order b 0 == some .lt) = s) (k0 : (k == 0) = false) (k3 : (k == 3) = false) (k4 : (k == 4) = false) :
    Calls Tryd.prog 20 #[.float .f64 b] w fun r w' => DAns w.heap.size w' r (mkS s F x) ∧ Below w.heap.size w w' := by
  generalize hb2 : b % 9223372036854775808 = b2 at *
  clear hb2
  have HO : Hid (∀ u, Calls Tryd.prog 55 #[.int .u64 (F : Nat)] u fun r w' => ∃ v, r = .returned v ∧ Nt u.heap.size w' v F ∧ Below u.heap.size u w') := fun u => of_any F u (by omega)
  have HM : Hid (∀ (u : World) (a : Option Addr) (c : Nat), Tab u → Arg u a (ws F).length c (ws F) → Calls Tryd.prog 22 #[.bool s, .slice a (ws F).length c, .int .i64 x] u fun r w' => DAns u.heap.size w' r (mkS s F x) ∧ Below u.heap.size u w') := by
    intro u a c hTu hA
    have := Make_any hA hTu s x (by omega) (by omega)
    rw [val_ws] at this
    exact this
  have hFl : (ws F).length ≤ 100 := by have := ws_len_bl F; have := bl_le53 F hF; omega
  have hl := mkS_len s F x
  obtain ⟨o, ho⟩ : ∃ o, mkS s F x = o := ⟨_, rfl⟩
  rw [ho] at HM hl ⊢
  unfold DAns at HM ⊢
  obtain ⟨dn, hdn⟩ : ∃ d, dN o = d := ⟨_, rfl⟩
  obtain ⟨X, hdx⟩ : ∃ d, dX o = d := ⟨_, rfl⟩
  obtain ⟨de, hde⟩ : ∃ d, dE o = d := ⟨_, rfl⟩
  obtain ⟨er, her⟩ : ∃ d, erS o = d := ⟨_, rfl⟩
  rw [hdn, hdx, hde, her] at HM ⊢
  rw [hdx] at hl
  have HT := Aside.intro hT
  clear ho hdn hdx hde her hT hF hx0 hx1
  go_enter Tryd.func20, Tryd.ntmps20
  go_wp2_with fail
  refine (Calls.mono (HA.out _)) ?_
  rintro r w1 ⟨rfl, rfl⟩
  go_wp2_with fail
  refine (Calls.mono (HS.out _)) ?_
  rintro r w2 ⟨rfl, hb⟩
  obtain ⟨hc, hf⟩ := bcell hb
  have hz : w.heap.size < w2.heap.size := by have := hb.size; simp at this; omega
  have hbw : Below w.heap.size w w2 := ((Below.refl _ _).alloc (Nat.le_refl _) _).trans (hb.mono (by simp))
  have SB := Aside.intro hbw
  clear hb hbw
  obtain ⟨W2, hW2⟩ : ∃ W, W = w2.alloc (.cells #[.bool false, .int .i64 k, .int .i64 x, .int .u64 (F : Nat)] 85) := ⟨_, rfl⟩
  have hbW : Below w.heap.size w W2 := by rw [hW2]; exact SB.out.alloc (by omega) _
  have P : W2.heap[w2.heap.size]? = some (.cells #[.bool false, .int .i64 k, .int .i64 x, .int .u64 (F : Nat)] 85 (0, 0)) := by rw [hW2, heap_alloc_new]
  have p0 : W2.cell? ⟨w2.heap.size, 0, none⟩ = some (.bool false) := by simp [World.cell?, P]
  have p1 : W2.cell? ⟨w2.heap.size, 1, none⟩ = some (.int .i64 k) := by simp [World.cell?, P]
  have p2 : W2.cell? ⟨w2.heap.size, 2, none⟩ = some (.int .i64 x) := by simp [World.cell?, P]
  have p3 : W2.cell? ⟨w2.heap.size, 3, none⟩ = some (.int .u64 (F : Nat)) := by simp [World.cell?, P]
  have r0 : W2.cell? ⟨w.heap.size, 0, none⟩ = some (.bool false) := by rw [hW2]; go_simp
  have r1 : W2.cell? ⟨w.heap.size, 1, none⟩ = some (.slice none 0 0) := by rw [hW2]; go_simp
  have r2 : W2.cell? ⟨w.heap.size, 2, none⟩ = some (.int .i64 0) := by rw [hW2]; go_simp
  have f0 : W2.frozen? ⟨w.heap.size, 0, none⟩ = false := by rw [hW2]; go_simp
  have f1 : W2.frozen? ⟨w.heap.size, 1, none⟩ = false := by rw [hW2]; go_simp
  have f2 : W2.frozen? ⟨w.heap.size, 2, none⟩ = false := by rw [hW2]; go_simp
  have hz2 : w2.heap.size < W2.heap.size := by rw [hW2]; simp
  have hz3 : w.heap.size < W2.heap.size := by omega
  have SW := Aside.intro hbW
  go_wp2_with fail
  rw [← hW2]
  clear hW2 hbW P hc hf SB
  go_region_with (go_at_call 69; refine (H0.out _).mono ?_; rintro r w3 ⟨rfl, hb3⟩; have hb4 : Below W2.heap.size W2 w3 := (by first | exact hb3 | exact ((Below.refl _ W2).drew).trans (hb3.mono (Nat.le_refl _))); obtain ⟨hc, hf⟩ := bcell hb4; have S3 := Aside.intro hb4; clear hb3 hb4)
  all_goals (
    go_wp2_with fail
    have hz4 : w2.heap.size < w3.heap.size := by have := S3.out.size; omega
    have hz5 : w.heap.size < w3.heap.size := by have := S3.out.size; omega
    go_region_with (first
      | (go_at_call 55
         refine (HO.out _).mono ?_
         rintro r w4 ⟨v4, rfl, hN, hb⟩
         obtain ⟨a4, c4, rfl, A4⟩ := hN.arg (by omega)
         have hb34 : Below w3.heap.size w3 w4 := (by first | exact hb | exact ((Below.refl _ w3).drew).trans (hb.mono (Nat.le_refl _)))
         have T4 : Tab w4 := (HT.out.belows SW.out).belows (S3.out.trans (hb34.mono S3.out.size))
         obtain ⟨hc4, hf4⟩ := bcell hb34
         have hz6 : w.heap.size < w4.heap.size := by have := hb34.size; omega
         have S4 := (Aside.intro (And.intro hb34 (And.intro A4 T4)))
         clear hN hb hb34 A4 T4)
      | (go_at_call 22
         refine (HM.out _ a4 c4 (by first | exact S4.out.2.2 | exact S4.out.2.2) (by first | exact S4.out.2.1 | exact Arg.drew' S4.out.2.1)).mono ?_
         rintro r w5 ⟨⟨v5, rfl, hN⟩, hb⟩
         obtain ⟨a5, c5, rfl, _⟩ := hN.arg (by omega)
         have hb45 : Below w4.heap.size w4 w5 := (by first | exact hb | exact ((Below.refl _ w4).drew).trans (hb.mono (Nat.le_refl _)))
         obtain ⟨hc5, hf5⟩ := bcell hb45
         have HF := Aside.intro (show Fin w.heap.size w4.heap.size w w5 (.slice a5 (ws X).length c5) X from ⟨hN, ((SW.out.trans (S3.out.mono (by omega))).trans (S4.out.1.mono (by omega))).trans (hb45.mono (by omega)), by have := hb45.size; omega⟩)
         clear hN hb hb45))
    all_goals (
      go_wp2
      exact bodyPost_ret (v := .tuple #[.agg #[.bool dn, .slice a5 (ws X).length c5, .int .i64 de], .int .i64 er]) (by simp [results, Tryd.results20, go_sem, hc5, hc4, hc, hz6, hz5, hz3, r0, r1, r2]) rfl (Fin.dans (m := w4.heap.size) (by repeat (first | exact HF.out | refine Fin.alloc ?_ _ | refine Fin.set ?_ _ _ _ (by omega) (by omega))) (by omega))))

set_option maxHeartbeats 4000000 in
theorem of_nought (b b2 : Nat) (w : World)
    (HA : Hid (∀ u, Calls Tryd.prog 70 #[.float .f64 b] u fun r w' => r = .returned (.float .f64 b2) ∧ w' = u))
    (HS : Hid (∀ u, Calls Tryd.prog 69 #[.float .f64 b2] u fun r w' => r = .returned (.agg #[.bool false, .int .i64 0, .int .i64 (-1074), .int .u64 0]) ∧ Below u.heap.size u w'))
    (H0 : Hid (∀ u, Calls Tryd.prog 69 #[.float .f64 0] u fun r w' => r = .returned (.agg #[.bool false, .int .i64 0, .int .i64 (-1074), .int .u64 0]) ∧ Below u.heap.size u w')) :
    Calls Tryd.prog 20 #[.float .f64 b] w fun r w' => r = .returned (.tuple #[.agg #[.bool false, .slice none 0 0, .int .i64 0], .int .i64 0]) ∧ Below w.heap.size w w' := by
  go_enter Tryd.func20, Tryd.ntmps20
  go_wp2_with fail
  refine (Calls.mono (HA.out _)) ?_
  rintro r w1 ⟨rfl, rfl⟩
  go_wp2_with fail
  refine (Calls.mono (HS.out _)) ?_
  rintro r w2 ⟨rfl, hb⟩
  obtain ⟨hc, hf⟩ := bcell hb
  have hz : w.heap.size < w2.heap.size := by have := hb.size; simp at this; omega
  have hbw : Below w.heap.size w w2 := ((Below.refl _ _).alloc (Nat.le_refl _) _).trans (hb.mono (by simp))
  have SB := Aside.intro hbw
  clear hb hbw
  obtain ⟨W2, hW2⟩ : ∃ W, W = w2.alloc (.cells #[.bool false, .int .i64 0, .int .i64 (-1074), .int .u64 0] 85) := ⟨_, rfl⟩
  have hbW : Below w.heap.size w W2 := by rw [hW2]; exact SB.out.alloc (by omega) _
  have P : W2.heap[w2.heap.size]? = some (.cells #[.bool false, .int .i64 0, .int .i64 (-1074), .int .u64 0] 85 (0, 0)) := by rw [hW2, heap_alloc_new]
  have p0 : W2.cell? ⟨w2.heap.size, 0, none⟩ = some (.bool false) := by simp [World.cell?, P]
  have p1 : W2.cell? ⟨w2.heap.size, 1, none⟩ = some (.int .i64 0) := by simp [World.cell?, P]
  have p2 : W2.cell? ⟨w2.heap.size, 2, none⟩ = some (.int .i64 (-1074)) := by simp [World.cell?, P]
  have p3 : W2.cell? ⟨w2.heap.size, 3, none⟩ = some (.int .u64 0) := by simp [World.cell?, P]
  have r0 : W2.cell? ⟨w.heap.size, 0, none⟩ = some (.bool false) := by rw [hW2]; go_simp
  have r1 : W2.cell? ⟨w.heap.size, 1, none⟩ = some (.slice none 0 0) := by rw [hW2]; go_simp
  have r2 : W2.cell? ⟨w.heap.size, 2, none⟩ = some (.int .i64 0) := by rw [hW2]; go_simp
  have f0 : W2.frozen? ⟨w.heap.size, 0, none⟩ = false := by rw [hW2]; go_simp
  have f1 : W2.frozen? ⟨w.heap.size, 1, none⟩ = false := by rw [hW2]; go_simp
  have f2 : W2.frozen? ⟨w.heap.size, 2, none⟩ = false := by rw [hW2]; go_simp
  have hz2 : w2.heap.size < W2.heap.size := by rw [hW2]; simp
  have hz3 : w.heap.size < W2.heap.size := by omega
  have SW := Aside.intro hbW
  go_wp2_with fail
  rw [← hW2]
  clear hW2 hbW P hc hf SB
  go_region_with (go_at_call 69; refine (H0.out _).mono ?_; rintro r w3 ⟨rfl, hb3⟩; have hb4 : Below W2.heap.size W2 w3 := (by first | exact hb3 | exact ((Below.refl _ W2).drew).trans (hb3.mono (Nat.le_refl _))); obtain ⟨hc, hf⟩ := bcell hb4; have S3 := Aside.intro hb4; clear hb3 hb4)
  all_goals (
    go_wp2
    have hbf := SW.out.trans (S3.out.mono (by omega))
    have hzf : w.heap.size ≤ w3.heap.size := by have := S3.out.size; omega
    exact bodyPost_ret (v := .tuple #[.agg #[.bool false, .slice none 0 0, .int .i64 0], .int .i64 0]) (by simp [results, Tryd.results20, go_sem, hc, hz3, r0, r1, r2]) rfl ⟨rfl, Below.setC (Below.setC (Below.setC hbf _ _ _ (Nat.le_refl _) hzf) _ _ _ (Nat.le_refl _) (by simpa [World.setCell] using hzf)) _ _ _ (Nat.le_refl _) (by simpa [World.setCell] using hzf)⟩)

set_option maxHeartbeats 4000000 in
theorem of_wild (b b2 : Nat) (k : Int) (w : World) (hk : k = 3 ∨ k = 4)
    (HA : Hid (∀ u, Calls Tryd.prog 70 #[.float .f64 b] u fun r w' => r = .returned (.float .f64 b2) ∧ w' = u))
    (HS : Hid (∀ u, Calls Tryd.prog 69 #[.float .f64 b2] u fun r w' => r = .returned (.agg #[.bool false, .int .i64 k, .int .i64 0, .int .u64 0]) ∧ Below u.heap.size u w'))
    (H0 : Hid (∀ u, Calls Tryd.prog 69 #[.float .f64 0] u fun r w' => r = .returned (.agg #[.bool false, .int .i64 0, .int .i64 (-1074), .int .u64 0]) ∧ Below u.heap.size u w')) :
    Calls Tryd.prog 20 #[.float .f64 b] w fun r w' => r = .returned (.tuple #[.agg #[.bool false, .slice none 0 0, .int .i64 0], .int .i64 30]) ∧ Below w.heap.size w w' := by
  have k0 : (k == 0) = false := by rcases hk with rfl | rfl <;> rfl
  go_enter Tryd.func20, Tryd.ntmps20
  go_wp2_with fail
  refine (Calls.mono (HA.out _)) ?_
  rintro r w1 ⟨rfl, rfl⟩
  go_wp2_with fail
  refine (Calls.mono (HS.out _)) ?_
  rintro r w2 ⟨rfl, hb⟩
  obtain ⟨hc, hf⟩ := bcell hb
  have hz : w.heap.size < w2.heap.size := by have := hb.size; simp at this; omega
  have hbw : Below w.heap.size w w2 := ((Below.refl _ _).alloc (Nat.le_refl _) _).trans (hb.mono (by simp))
  have SB := Aside.intro hbw
  clear hb hbw
  obtain ⟨W2, hW2⟩ : ∃ W, W = w2.alloc (.cells #[.bool false, .int .i64 k, .int .i64 0, .int .u64 0] 85) := ⟨_, rfl⟩
  have hbW : Below w.heap.size w W2 := by rw [hW2]; exact SB.out.alloc (by omega) _
  have P : W2.heap[w2.heap.size]? = some (.cells #[.bool false, .int .i64 k, .int .i64 0, .int .u64 0] 85 (0, 0)) := by rw [hW2, heap_alloc_new]
  have p0 : W2.cell? ⟨w2.heap.size, 0, none⟩ = some (.bool false) := by simp [World.cell?, P]
  have p1 : W2.cell? ⟨w2.heap.size, 1, none⟩ = some (.int .i64 k) := by simp [World.cell?, P]
  have p2 : W2.cell? ⟨w2.heap.size, 2, none⟩ = some (.int .i64 0) := by simp [World.cell?, P]
  have p3 : W2.cell? ⟨w2.heap.size, 3, none⟩ = some (.int .u64 0) := by simp [World.cell?, P]
  have r0 : W2.cell? ⟨w.heap.size, 0, none⟩ = some (.bool false) := by rw [hW2]; go_simp
  have r1 : W2.cell? ⟨w.heap.size, 1, none⟩ = some (.slice none 0 0) := by rw [hW2]; go_simp
  have r2 : W2.cell? ⟨w.heap.size, 2, none⟩ = some (.int .i64 0) := by rw [hW2]; go_simp
  have f0 : W2.frozen? ⟨w.heap.size, 0, none⟩ = false := by rw [hW2]; go_simp
  have f1 : W2.frozen? ⟨w.heap.size, 1, none⟩ = false := by rw [hW2]; go_simp
  have f2 : W2.frozen? ⟨w.heap.size, 2, none⟩ = false := by rw [hW2]; go_simp
  have hz2 : w2.heap.size < W2.heap.size := by rw [hW2]; simp
  have hz3 : w.heap.size < W2.heap.size := by omega
  have SW := Aside.intro hbW
  go_wp2_with fail
  rw [← hW2]
  clear hW2 hbW P hc hf SB
  go_region_with (go_at_call 69; refine (H0.out _).mono ?_; rintro r w3 ⟨rfl, hb3⟩; have hb4 : Below W2.heap.size W2 w3 := (by first | exact hb3 | exact ((Below.refl _ W2).drew).trans (hb3.mono (Nat.le_refl _))); obtain ⟨hc, hf⟩ := bcell hb4; have S3 := Aside.intro hb4; clear hb3 hb4)
  all_goals (
    have hbf := Aside.intro (SW.out.trans (S3.out.mono (by omega)))
    have hzf : w.heap.size ≤ w3.heap.size := by have := S3.out.size; omega
    rcases hk with rfl | rfl
    all_goals (
      go_wp2
      exact bodyPost_ret (v := .tuple #[.agg #[.bool false, .slice none 0 0, .int .i64 0], .int .i64 30]) (by simp [results, Tryd.results20, go_sem, hc, hz3, r0, r1, r2]) rfl ⟨rfl, Below.setC (Below.setC (Below.setC hbf.out _ _ _ (Nat.le_refl _) hzf) _ _ _ (Nat.le_refl _) (by simpa [World.setCell] using hzf)) _ _ _ (Nat.le_refl _) (by simpa [World.setCell] using hzf)⟩))

theorem Of_any (s : Bool) (e f : Nat) (he : e < 2048) (hf : f < 4503599627370496) (w : World) (hT : Tab w) :
    Calls Tryd.prog 20 #[.float .f64 (B.bw s e f)] w fun r w' => OAns w.heap.size w' r (ofR s e f) (ofE e) ∧ Below w.heap.size w w' := by
  have HA : Hid (∀ u, Calls Tryd.prog 70 #[.float .f64 (B.bw s e f)] u fun r w' => r = .returned (.float .f64 (B.bw false e f)) ∧ w' = u) := fun u => B.abs_any s e f he hf u
  have HS : ∀ u, Calls Tryd.prog 69 #[.float .f64 (B.bw false e f)] u fun r w' => r = .returned (.agg #[.bool (B.ng false e f), .int .i64 (B.cls e f), .int .i64 (B.xp e), .int .u64 (B.fr e f)]) ∧ Below u.heap.size u w' := fun u => B.Split_any false e f he hf u
  have H0 : Hid (∀ u, Calls Tryd.prog 69 #[.float .f64 0] u fun r w' => r = .returned (.agg #[.bool false, .int .i64 0, .int .i64 (-1074), .int .u64 0]) ∧ Below u.heap.size u w') := fun u => B.Split_any false 0 0 (by omega) (by omega) u
  have hng : B.ng false e f = false := by unfold B.ng; split <;> rfl
  rw [hng] at HS
  unfold ofR ofE
  by_cases h7 : e = 2047
  · rw [if_pos h7, if_pos h7]
    have h2 : B.xp e = 0 ∧ B.fr e f = 0 := by unfold B.xp B.fr; rw [if_pos h7, if_pos h7]; exact ⟨rfl, rfl⟩
    rw [h2.1, h2.2] at HS
    have hk : B.cls e f = 3 ∨ B.cls e f = 4 := by unfold B.cls; rw [if_pos h7]; split <;> simp
    exact (of_wild _ _ _ w hk HA (hid HS) H0).mono fun r w' ⟨h1, h3⟩ => ⟨⟨_, h1, Nt.nil _ _⟩, h3⟩
  · rw [if_neg h7, if_neg h7]
    have hx : B.xp e = (if e = 0 then -1074 else (e : Int) - 1075) := by unfold B.xp; rw [if_neg h7]
    have hfr : B.fr e f = (((if e = 0 then f else f + 4503599627370496 : Nat)) : Int) := by unfold B.fr; rw [if_neg h7]; split <;> simp
    rw [hx, hfr] at HS
    by_cases h0 : e = 0 ∧ f = 0
    · obtain ⟨rfl, rfl⟩ := h0
      rw [show B.cls 0 0 = 0 from rfl] at HS
      simp only [if_pos, Int.ofNat_zero] at HS
      rw [if_pos rfl, mkS_zero]
      exact (of_nought _ _ w HA (hid HS) H0).mono fun r w' ⟨h1, h3⟩ => ⟨⟨_, h1, Nt.nil _ _⟩, h3⟩
    · have hcl : B.cls e f = 1 ∨ B.cls e f = 2 := by
        unfold B.cls; rw [if_neg h7]
        by_cases h1 : e = 0
        · rw [if_pos h1, if_neg (fun h => h0 ⟨h1, h⟩)]; simp
        · rw [if_neg h1]; simp
      obtain ⟨F, hF⟩ : ∃ F : Nat, (if e = 0 then f else f + 4503599627370496 : Nat) = F := ⟨_, rfl⟩
      obtain ⟨x, hxx⟩ : ∃ x : Int, (if e = 0 then -1074 else (e : Int) - 1075) = x := ⟨_, rfl⟩
      have hFb : F < 9007199254740992 := by rw [← hF]; split <;> omega
      have hxb : -1100 ≤ x ∧ x ≤ 1000 := by rw [← hxx]; split <;> omega
      rw [hF, hxx] at HS ⊢
      have ho : B.odd e f = false := by unfold B.odd; simp [h7]
      have hz : (e == 0 && f == 0) = false := by
        cases h1 : (e == 0 && f == 0)
        · rfl
        · exact absurd (by simpa using h1) h0
      have hb2 : B.bw false e f = B.bw s e f % 9223372036854775808 := by
        have h1 := B.bw_mod s e f he hf
        have h2 : (B.bw false e f : Int) = (e : Int) * 4503599627370496 + f := by unfold B.bw; simp
        omega
      rw [hb2] at HA HS
      obtain ⟨d, hd⟩ := of_some s F x hFb hxb.1 hxb.2
      have := of_core s (B.bw s e f) F (B.cls e f) x w hT hFb hxb.1 hxb.2 HA (hid HS) H0 (B.lt_zero s e f he hf ho hz) (by rcases hcl with h | h <;> rw [h] <;> rfl) (by rcases hcl with h | h <;> rw [h] <;> rfl) (by rcases hcl with h | h <;> rw [h] <;> rfl)
      refine this.mono fun r w' ⟨⟨v, h1, h2⟩, h3⟩ => ⟨⟨v, ?_, h2⟩, h3⟩
      rw [h1, hd]
      rfl
end Go.Proofs.YthilnddhehbjiaaDoor
