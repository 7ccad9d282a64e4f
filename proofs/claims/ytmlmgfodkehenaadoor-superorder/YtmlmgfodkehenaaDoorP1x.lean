/- policy: May, sound. -/
import Derived.Test.YtmlmgfodkehenaaDoorW10x
import Derived.Test.YtmlmgfodkehenaaDoorBIeeex
import Derived.Test.YtmlmgfodkehenaaDoorS9x
import Derived.Deep.RegionWith
import Derived.Laws.StructEq
import Derived.BigQuiet
import Derived.Deep.RegionHeld3
import Derived.Deep.Cut
import Derived.Test.YtmlmgfodkehenaaDoorM1x
import Derived.Laws.FloatArith
namespace Go.Proofs.YtmlmgfodkehenaaDoor
set_option linter.unusedVariables false
set_option maxRecDepth 20000
set_option linter.unusedSimpArgs false
open Go.RowKit
open Go.Proofs.YtmlmgfodkehenaaDoor.B (f64bits f64frombits bw)
attribute [local go_sem] f64bits f64frombits

/-- May a way be? -/
def kn (a : Int) : Bool := decide (0 ≤ a) && decide (a ≤ 2)
def may (a b : Int) : Bool := kn a && kn b
/-- May a count be? -/
def ct (a : Int) : Bool := decide (0 ≤ a) && decide (a ≤ 1099511627776)

theorem ret_bool {a b : Bool} (h : a = b) : Ending.returned (.bool a) = .returned (.bool b) := by rw [h]

theorem known_any (a : Int) (w : World) : Calls Tryd.prog 81 #[.int .i64 a] w fun r w' => r = .returned (.bool (kn a)) ∧ w' = w := by
  unfold kn
  by_cases h : 0 ≤ a
  · have hd : decide (0 ≤ a) = true := decide_eq_true h
    rw [hd]
    go_enter Tryd.func81, Tryd.ntmps81
    go_wp2
    go_ret
    exact ⟨by first | rfl | simp, rfl⟩
  · have hd : decide (0 ≤ a) = false := decide_eq_false h
    rw [hd]
    go_enter Tryd.func81, Tryd.ntmps81
    go_wp2
    go_ret
    exact ⟨by first | rfl | simp, rfl⟩

theorem countable_any (a : Int) (w : World) : Calls Tryd.prog 90 #[.int .i64 a] w fun r w' => r = .returned (.bool (ct a)) ∧ w' = w := by
  unfold ct
  by_cases h : 0 ≤ a
  · have hd : decide (0 ≤ a) = true := decide_eq_true h
    rw [hd]
    go_enter Tryd.func90, Tryd.ntmps90
    go_wp2
    go_ret
    exact ⟨by first | rfl | simp, rfl⟩
  · have hd : decide (0 ≤ a) = false := decide_eq_false h
    rw [hd]
    go_enter Tryd.func90, Tryd.ntmps90
    go_wp2
    go_ret
    exact ⟨by first | rfl | simp, rfl⟩

set_option maxHeartbeats 1000000 in
theorem May_any (a b : Int) (w : World) : Calls Tryd.prog 60 #[.agg #[.int .i64 a, .int .i64 b]] w fun r w' => r = .returned (.bool (may a b)) ∧ Below w.heap.size w w' := by
  unfold may
  rcases ha : kn a with _ | _
  · have H := hid (fun w => ha ▸ known_any a w)
    clear ha
    go_enter Tryd.func60, Tryd.ntmps60
    go_wp2_with fail
    refine (H.out _).mono ?_
    rintro r w1 ⟨rfl, rfl⟩
    go_wp2
    go_ret
    exact ⟨rfl, (Below.refl _ _).alloc (Nat.le_refl _) _⟩
  · have H := hid (fun w => ha ▸ known_any a w)
    have H2 := hid (fun w => known_any b w)
    obtain ⟨kb, hkb⟩ : ∃ k, kn b = k := ⟨_, rfl⟩
    rw [hkb] at H2 ⊢
    clear ha hkb
    go_enter Tryd.func60, Tryd.ntmps60
    go_wp2_with fail
    refine (H.out _).mono ?_
    rintro r w1 ⟨rfl, rfl⟩
    go_wp2_with fail
    refine (H2.out _).mono ?_
    rintro r w1 ⟨rfl, rfl⟩
    go_wp2
    go_ret
    exact ⟨by first | rfl | simp, (Below.refl _ _).alloc (Nat.le_refl _) _⟩

/-- A nought, an infinity, by its sign. -/
def zr (neg : Bool) : Nat := if neg then 9223372036854775808 else 0
def inf (neg : Bool) : Nat := if neg then 18442240474082181120 else 9218868437227405312

theorem mInf_up (w : World) : Calls Tryd.prog 72 #[.int .i64 1] w fun r w' => r = .returned (.float .f64 9218868437227405312) ∧ w' = w := by
  go_enter Tryd.func72, Tryd.ntmps72
  go_wp2
  go_ret
  exact ⟨rfl, rfl⟩

theorem mInf_down (w : World) : Calls Tryd.prog 72 #[.int .i64 (-1)] w fun r w' => r = .returned (.float .f64 18442240474082181120) ∧ w' = w := by
  go_enter Tryd.func72, Tryd.ntmps72
  go_wp2
  go_ret
  exact ⟨rfl, rfl⟩

theorem minus_any (w : World) : Calls Tryd.prog 71 #[.float .f64 0, .float .f64 13830554455654793216] w fun r w' => r = .returned (.float .f64 9223372036854775808) ∧ w' = w := by
  have h1 : bits .andNot .u64 0 9223372036854775808 = 0 := by decide +kernel
  have h2 : bits .and .u64 13830554455654793216 9223372036854775808 = 9223372036854775808 := by decide +kernel
  have h3 : bits .or .u64 0 9223372036854775808 = 9223372036854775808 := by decide +kernel
  go_enter Tryd.func71, Tryd.ntmps71
  go_wp2
  go_ret
  exact ⟨rfl, rfl⟩

open Go.RowKit
open Go.Proofs.YtmlmgfodkehenaaDoor.B (f64bits f64frombits bw bcell)
attribute [local go_sem] f64bits f64frombits

/-- May Specials be? -/
def snd (n u d m p a : Int) : Bool := ct n && ct u && ct d && (ct m && ct p && ct a) && decide (n + u + d + m + p ≤ a)
theorem ct_true {n : Int} (h : ct n = true) : 0 ≤ n ∧ n ≤ 1099511627776 := by unfold ct at h; simpa using h

theorem ct_five {n u d m p : Int} (i : Nat) (hi : i < 5) (h : ct ([n, u, d, m, p].getD i 0) = false) (a : Int) : snd n u d m p a = false := by
  unfold snd
  obtain rfl | rfl | rfl | rfl | rfl : i = 0 ∨ i = 1 ∨ i = 2 ∨ i = 3 ∨ i = 4 := by omega
  all_goals (simp at h; simp [h])
def ps (L : List Int) (i : Nat) : Int := (L.take i).sum
theorem ps_succ (L : List Int) (i : Nat) (h : i < L.length) : ps L (i + 1) = ps L i + L.getD i 0 := by
  unfold ps; rw [List.take_succ_eq_append_getElem h, List.sum_append, List.getD_eq_getElem?_getD, List.getElem?_eq_getElem h]; simp

set_option maxHeartbeats 4000000 in
theorem sound_any (n u d m p a : Int) (w : World) : Calls Tryd.prog 82 #[.agg #[.int .i64 n, .int .i64 u, .int .i64 d, .int .i64 m, .int .i64 p, .int .i64 a]] w fun r w' => r = .returned (.bool (snd n u d m p a)) ∧ Below w.heap.size w w' := by
  obtain ⟨L, hL⟩ : ∃ L : List Int, L = [n, u, d, m, p] := ⟨_, rfl⟩
  have hlen : L.length = 5 := by rw [hL]; rfl
  have HL := (Aside.intro (And.intro hL hlen))
  obtain ⟨W, hW⟩ : ∃ W, W = (w.alloc (.cells #[.int .i64 n, .int .i64 u, .int .i64 d, .int .i64 m, .int .i64 p, .int .i64 a] 31)).alloc (.cells #[.int .i64 n, .int .i64 u, .int .i64 d, .int .i64 m, .int .i64 p] 128) := ⟨_, rfl⟩
  have hcell : ∀ i, i < 5 → W.cell? ⟨w.heap.size + 1, i, none⟩ = some (.int .i64 (L.getD i 0)) := by
    intro i hi
    have h1 := heap_alloc_new (w.alloc (.cells #[.int .i64 n, .int .i64 u, .int .i64 d, .int .i64 m, .int .i64 p, .int .i64 a] 31)) (.cells #[.int .i64 n, .int .i64 u, .int .i64 d, .int .i64 m, .int .i64 p] 128)
    rw [← hW] at h1
    simp only [World.size_alloc] at h1
    subst hL
    simp only [World.cell?, h1]
    obtain rfl | rfl | rfl | rfl | rfl : i = 0 ∨ i = 1 ∨ i = 2 ∨ i = 3 ∨ i = 4 := by omega
    all_goals simp
  have ha5 : W.cell? ⟨w.heap.size, 5, none⟩ = some (.int .i64 a) := by rw [hW]; simp [go_sem]
  have hbel : Below w.heap.size w W := by rw [hW]; exact ((Below.refl _ _).alloc (Nat.le_refl _) _).alloc (by simp) _
  have HC := (Aside.intro (And.intro hcell (And.intro hbel (And.intro hW ha5))))
  clear hL hlen hcell hbel hW ha5
  have HA := hid (countable_any a)
  go_enter Tryd.func82, Tryd.ntmps82
  go_wp2
  go_loopg [4, 17] 5 (fun gk sv iv wr => ∃ i : Nat, gk + i = 5 ∧ sv = .int .i64 (ps L i) ∧ iv = .int .i64 (i : Nat) ∧ wr = W ∧ Aside (∀ j, j < i → ct (L.getD j 0) = true) ∧ 0 ≤ ps L i ∧ ps L i ≤ (i : Int) * 1099511627776)
  case atStart => exact ⟨0, rfl, rfl, rfl, by rw [HC.out.2.2.1], fun j hj => absurd hj (by omega), by simp [ps], by simp [ps]⟩
  case round =>
    obtain ⟨i, hi, rfl, rfl, rfl, HT, hp0, hp1⟩ := hrel
    obtain ⟨hcell, hbel, hW, ha5⟩ := HC.out
    by_cases hi5 : i = 5
    · obtain rfl : gk = 0 := by omega
      subst hi5
      have hs : snd n u d m p a = (ct a && decide (ps L 5 ≤ a)) := by
        have h0 := HT.out 0 (by omega)
        have h1 := HT.out 1 (by omega)
        have h2 := HT.out 2 (by omega)
        have h3 := HT.out 3 (by omega)
        have h4 := HT.out 4 (by omega)
        have e := HL.out.1
        subst e
        have e2 : ps [n, u, d, m, p] 5 = n + u + d + m + p := by simp [ps]; omega
        rw [e2]
        simp at h0 h1 h2 h3 h4
        unfold snd
        rw [h0, h1, h2, h3, h4]
        simp
      obtain ⟨q, hq⟩ : ∃ q, ps L 5 = q := ⟨_, rfl⟩
      rw [hq] at hp0 hp1 hs ⊢
      have HS := Aside.intro hs
      clear hcell hW hs hq
      rcases ha : ct a with _ | _
      · rw [ha] at HA HS
        clear ha
        go_wp2_with fail
        refine (HA.out _).mono ?_
        rintro r w1 ⟨rfl, rfl⟩
        go_wp2
        go_ret
        exact ⟨by rw [HS.out]; first | rfl | simp, hbel⟩
      · rw [ha] at HA HS
        clear ha
        go_wp2_with fail
        refine (HA.out _).mono ?_
        rintro r w1 ⟨rfl, rfl⟩
        go_wp2
        go_ret
        exact ⟨by rw [HS.out]; first | rfl | simp, hbel⟩
    · have hil : i < 5 := by omega
      have hci := hcell i hil
      have HK := hid (countable_any (L.getD i 0))
      have hps := ps_succ L i (by rw [HL.out.2]; exact hil)
      obtain ⟨x, hx⟩ : ∃ x, L.getD i 0 = x := ⟨_, rfl⟩
      rw [hx] at hci HK hps
      rcases hc : ct x with _ | _
      · rw [hc] at HK
        have HS : Aside (snd n u d m p a = false) := by
          have h1 := hc
          rw [← hx, HL.out.1] at h1
          exact ct_five i hil h1 a
        have HB := Aside.intro hbel
        clear hcell hbel hW ha5 hps hx hc hi5 HC HL
        go_wp2_with fail
        refine (HK.out _).mono ?_
        rintro r w1 ⟨rfl, rfl⟩
        go_wp2
        go_ret
        exact ⟨by rw [HS.out]; rfl, HB.out⟩
      · rw [hc] at HK
        have hb := ct_true hc
        obtain ⟨q, hq⟩ : ∃ q, ps L i = q := ⟨_, rfl⟩
        obtain ⟨q2, hq2⟩ : ∃ q, ps L (i + 1) = q := ⟨_, rfl⟩
        rw [hq, hq2] at hps
        rw [hq] at hp0 hp1 ⊢
        have hq3 : q + x = q2 := hps.symm
        have hq4 : 0 ≤ q2 ∧ q2 ≤ ((i : Int) + 1) * 1099511627776 := by
          have : ((i : Int) + 1) * 1099511627776 = (i : Int) * 1099511627776 + 1099511627776 := by omega
          omega
        have hq5 : q2 ≤ 9223372036854775807 := by omega
        have hq6 : -9223372036854775808 ≤ q2 := by omega
        have HR := (Aside.intro (And.intro hq2 (And.intro hq4 (And.intro hx (And.intro hc hq3)))))
        clear hcell hbel hW ha5 hps hx hc hi5 HC hq2 hq hp0 hp1 hb hq4
        go_wp2_with fail
        refine (HK.out _).mono ?_
        rintro r w1 ⟨rfl, rfl⟩
        go_wp2
        go_roundg (5 - (i + 1))
        case measure => omega
        case rel =>
          obtain ⟨hq2, hq4, hx, hc, hq3⟩ := HR.out
          refine ⟨i + 1, by omega, ?_, by first | go_num | (congr 1; omega), rfl, ?_, by rw [hq2]; exact hq4.1, by rw [hq2]; have := hq4.2; push_cast; exact this⟩
          · first | (rw [hq2]; done) | (rw [hq2, ← hq3]; done)
          · intro j hj
            by_cases hji : j = i
            · subst hji; rw [hx]; exact hc
            · exact HT.out j (by omega)
/-- The verdict. -/
def vd (ok : Bool) (n u d a b : Int) : Nat × Bool :=
  if ok = false then (0, false) else if 0 < n ∧ a = 0 then (9221120237041090560, true) else if ¬ b = 0 then (0, false)
  else if 0 < u ∧ 0 < d then (9221120237041090560, true) else if 0 < u then (9218868437227405312, true) else if 0 < d then (18442240474082181120, true) else (0, false)
/-- Which nought. -/
def nt (ok : Bool) (n u d m p a mode : Int) : Nat :=
  if ok = false then 0 else if a - n - u - d = 0 then 0 else if m = a - n - u - d then 9223372036854775808 else if p = a - n - u - d then 0 else if mode = 3 then 9223372036854775808 else 0
theorem snd_bd {n u d m p a : Int} (h : snd n u d m p a = true) : (0 ≤ n ∧ n ≤ 1099511627776) ∧ (0 ≤ u ∧ u ≤ 1099511627776) ∧ (0 ≤ d ∧ d ≤ 1099511627776) ∧ (0 ≤ a ∧ a ≤ 1099511627776) := by
  unfold snd at h
  simp only [Bool.and_eq_true] at h
  exact ⟨ct_true h.1.1.1.1, ct_true h.1.1.1.2, ct_true h.1.1.2, ct_true h.1.2.2⟩

end Go.Proofs.YtmlmgfodkehenaaDoor

/- policy: Verdict. -/
namespace Go.Proofs.YtmlmgfodkehenaaDoor
set_option linter.unusedVariables false
set_option maxRecDepth 20000
set_option linter.unusedSimpArgs false
open Go.RowKit
open Go.Proofs.YtmlmgfodkehenaaDoor.B (f64bits f64frombits bw bcell)
attribute [local go_sem] f64bits f64frombits

set_option maxHeartbeats 8000000 in
theorem Verdict_any (n u d m p l a b : Int) (w : World) : Calls Tryd.prog 61 #[.agg #[.int .i64 n, .int .i64 u, .int .i64 d, .int .i64 m, .int .i64 p, .int .i64 l], .agg #[.int .i64 a, .int .i64 b]] w fun r w' => r = .returned (.tuple #[.float .f64 (vd (snd n u d m p l && may a b) n u d a b).1, .bool (vd (snd n u d m p l && may a b) n u d a b).2]) ∧ Below w.heap.size w w' := by
  have HS := hid (sound_any n u d m p l)
  have HM := hid (May_any a b)
  have HN := hid (B.nan_any)
  have HU := hid (mInf_up)
  have HD := hid (mInf_down)
  rcases hs : snd n u d m p l with _ | _
  · rw [hs] at HS
    rw [Bool.false_and]
    have hv : vd false n u d a b = (0, false) := by unfold vd; rw [if_pos rfl]
    rw [hv]
    clear hs hv
    go_enter Tryd.func61, Tryd.ntmps61
    go_wp2_with fail
    refine (HS.out _).mono ?_
    rintro r w1 ⟨rfl, hb1⟩
    have hz1 := hb1.size
    simp at hz1
    obtain ⟨hc1, hf1⟩ := bcell hb1
    have B1 := Aside.intro hb1
    clear hb1
    go_wp2
    go_ret2
    exact ⟨by first | rfl | simp, (((Below.refl _ w).alloc (Nat.le_refl _) _).alloc (by simp) _).trans (B1.out.mono (by simp; omega))⟩
  rcases hm : may a b with _ | _
  · rw [hs] at HS
    rw [hm] at HM
    have hv : vd (true && false) n u d a b = (0, false) := if_pos rfl
    rw [hv]
    clear hs hm hv
    go_enter Tryd.func61, Tryd.ntmps61
    go_wp2_with fail
    refine (HS.out _).mono ?_
    rintro r w1 ⟨rfl, hb1⟩
    have hz1 := hb1.size
    simp at hz1
    obtain ⟨hc1, hf1⟩ := bcell hb1
    have B1 := Aside.intro hb1
    clear hb1
    go_wp2_with fail
    refine (HM.out _).mono ?_
    rintro r w2 ⟨rfl, hb2⟩
    have hz2 := hb2.size
    obtain ⟨hc2, hf2⟩ := bcell hb2
    have hc3 : ∀ b o, b < w.heap.size + 1 + 1 → w2.cell? ⟨b, o, none⟩ = w1.cell? ⟨b, o, none⟩ := fun b o h => hc2 b o (by omega)
    have B2 := Aside.intro hb2
    clear hb2 hc2 hf2
    go_wp2
    go_ret2
    exact ⟨by first | rfl | simp, ((((Below.refl _ w).alloc (Nat.le_refl _) _).alloc (by simp) _).trans (B1.out.mono (by simp; omega))).trans (B2.out.mono (by omega))⟩
  rw [hs] at HS
  rw [hm] at HM
  rw [Bool.true_and]
  clear hs hm
  have way1 : 0 < n → a = 0 → Calls Tryd.prog 61 #[.agg #[.int .i64 n, .int .i64 u, .int .i64 d, .int .i64 m, .int .i64 p, .int .i64 l], .agg #[.int .i64 a, .int .i64 b]] w fun r w' => r = .returned (.tuple #[.float .f64 (vd true n u d a b).1, .bool (vd true n u d a b).2]) ∧ Below w.heap.size w w' := by
    intro p1 p2
    have hv : vd true n u d a b = (9221120237041090560, true) := by unfold vd; rw [if_neg (by decide), if_pos ⟨p1, p2⟩]
    rw [hv]
    clear hv
    have q1 : 0 < n := p1
    have q2 : a = 0 := p2
    subst q2
    go_enter Tryd.func61, Tryd.ntmps61
    go_wp2_with fail
    refine (HS.out _).mono ?_
    rintro r w1 ⟨rfl, hb1⟩
    have hz1 := hb1.size
    simp at hz1
    obtain ⟨hc1, hf1⟩ := bcell hb1
    have B1 := Aside.intro hb1
    clear hb1
    go_wp2_with fail
    refine (HM.out _).mono ?_
    rintro r w2 ⟨rfl, hb2⟩
    have hz2 := hb2.size
    obtain ⟨hc2, hf2⟩ := bcell hb2
    have hc3 : ∀ b o, b < w.heap.size + 1 + 1 → w2.cell? ⟨b, o, none⟩ = w1.cell? ⟨b, o, none⟩ := fun b o h => hc2 b o (by omega)
    have B2 := Aside.intro hb2
    clear hb2 hc2 hf2
    go_wp2_with fail
    refine (HN.out _).mono ?_
    rintro r w3 ⟨rfl, rfl⟩
    go_wp2
    go_ret2
    exact ⟨by first | rfl | simp, ((((Below.refl _ w).alloc (Nat.le_refl _) _).alloc (by simp) _).trans (B1.out.mono (by simp; omega))).trans (B2.out.mono (by omega))⟩
  have way2 : 0 < n → ¬ (a = 0) → ¬ (b = 0) → Calls Tryd.prog 61 #[.agg #[.int .i64 n, .int .i64 u, .int .i64 d, .int .i64 m, .int .i64 p, .int .i64 l], .agg #[.int .i64 a, .int .i64 b]] w fun r w' => r = .returned (.tuple #[.float .f64 (vd true n u d a b).1, .bool (vd true n u d a b).2]) ∧ Below w.heap.size w w' := by
    intro p1 p2 p3
    have hv : vd true n u d a b = (0, false) := by unfold vd; rw [if_neg (by decide), if_neg (fun h => p2 h.2), if_pos p3]
    rw [hv]
    clear hv
    have q1 : 0 < n := p1
    have q2 : (a == 0) = false := by rw [beq_eq_false_iff_ne]; exact p2
    have q3 : (b == 0) = false := by rw [beq_eq_false_iff_ne]; exact p3
    go_enter Tryd.func61, Tryd.ntmps61
    go_wp2_with fail
    refine (HS.out _).mono ?_
    rintro r w1 ⟨rfl, hb1⟩
    have hz1 := hb1.size
    simp at hz1
    obtain ⟨hc1, hf1⟩ := bcell hb1
    have B1 := Aside.intro hb1
    clear hb1
    go_wp2_with fail
    refine (HM.out _).mono ?_
    rintro r w2 ⟨rfl, hb2⟩
    have hz2 := hb2.size
    obtain ⟨hc2, hf2⟩ := bcell hb2
    have hc3 : ∀ b o, b < w.heap.size + 1 + 1 → w2.cell? ⟨b, o, none⟩ = w1.cell? ⟨b, o, none⟩ := fun b o h => hc2 b o (by omega)
    have B2 := Aside.intro hb2
    clear hb2 hc2 hf2
    go_wp2
    go_ret2
    exact ⟨by first | rfl | simp, ((((Below.refl _ w).alloc (Nat.le_refl _) _).alloc (by simp) _).trans (B1.out.mono (by simp; omega))).trans (B2.out.mono (by omega))⟩
  have way3 : 0 < n → ¬ (a = 0) → b = 0 → 0 < u → 0 < d → Calls Tryd.prog 61 #[.agg #[.int .i64 n, .int .i64 u, .int .i64 d, .int .i64 m, .int .i64 p, .int .i64 l], .agg #[.int .i64 a, .int .i64 b]] w fun r w' => r = .returned (.tuple #[.float .f64 (vd true n u d a b).1, .bool (vd true n u d a b).2]) ∧ Below w.heap.size w w' := by
    intro p1 p2 p3 p4 p5
    have hv : vd true n u d a b = (9221120237041090560, true) := by unfold vd; rw [if_neg (by decide), if_neg (fun h => p2 h.2), if_neg (not_not_intro p3), if_pos ⟨p4, p5⟩]
    rw [hv]
    clear hv
    have q1 : 0 < n := p1
    have q2 : (a == 0) = false := by rw [beq_eq_false_iff_ne]; exact p2
    have q3 : b = 0 := p3
    have q4 : 0 < u := p4
    have q5 : 0 < d := p5
    subst q3
    go_enter Tryd.func61, Tryd.ntmps61
    go_wp2_with fail
    refine (HS.out _).mono ?_
    rintro r w1 ⟨rfl, hb1⟩
    have hz1 := hb1.size
    simp at hz1
    obtain ⟨hc1, hf1⟩ := bcell hb1
    have B1 := Aside.intro hb1
    clear hb1
    go_wp2_with fail
    refine (HM.out _).mono ?_
    rintro r w2 ⟨rfl, hb2⟩
    have hz2 := hb2.size
    obtain ⟨hc2, hf2⟩ := bcell hb2
    have hc3 : ∀ b o, b < w.heap.size + 1 + 1 → w2.cell? ⟨b, o, none⟩ = w1.cell? ⟨b, o, none⟩ := fun b o h => hc2 b o (by omega)
    have B2 := Aside.intro hb2
    clear hb2 hc2 hf2
    go_wp2_with fail
    refine (HN.out _).mono ?_
    rintro r w3 ⟨rfl, rfl⟩
    go_wp2
    go_ret2
    exact ⟨by first | rfl | simp, ((((Below.refl _ w).alloc (Nat.le_refl _) _).alloc (by simp) _).trans (B1.out.mono (by simp; omega))).trans (B2.out.mono (by omega))⟩
  have way4 : 0 < n → ¬ (a = 0) → b = 0 → 0 < u → ¬ (0 < d) → Calls Tryd.prog 61 #[.agg #[.int .i64 n, .int .i64 u, .int .i64 d, .int .i64 m, .int .i64 p, .int .i64 l], .agg #[.int .i64 a, .int .i64 b]] w fun r w' => r = .returned (.tuple #[.float .f64 (vd true n u d a b).1, .bool (vd true n u d a b).2]) ∧ Below w.heap.size w w' := by
    intro p1 p2 p3 p4 p5
    have hv : vd true n u d a b = (9218868437227405312, true) := by unfold vd; rw [if_neg (by decide), if_neg (fun h => p2 h.2), if_neg (not_not_intro p3), if_neg (fun h => p5 h.2), if_pos p4]
    rw [hv]
    clear hv
    have q1 : 0 < n := p1
    have q2 : (a == 0) = false := by rw [beq_eq_false_iff_ne]; exact p2
    have q3 : b = 0 := p3
    have q4 : 0 < u := p4
    have q5 : decide (0 < d) = false := decide_eq_false p5
    subst q3
    go_enter Tryd.func61, Tryd.ntmps61
    go_wp2_with fail
    refine (HS.out _).mono ?_
    rintro r w1 ⟨rfl, hb1⟩
    have hz1 := hb1.size
    simp at hz1
    obtain ⟨hc1, hf1⟩ := bcell hb1
    have B1 := Aside.intro hb1
    clear hb1
    go_wp2_with fail
    refine (HM.out _).mono ?_
    rintro r w2 ⟨rfl, hb2⟩
    have hz2 := hb2.size
    obtain ⟨hc2, hf2⟩ := bcell hb2
    have hc3 : ∀ b o, b < w.heap.size + 1 + 1 → w2.cell? ⟨b, o, none⟩ = w1.cell? ⟨b, o, none⟩ := fun b o h => hc2 b o (by omega)
    have B2 := Aside.intro hb2
    clear hb2 hc2 hf2
    go_wp2_with fail
    refine (HU.out _).mono ?_
    rintro r w3 ⟨rfl, rfl⟩
    go_wp2
    go_ret2
    exact ⟨by first | rfl | simp, ((((Below.refl _ w).alloc (Nat.le_refl _) _).alloc (by simp) _).trans (B1.out.mono (by simp; omega))).trans (B2.out.mono (by omega))⟩
  have way5 : 0 < n → ¬ (a = 0) → b = 0 → ¬ (0 < u) → 0 < d → Calls Tryd.prog 61 #[.agg #[.int .i64 n, .int .i64 u, .int .i64 d, .int .i64 m, .int .i64 p, .int .i64 l], .agg #[.int .i64 a, .int .i64 b]] w fun r w' => r = .returned (.tuple #[.float .f64 (vd true n u d a b).1, .bool (vd true n u d a b).2]) ∧ Below w.heap.size w w' := by
    intro p1 p2 p3 p4 p5
    have hv : vd true n u d a b = (18442240474082181120, true) := by unfold vd; rw [if_neg (by decide), if_neg (fun h => p2 h.2), if_neg (not_not_intro p3), if_neg (fun h => p4 h.1), if_neg p4, if_pos p5]
    rw [hv]
    clear hv
    have q1 : 0 < n := p1
    have q2 : (a == 0) = false := by rw [beq_eq_false_iff_ne]; exact p2
    have q3 : b = 0 := p3
    have q4 : decide (0 < u) = false := decide_eq_false p4
    have q5 : 0 < d := p5
    subst q3
    go_enter Tryd.func61, Tryd.ntmps61
    go_wp2_with fail
    refine (HS.out _).mono ?_
    rintro r w1 ⟨rfl, hb1⟩
    have hz1 := hb1.size
    simp at hz1
    obtain ⟨hc1, hf1⟩ := bcell hb1
    have B1 := Aside.intro hb1
    clear hb1
    go_wp2_with fail
    refine (HM.out _).mono ?_
    rintro r w2 ⟨rfl, hb2⟩
    have hz2 := hb2.size
    obtain ⟨hc2, hf2⟩ := bcell hb2
    have hc3 : ∀ b o, b < w.heap.size + 1 + 1 → w2.cell? ⟨b, o, none⟩ = w1.cell? ⟨b, o, none⟩ := fun b o h => hc2 b o (by omega)
    have B2 := Aside.intro hb2
    clear hb2 hc2 hf2
    go_wp2_with fail
    refine (HD.out _).mono ?_
    rintro r w3 ⟨rfl, rfl⟩
    go_wp2
    go_ret2
    exact ⟨by first | rfl | simp, ((((Below.refl _ w).alloc (Nat.le_refl _) _).alloc (by simp) _).trans (B1.out.mono (by simp; omega))).trans (B2.out.mono (by omega))⟩
  have way6 : 0 < n → ¬ (a = 0) → b = 0 → ¬ (0 < u) → ¬ (0 < d) → Calls Tryd.prog 61 #[.agg #[.int .i64 n, .int .i64 u, .int .i64 d, .int .i64 m, .int .i64 p, .int .i64 l], .agg #[.int .i64 a, .int .i64 b]] w fun r w' => r = .returned (.tuple #[.float .f64 (vd true n u d a b).1, .bool (vd true n u d a b).2]) ∧ Below w.heap.size w w' := by
    intro p1 p2 p3 p4 p5
    have hv : vd true n u d a b = (0, false) := by unfold vd; rw [if_neg (by decide), if_neg (fun h => p2 h.2), if_neg (not_not_intro p3), if_neg (fun h => p4 h.1), if_neg p4, if_neg p5]
    rw [hv]
    clear hv
    have q1 : 0 < n := p1
    have q2 : (a == 0) = false := by rw [beq_eq_false_iff_ne]; exact p2
    have q3 : b = 0 := p3
    have q4 : decide (0 < u) = false := decide_eq_false p4
    have q5 : decide (0 < d) = false := decide_eq_false p5
    subst q3
    go_enter Tryd.func61, Tryd.ntmps61
    go_wp2_with fail
    refine (HS.out _).mono ?_
    rintro r w1 ⟨rfl, hb1⟩
    have hz1 := hb1.size
    simp at hz1
    obtain ⟨hc1, hf1⟩ := bcell hb1
    have B1 := Aside.intro hb1
    clear hb1
    go_wp2_with fail
    refine (HM.out _).mono ?_
    rintro r w2 ⟨rfl, hb2⟩
    have hz2 := hb2.size
    obtain ⟨hc2, hf2⟩ := bcell hb2
    have hc3 : ∀ b o, b < w.heap.size + 1 + 1 → w2.cell? ⟨b, o, none⟩ = w1.cell? ⟨b, o, none⟩ := fun b o h => hc2 b o (by omega)
    have B2 := Aside.intro hb2
    clear hb2 hc2 hf2
    go_wp2
    go_ret2
    exact ⟨by first | rfl | simp, ((((Below.refl _ w).alloc (Nat.le_refl _) _).alloc (by simp) _).trans (B1.out.mono (by simp; omega))).trans (B2.out.mono (by omega))⟩
  have way7 : ¬ (0 < n) → ¬ (b = 0) → Calls Tryd.prog 61 #[.agg #[.int .i64 n, .int .i64 u, .int .i64 d, .int .i64 m, .int .i64 p, .int .i64 l], .agg #[.int .i64 a, .int .i64 b]] w fun r w' => r = .returned (.tuple #[.float .f64 (vd true n u d a b).1, .bool (vd true n u d a b).2]) ∧ Below w.heap.size w w' := by
    intro p1 p3
    have hv : vd true n u d a b = (0, false) := by unfold vd; rw [if_neg (by decide), if_neg (fun h => p1 h.1), if_pos p3]
    rw [hv]
    clear hv
    have q1 : decide (0 < n) = false := decide_eq_false p1
    have q3 : (b == 0) = false := by rw [beq_eq_false_iff_ne]; exact p3
    go_enter Tryd.func61, Tryd.ntmps61
    go_wp2_with fail
    refine (HS.out _).mono ?_
    rintro r w1 ⟨rfl, hb1⟩
    have hz1 := hb1.size
    simp at hz1
    obtain ⟨hc1, hf1⟩ := bcell hb1
    have B1 := Aside.intro hb1
    clear hb1
    go_wp2_with fail
    refine (HM.out _).mono ?_
    rintro r w2 ⟨rfl, hb2⟩
    have hz2 := hb2.size
    obtain ⟨hc2, hf2⟩ := bcell hb2
    have hc3 : ∀ b o, b < w.heap.size + 1 + 1 → w2.cell? ⟨b, o, none⟩ = w1.cell? ⟨b, o, none⟩ := fun b o h => hc2 b o (by omega)
    have B2 := Aside.intro hb2
    clear hb2 hc2 hf2
    go_wp2
    go_ret2
    exact ⟨by first | rfl | simp, ((((Below.refl _ w).alloc (Nat.le_refl _) _).alloc (by simp) _).trans (B1.out.mono (by simp; omega))).trans (B2.out.mono (by omega))⟩
  have way8 : ¬ (0 < n) → b = 0 → 0 < u → 0 < d → Calls Tryd.prog 61 #[.agg #[.int .i64 n, .int .i64 u, .int .i64 d, .int .i64 m, .int .i64 p, .int .i64 l], .agg #[.int .i64 a, .int .i64 b]] w fun r w' => r = .returned (.tuple #[.float .f64 (vd true n u d a b).1, .bool (vd true n u d a b).2]) ∧ Below w.heap.size w w' := by
    intro p1 p3 p4 p5
    have hv : vd true n u d a b = (9221120237041090560, true) := by unfold vd; rw [if_neg (by decide), if_neg (fun h => p1 h.1), if_neg (not_not_intro p3), if_pos ⟨p4, p5⟩]
    rw [hv]
    clear hv
    have q1 : decide (0 < n) = false := decide_eq_false p1
    have q3 : b = 0 := p3
    have q4 : 0 < u := p4
    have q5 : 0 < d := p5
    subst q3
    go_enter Tryd.func61, Tryd.ntmps61
    go_wp2_with fail
    refine (HS.out _).mono ?_
    rintro r w1 ⟨rfl, hb1⟩
    have hz1 := hb1.size
    simp at hz1
    obtain ⟨hc1, hf1⟩ := bcell hb1
    have B1 := Aside.intro hb1
    clear hb1
    go_wp2_with fail
    refine (HM.out _).mono ?_
    rintro r w2 ⟨rfl, hb2⟩
    have hz2 := hb2.size
    obtain ⟨hc2, hf2⟩ := bcell hb2
    have hc3 : ∀ b o, b < w.heap.size + 1 + 1 → w2.cell? ⟨b, o, none⟩ = w1.cell? ⟨b, o, none⟩ := fun b o h => hc2 b o (by omega)
    have B2 := Aside.intro hb2
    clear hb2 hc2 hf2
    go_wp2_with fail
    refine (HN.out _).mono ?_
    rintro r w3 ⟨rfl, rfl⟩
    go_wp2
    go_ret2
    exact ⟨by first | rfl | simp, ((((Below.refl _ w).alloc (Nat.le_refl _) _).alloc (by simp) _).trans (B1.out.mono (by simp; omega))).trans (B2.out.mono (by omega))⟩
  have way9 : ¬ (0 < n) → b = 0 → 0 < u → ¬ (0 < d) → Calls Tryd.prog 61 #[.agg #[.int .i64 n, .int .i64 u, .int .i64 d, .int .i64 m, .int .i64 p, .int .i64 l], .agg #[.int .i64 a, .int .i64 b]] w fun r w' => r = .returned (.tuple #[.float .f64 (vd true n u d a b).1, .bool (vd true n u d a b).2]) ∧ Below w.heap.size w w' := by
    intro p1 p3 p4 p5
    have hv : vd true n u d a b = (9218868437227405312, true) := by unfold vd; rw [if_neg (by decide), if_neg (fun h => p1 h.1), if_neg (not_not_intro p3), if_neg (fun h => p5 h.2), if_pos p4]
    rw [hv]
    clear hv
    have q1 : decide (0 < n) = false := decide_eq_false p1
    have q3 : b = 0 := p3
    have q4 : 0 < u := p4
    have q5 : decide (0 < d) = false := decide_eq_false p5
    subst q3
    go_enter Tryd.func61, Tryd.ntmps61
    go_wp2_with fail
    refine (HS.out _).mono ?_
    rintro r w1 ⟨rfl, hb1⟩
    have hz1 := hb1.size
    simp at hz1
    obtain ⟨hc1, hf1⟩ := bcell hb1
    have B1 := Aside.intro hb1
    clear hb1
    go_wp2_with fail
    refine (HM.out _).mono ?_
    rintro r w2 ⟨rfl, hb2⟩
    have hz2 := hb2.size
    obtain ⟨hc2, hf2⟩ := bcell hb2
    have hc3 : ∀ b o, b < w.heap.size + 1 + 1 → w2.cell? ⟨b, o, none⟩ = w1.cell? ⟨b, o, none⟩ := fun b o h => hc2 b o (by omega)
    have B2 := Aside.intro hb2
    clear hb2 hc2 hf2
    go_wp2_with fail
    refine (HU.out _).mono ?_
    rintro r w3 ⟨rfl, rfl⟩
    go_wp2
    go_ret2
    exact ⟨by first | rfl | simp, ((((Below.refl _ w).alloc (Nat.le_refl _) _).alloc (by simp) _).trans (B1.out.mono (by simp; omega))).trans (B2.out.mono (by omega))⟩
  have way10 : ¬ (0 < n) → b = 0 → ¬ (0 < u) → 0 < d → Calls Tryd.prog 61 #[.agg #[.int .i64 n, .int .i64 u, .int .i64 d, .int .i64 m, .int .i64 p, .int .i64 l], .agg #[.int .i64 a, .int .i64 b]] w fun r w' => r = .returned (.tuple #[.float .f64 (vd true n u d a b).1, .bool (vd true n u d a b).2]) ∧ Below w.heap.size w w' := by
    intro p1 p3 p4 p5
    have hv : vd true n u d a b = (18442240474082181120, true) := by unfold vd; rw [if_neg (by decide), if_neg (fun h => p1 h.1), if_neg (not_not_intro p3), if_neg (fun h => p4 h.1), if_neg p4, if_pos p5]
    rw [hv]
    clear hv
    have q1 : decide (0 < n) = false := decide_eq_false p1
    have q3 : b = 0 := p3
    have q4 : decide (0 < u) = false := decide_eq_false p4
    have q5 : 0 < d := p5
    subst q3
    go_enter Tryd.func61, Tryd.ntmps61
    go_wp2_with fail
    refine (HS.out _).mono ?_
    rintro r w1 ⟨rfl, hb1⟩
    have hz1 := hb1.size
    simp at hz1
    obtain ⟨hc1, hf1⟩ := bcell hb1
    have B1 := Aside.intro hb1
    clear hb1
    go_wp2_with fail
    refine (HM.out _).mono ?_
    rintro r w2 ⟨rfl, hb2⟩
    have hz2 := hb2.size
    obtain ⟨hc2, hf2⟩ := bcell hb2
    have hc3 : ∀ b o, b < w.heap.size + 1 + 1 → w2.cell? ⟨b, o, none⟩ = w1.cell? ⟨b, o, none⟩ := fun b o h => hc2 b o (by omega)
    have B2 := Aside.intro hb2
    clear hb2 hc2 hf2
    go_wp2_with fail
    refine (HD.out _).mono ?_
    rintro r w3 ⟨rfl, rfl⟩
    go_wp2
    go_ret2
    exact ⟨by first | rfl | simp, ((((Below.refl _ w).alloc (Nat.le_refl _) _).alloc (by simp) _).trans (B1.out.mono (by simp; omega))).trans (B2.out.mono (by omega))⟩
  have way11 : ¬ (0 < n) → b = 0 → ¬ (0 < u) → ¬ (0 < d) → Calls Tryd.prog 61 #[.agg #[.int .i64 n, .int .i64 u, .int .i64 d, .int .i64 m, .int .i64 p, .int .i64 l], .agg #[.int .i64 a, .int .i64 b]] w fun r w' => r = .returned (.tuple #[.float .f64 (vd true n u d a b).1, .bool (vd true n u d a b).2]) ∧ Below w.heap.size w w' := by
    intro p1 p3 p4 p5
    have hv : vd true n u d a b = (0, false) := by unfold vd; rw [if_neg (by decide), if_neg (fun h => p1 h.1), if_neg (not_not_intro p3), if_neg (fun h => p4 h.1), if_neg p4, if_neg p5]
    rw [hv]
    clear hv
    have q1 : decide (0 < n) = false := decide_eq_false p1
    have q3 : b = 0 := p3
    have q4 : decide (0 < u) = false := decide_eq_false p4
    have q5 : decide (0 < d) = false := decide_eq_false p5
    subst q3
    go_enter Tryd.func61, Tryd.ntmps61
    go_wp2_with fail
    refine (HS.out _).mono ?_
    rintro r w1 ⟨rfl, hb1⟩
    have hz1 := hb1.size
    simp at hz1
    obtain ⟨hc1, hf1⟩ := bcell hb1
    have B1 := Aside.intro hb1
    clear hb1
    go_wp2_with fail
    refine (HM.out _).mono ?_
    rintro r w2 ⟨rfl, hb2⟩
    have hz2 := hb2.size
    obtain ⟨hc2, hf2⟩ := bcell hb2
    have hc3 : ∀ b o, b < w.heap.size + 1 + 1 → w2.cell? ⟨b, o, none⟩ = w1.cell? ⟨b, o, none⟩ := fun b o h => hc2 b o (by omega)
    have B2 := Aside.intro hb2
    clear hb2 hc2 hf2
    go_wp2
    go_ret2
    exact ⟨by first | rfl | simp, ((((Below.refl _ w).alloc (Nat.le_refl _) _).alloc (by simp) _).trans (B1.out.mono (by simp; omega))).trans (B2.out.mono (by omega))⟩
  by_cases p1 : 0 < n
  · by_cases p2 : a = 0
    · exact way1 p1 p2
    · by_cases p3 : b = 0
      · by_cases p4 : 0 < u <;> by_cases p5 : 0 < d
        · exact way3 p1 p2 p3 p4 p5
        · exact way4 p1 p2 p3 p4 p5
        · exact way5 p1 p2 p3 p4 p5
        · exact way6 p1 p2 p3 p4 p5
      · exact way2 p1 p2 p3
  · by_cases p3 : b = 0
    · by_cases p4 : 0 < u <;> by_cases p5 : 0 < d
      · exact way8 p1 p3 p4 p5
      · exact way9 p1 p3 p4 p5
      · exact way10 p1 p3 p4 p5
      · exact way11 p1 p3 p4 p5
    · exact way7 p1 p3

end Go.Proofs.YtmlmgfodkehenaaDoor

/- policy: Nought. -/
namespace Go.Proofs.YtmlmgfodkehenaaDoor
set_option linter.unusedVariables false
set_option maxRecDepth 20000
set_option linter.unusedSimpArgs false
open Go.RowKit
open Go.Proofs.YtmlmgfodkehenaaDoor.B (f64bits f64frombits bw bcell)
attribute [local go_sem] f64bits f64frombits

set_option maxHeartbeats 8000000 in
theorem Nought_any (n u d m p l mode : Int) (w : World) : Calls Tryd.prog 62 #[.agg #[.int .i64 n, .int .i64 u, .int .i64 d, .int .i64 m, .int .i64 p, .int .i64 l], .int .i64 mode] w fun r w' => r = .returned (.float .f64 (nt (snd n u d m p l) n u d m p l mode)) ∧ Below w.heap.size w w' := by
  have HS := hid (sound_any n u d m p l)
  have HM := hid (minus_any)
  rcases hs : snd n u d m p l with _ | _
  · rw [hs] at HS
    have hv : nt false n u d m p l mode = 0 := if_pos rfl
    rw [hv]
    clear hs hv
    go_enter Tryd.func62, Tryd.ntmps62
    go_wp2_with fail
    refine (HS.out _).mono ?_
    rintro r w1 ⟨rfl, hb1⟩
    have hz1 := hb1.size
    simp at hz1
    obtain ⟨hc1, hf1⟩ := bcell hb1
    have B1 := Aside.intro hb1
    clear hb1
    go_wp2
    go_ret
    exact ⟨by first | rfl | simp, ((Below.refl _ w).alloc (Nat.le_refl _) _).trans (B1.out.mono (by simp))⟩
  have bd := snd_bd hs
  rw [hs] at HS
  obtain ⟨f, hf⟩ : ∃ f, l - n - u - d = f := ⟨_, rfl⟩
  have hfb : -9223372036854775808 ≤ f ∧ f ≤ 9223372036854775807 := by omega
  have hb1 : 0 ≤ n ∧ n ≤ 1099511627776 := bd.1
  have hb2 : 0 ≤ u ∧ u ≤ 1099511627776 := bd.2.1
  have hb3 : 0 ≤ d ∧ d ≤ 1099511627776 := bd.2.2.1
  have hb4 : 0 ≤ l ∧ l ≤ 1099511627776 := bd.2.2.2
  unfold nt
  rw [if_neg (by decide), hf]
  clear hs bd
  by_cases p1 : f = 0
  · rw [if_pos p1]
    have q1 : (f == 0) = true := by rw [beq_iff_eq]; exact p1
    clear p1
    go_enter Tryd.func62, Tryd.ntmps62
    go_wp2_with fail
    refine (HS.out _).mono ?_
    rintro r w1 ⟨rfl, hb1⟩
    have hz1 := hb1.size
    simp at hz1
    obtain ⟨hc1, hf1⟩ := bcell hb1
    have B1 := Aside.intro hb1
    clear hb1
    go_wp2_with fail
    refine (HM.out _).mono ?_
    rintro r w3 ⟨rfl, rfl⟩
    go_wp2
    go_ret
    exact ⟨by first | rfl | simp, ((Below.refl _ w).alloc (Nat.le_refl _) _).trans (B1.out.mono (by simp))⟩
  rw [if_neg p1]
  have q1 : (f == 0) = false := by rw [beq_eq_false_iff_ne]; exact p1
  clear p1
  by_cases p2 : m = f
  · rw [if_pos p2]
    have q2 : (m == f) = true := by rw [beq_iff_eq]; exact p2
    clear p2
    go_enter Tryd.func62, Tryd.ntmps62
    go_wp2_with fail
    refine (HS.out _).mono ?_
    rintro r w1 ⟨rfl, hb1⟩
    have hz1 := hb1.size
    simp at hz1
    obtain ⟨hc1, hf1⟩ := bcell hb1
    have B1 := Aside.intro hb1
    clear hb1
    go_wp2_with fail
    refine (HM.out _).mono ?_
    rintro r w3 ⟨rfl, rfl⟩
    go_wp2
    go_ret
    exact ⟨by first | rfl | simp, ((Below.refl _ w).alloc (Nat.le_refl _) _).trans (B1.out.mono (by simp))⟩
  rw [if_neg p2]
  have q2 : (m == f) = false := by rw [beq_eq_false_iff_ne]; exact p2
  clear p2
  by_cases p3 : p = f
  · rw [if_pos p3]
    have q3 : (p == f) = true := by rw [beq_iff_eq]; exact p3
    clear p3
    go_enter Tryd.func62, Tryd.ntmps62
    go_wp2_with fail
    refine (HS.out _).mono ?_
    rintro r w1 ⟨rfl, hb1⟩
    have hz1 := hb1.size
    simp at hz1
    obtain ⟨hc1, hf1⟩ := bcell hb1
    have B1 := Aside.intro hb1
    clear hb1
    go_wp2_with fail
    refine (HM.out _).mono ?_
    rintro r w3 ⟨rfl, rfl⟩
    go_wp2
    go_ret
    exact ⟨by first | rfl | simp, ((Below.refl _ w).alloc (Nat.le_refl _) _).trans (B1.out.mono (by simp))⟩
  rw [if_neg p3]
  have q3 : (p == f) = false := by rw [beq_eq_false_iff_ne]; exact p3
  clear p3
  by_cases p4 : mode = 3
  · rw [if_pos p4]
    subst p4
    go_enter Tryd.func62, Tryd.ntmps62
    go_wp2_with fail
    refine (HS.out _).mono ?_
    rintro r w1 ⟨rfl, hb1⟩
    have hz1 := hb1.size
    simp at hz1
    obtain ⟨hc1, hf1⟩ := bcell hb1
    have B1 := Aside.intro hb1
    clear hb1
    go_wp2_with fail
    refine (HM.out _).mono ?_
    rintro r w3 ⟨rfl, rfl⟩
    go_wp2
    go_ret
    exact ⟨by first | rfl | simp, ((Below.refl _ w).alloc (Nat.le_refl _) _).trans (B1.out.mono (by simp))⟩
  · rw [if_neg p4]
    have q4 : (mode == 3) = false := by rw [beq_eq_false_iff_ne]; exact p4
    clear p4
    go_enter Tryd.func62, Tryd.ntmps62
    go_wp2_with fail
    refine (HS.out _).mono ?_
    rintro r w1 ⟨rfl, hb1⟩
    have hz1 := hb1.size
    simp at hz1
    obtain ⟨hc1, hf1⟩ := bcell hb1
    have B1 := Aside.intro hb1
    clear hb1
    go_wp2_with fail
    refine (HM.out _).mono ?_
    rintro r w3 ⟨rfl, rfl⟩
    go_wp2
    go_ret
    exact ⟨by first | rfl | simp, ((Below.refl _ w).alloc (Nat.le_refl _) _).trans (B1.out.mono (by simp))⟩

end Go.Proofs.YtmlmgfodkehenaaDoor

/- ahead: what is told ahead of the value. -/
namespace Go.Proofs.YtmlmgfodkehenaaDoor
open Go.RowKit
set_option linter.unusedVariables false
set_option maxRecDepth 20000
set_option linter.unusedSimpArgs false

/-- Where nothing is refused: what is told ahead of the value. -/
def ahd (V : Int) (s : Sp) (mode a b : Int) : Nat × Bool × Int :=
  if (vd (snd s.n s.u s.d s.m s.p s.a && may a b) s.n s.u s.d a b).2 then ((vd (snd s.n s.u s.d s.m s.p s.a && may a b) s.n s.u s.d a b).1, true, 0)
  else if V = 0 then (nt (snd s.n s.u s.d s.m s.p s.a) s.n s.u s.d s.m s.p s.a mode, true, 0) else (0, false, 0)
theorem zero_words (L : List Nat) (V : Int) (hl : L.length = 133) (hL : Wf L) (hv : (val L : Int) = V % (PB : Int)) (h0 : -(HB : Int) < V) (h1 : V < (HB : Int)) : decide (L = List.replicate 133 0) = decide (V = 0) := by
  rw [decide_eq_decide]
  have e := PB_HB
  constructor
  · intro h
    rw [h, val_zeros] at hv
    have h2 := Int.emod_emod_of_dvd V (Int.dvd_refl (PB : Int))
    have h3 : (PB : Int) ∣ V := Int.dvd_of_emod_eq_zero (by simpa using hv.symm)
    obtain ⟨k, hk⟩ := h3
    by_cases hk0 : k = 0
    · rw [hk, hk0]; simp
    · have hp := HB_pos
      have : (PB : Int) ≤ V ∨ V ≤ -(PB : Int) := by
        rcases Int.lt_or_gt_of_ne hk0 with h | h
        · right
          have : (PB : Int) * k ≤ (PB : Int) * (-1) := Int.mul_le_mul_of_nonneg_left (by omega) (by omega)
          omega
        · left
          have : (PB : Int) * 1 ≤ (PB : Int) * k := Int.mul_le_mul_of_nonneg_left (by omega) (by omega)
          omega
      omega
  · rintro rfl
    refine val_inj (by simp [hl]) hL (Wf.zeros 133) ?_
    rw [val_zeros]
    simpa using hv

set_option maxHeartbeats 4000000 in
theorem ahead7 (g : Nat) (V : Int) (s : Sp) (mode a b : Int) (w : World) (hA : Acc7 w g V s) (hs : s.ok) (hm0 : 0 ≤ mode) (hm1 : mode ≤ 4) (hab : may a b = true) (ha : a ≠ 2) (hb : b ≠ 2) :
    Calls Tryd.prog 33 #[.pointer (some ⟨g, 0, none⟩), .int .i64 mode, .agg #[.int .i64 a, .int .i64 b]] w fun r w' => r = .returned (.tuple #[.float .f64 (ahd V s mode a b).1, .bool (ahd V s mode a b).2.1, .int .i64 (ahd V s mode a b).2.2]) ∧ Below w.heap.size w w' := by
  obtain ⟨⟨X, tl, er⟩, hX⟩ : ∃ X, X = ahd V s mode a b := ⟨_, rfl⟩
  rw [← hX]
  simp only
  obtain ⟨L, a1, a2, a3, a4, a5, a6⟩ := hA
  have hz := zero_words L V a1 a2 a3 a4 a5
  obtain ⟨n, u, d, m, p, l⟩ := s
  have HM := hid (fun u : World => May_any a b u)
  rw [hab] at HM
  have HV := hid (fun w : World => Verdict_any n u d m p l a b w)
  have HN := hid (fun w : World => Nought_any n u d m p l mode w)
  obtain ⟨⟨vx, vt⟩, hvd⟩ : ∃ v, v = vd (snd n u d m p l && may a b) n u d a b := ⟨_, rfl⟩
  obtain ⟨nx, hnt⟩ : ∃ v, v = nt (snd n u d m p l) n u d m p l mode := ⟨_, rfl⟩
  rw [← hvd] at HV
  rw [← hnt] at HN
  simp only at HV
  simp only [ahd] at hX
  rw [← hvd, ← hnt] at hX
  simp only at hX
  have HX := Aside.intro hX
  have HA := Aside.intro (And.intro a1 (And.intro a6 hz))
  have hlt := a6.lt
  have hne : g ≠ w.heap.size := Nat.ne_of_lt hlt
  have hne1 : g ≠ w.heap.size + 1 := by omega
  have c0 := a6.cell a1 0 _ rfl
  have c1 := a6.cell a1 1 _ rfl
  have c2 := a6.cell a1 2 _ rfl
  have c3 := a6.cell a1 3 _ rfl
  have c4 := a6.cell a1 4 _ rfl
  have c5 := a6.cell a1 5 _ rfl
  obtain ⟨h0, h1, h2, h3, h4, h5⟩ := hs
  have ha' : (a == 2) = false := by simpa using ha
  have hb' : (b == 2) = false := by simpa using hb
  have b0 : decide (mode < 0) = false := by simp; omega
  have b1 : decide (4 < mode) = false := by simp; omega
  clear a1 a2 a3 a4 a5 a6 hX hvd hnt hab ha hb hz
  go_enter Tryd.func33, Tryd.ntmps33
  go_wp2_with fail
  refine (HM.out _).mono ?_
  rintro r w1 ⟨rfl, hb1⟩
  have hz1 : w.heap.size + 1 < w1.heap.size := by have := hb1.size; simp at this; omega
  have B1 := Aside.intro hb1
  have P1 : Aside (Bl w1 w.heap.size 44 [.int .i64 a, .int .i64 b] ∧ Bl w1 (w.heap.size + 1) 31 [.int .i64 n, .int .i64 u, .int .i64 d, .int .i64 m, .int .i64 p, .int .i64 l] ∧ Below w.heap.size w w1 ∧ Ac w1 g L ⟨n, u, d, m, p, l⟩) := by
    have e0 := (bel_alloc w (Obj.cells #[.int .i64 a, .int .i64 b] 44)).trans ((bel_alloc (w.alloc (Obj.cells #[.int .i64 a, .int .i64 b] 44)) (Obj.cells #[.int .i64 n, .int .i64 u, .int .i64 d, .int .i64 m, .int .i64 p, .int .i64 l] 31)).mono (by simp))
    have e1 := e0.trans (hb1.mono e0.size)
    exact ⟨(((Bl.new w 44 [_, _]).alloc _).below hb1 (by simp; omega)), ((Bl.new' (w.alloc _) 31 _ [_, _, _, _, _, _] (by simp)).below hb1 (by simp)), e1, HA.out.2.1.below e1 HA.out.2.1.lt⟩
  clear hb1 c0 c1 c2 c3 c4 c5
  have q0 := P1.out.1.cell 0 _ rfl
  have q1 := P1.out.1.cell 1 _ rfl
  have s0 := P1.out.2.1.cell 0 _ rfl
  have s1 := P1.out.2.1.cell 1 _ rfl
  have s2 := P1.out.2.1.cell 2 _ rfl
  have s3 := P1.out.2.1.cell 3 _ rfl
  have s4 := P1.out.2.1.cell 4 _ rfl
  have s5 := P1.out.2.1.cell 5 _ rfl
  by_cases hn : 0 < n <;> by_cases hu : 0 < u + d
  all_goals (
    go_wp2_with fail
    refine (HV.out _).mono ?_
    rintro r w2 ⟨rfl, hb2⟩
    have P2 : Aside (Bl w2 (w.heap.size + 1) 31 [.int .i64 n, .int .i64 u, .int .i64 d, .int .i64 m, .int .i64 p, .int .i64 l] ∧ Below w.heap.size w w2 ∧ Ac w2 g L ⟨n, u, d, m, p, l⟩) :=
      ⟨P1.out.2.1.below hb2 P1.out.2.1.lt, P1.out.2.2.1.trans (hb2.mono P1.out.2.2.1.size), P1.out.2.2.2.below hb2 P1.out.2.2.2.lt⟩
    clear hb2 q0 q1 s0 s1 s2 s3 s4 s5 hn hu
    cases vt
    · have s0 := P2.out.1.cell 0 _ rfl
      have s1 := P2.out.1.cell 1 _ rfl
      have s2 := P2.out.1.cell 2 _ rfl
      have s3 := P2.out.1.cell 3 _ rfl
      have s4 := P2.out.1.cell 4 _ rfl
      have s5 := P2.out.1.cell 5 _ rfl
      go_wp2_with (first | (with_reducible refine wpList_load_mid (P := Tryd.prog) rfl 57 (.tmp 57) rfl g 0 rfl (L.map U) _ P2.out.2.2.range Tryd.desc_words rfl (by simp [Tryd.size_words, HA.out.1]) ?_))
      rw [Tryd.nought_words, eq_words L _ w2 HA.out.1 (by simp), HA.out.2.2]
      generalize (List.replicate 133 0).map U = zz
      by_cases hV : V = 0
      · rw [decide_eq_true hV]
        simp only [Result.andThen_ok, Oper.upon]
        have HX2 := Aside.intro (show (X, tl, er) = (nx, true, 0) by rw [HX.out, if_neg (by decide), if_pos hV])
        clear hV
        go_wp2_with fail
        refine (HN.out _).mono ?_
        rintro r w3 ⟨rfl, hb3⟩
        have B3 := Aside.intro hb3
        clear hb3
        go_wp2
        refine bodyPost_ret (v := .tuple #[.float .f64 nx, .bool true, .int .i64 0]) (by simp [results, Tryd.results33, go_sem]) rfl ?_
        have e := HX2.out
        cases e
        exact ⟨rfl, P2.out.2.1.trans (B3.out.mono P2.out.2.1.size)⟩
      · rw [decide_eq_false hV]
        simp only [Result.andThen_ok, Oper.upon]
        have HX2 := Aside.intro (show (X, tl, er) = (0, false, 0) by rw [HX.out, if_neg (by decide), if_neg hV])
        clear hV
        go_wp2
        refine bodyPost_ret (v := .tuple #[.float .f64 0, .bool false, .int .i64 0]) (by simp [results, Tryd.results33, go_sem]) rfl ?_
        have e := HX2.out
        cases e
        exact ⟨rfl, P2.out.2.1⟩
    · go_wp2
      refine bodyPost_ret (v := .tuple #[.float .f64 vx, .bool true, .int .i64 0]) (by simp [results, Tryd.results33, go_sem]) rfl ?_
      have e := HX.out
      rw [if_pos trivial] at e
      cases e
      exact ⟨rfl, P2.out.2.1⟩)
end Go.Proofs.YtmlmgfodkehenaaDoor

/- Calls that hand on: the program's form, Neg, the document's Make, Made, Neg. -/
namespace Go.Proofs.YtmlmgfodkehenaaDoor
open Go.RowKit
set_option linter.unusedVariables false
set_option maxRecDepth 20000

set_option maxHeartbeats 4000000 in
theorem form_any {w : World} {a : Option Addr} {n c : Nat} {xs : List Nat} (h1 : Arg w a n c xs) (hT : Tab w) (neg : Bool) (e : Int) (he0 : -9223372036854775808 ≤ e) (he1 : e ≤ 9223372036854775807) :
    Calls Tryd.prog 83 #[.agg #[.bool neg, .slice a n c, .int .i64 e]] w fun r w' => DAns w.heap.size w' r (mkS neg (val xs) e) ∧ Below w.heap.size w w' := by
  have HB := Aside.intro (show Below w.heap.size w ((w.alloc (.cells #[.bool neg, .slice a n c, .int .i64 e] 28)).alloc (.cells #[.bool false, .slice none 0 0, .int .i64 0] 28)) from (((Below.refl _ _).alloc (Nat.le_refl _) _).alloc (by simp) _))
  have H1 := hid (Make_any (h1.below HB.out) (hT.belows HB.out) neg e he0 he1)
  have hl := mkS_len neg (val xs) e
  obtain ⟨o, ho⟩ : ∃ o, mkS neg (val xs) e = o := ⟨_, rfl⟩
  rw [ho] at H1 hl ⊢
  unfold DAns at H1 ⊢
  obtain ⟨dn, hdn⟩ : ∃ d, dN o = d := ⟨_, rfl⟩
  obtain ⟨X, hdx⟩ : ∃ d, dX o = d := ⟨_, rfl⟩
  obtain ⟨de, hde⟩ : ∃ d, dE o = d := ⟨_, rfl⟩
  obtain ⟨er, her⟩ : ∃ d, erS o = d := ⟨_, rfl⟩
  rw [hdn, hdx, hde, her] at H1 ⊢
  rw [hdx] at hl
  clear h1 ho hdn hdx hde her hT he0 he1
  go_enter Tryd.func83, Tryd.ntmps83
  go_wp2_with fail
  refine (Calls.mono H1.out) ?_
  rintro r w2 ⟨⟨v, rfl, hN⟩, hb⟩
  obtain ⟨a2, c2, rfl, _⟩ := hN.arg (by omega)
  obtain ⟨hc, hf⟩ := bcell hb
  have HF := Aside.intro (Fin.of 2 HB.out (by simp) hN hb)
  have hz : w.heap.size + 1 < w2.heap.size := by have := hb.size; simp at this; omega
  clear hN hb
  go_wp2
  exact bodyPost_ret (v := .tuple #[.agg #[.bool dn, .slice a2 (ws X).length c2, .int .i64 de], .int .i64 er]) (by simp [results, Tryd.results83, go_sem, hc]) rfl (Fin.dans (m := w.heap.size + 2) (by repeat (first | exact HF.out | refine Fin.alloc ?_ _ | refine Fin.set ?_ _ _ _ (by omega) (by omega))) (by omega))


end Go.Proofs.YtmlmgfodkehenaaDoor

/- What Split and Class of the document, Class, and Same answer, at every number; when two Parts are the same. -/
namespace Go.Proofs.YtmlmgfodkehenaaDoor.B
set_option linter.unusedVariables false
set_option maxRecDepth 20000
open Go.RowKit
attribute [local go_sem] f64bits f64frombits
theorem eqParts (a c : Bool) (k l x y f g : Int) (w : World) : (Op.equalIn 10000 77 (.agg #[.bool a, .int .i64 k, .int .i64 x, .int .u64 f]) (.agg #[.bool c, .int .i64 l, .int .i64 y, .int .u64 g])).run Tryd.prog w = .ok (a == c && (k == l && (x == y && f == g))) w := by
  have u3 := Tryd.underlying3
  have u4 := Tryd.underlying4
  have u23 := Tryd.underlying73
  have hS : Tryd.prog.underlying 77 = some (.struct (Tryd.prog.fieldsOf 77)) := by kernel_rfl
  have hp : Tryd.prog.stoodInHeld 77 = false := by kernel_rfl
  rw [show (10000 : Nat) = 9999 + 1 from rfl, run_equalIn_agg w 9999 77 _ _ hS hp]
  simp only [Program.fieldsOf, Tryd.underlying77]
  go_simp
  by_cases h1 : a = c <;> by_cases h2 : k = l <;> by_cases h3 : x = y <;> by_cases h4 : f = g <;> simp [h1, h2, h3, h4]
attribute [local go_sem] eqParts
theorem fld0 (a : Bool) (k x f : Int) (w : World) : (Instr.field 77 (.agg #[.bool a, .int .i64 k, .int .i64 x, .int .u64 f]) 0).run Tryd.prog w = .ok (.bool a) w := by kernel_rfl
theorem fld1 (a : Bool) (k x f : Int) (w : World) : (Instr.field 77 (.agg #[.bool a, .int .i64 k, .int .i64 x, .int .u64 f]) 1).run Tryd.prog w = .ok (.int .i64 k) w := by kernel_rfl
theorem fld2 (a : Bool) (k x f : Int) (w : World) : (Instr.field 77 (.agg #[.bool a, .int .i64 k, .int .i64 x, .int .u64 f]) 2).run Tryd.prog w = .ok (.int .i64 x) w := by kernel_rfl
theorem fld3 (a : Bool) (k x f : Int) (w : World) : (Instr.field 77 (.agg #[.bool a, .int .i64 k, .int .i64 x, .int .u64 f]) 3).run Tryd.prog w = .ok (.int .u64 f) w := by kernel_rfl
attribute [local go_sem] fld0 fld1 fld2 fld3
end Go.Proofs.YtmlmgfodkehenaaDoor.B

/- What IsInf, Signbit, Abs, Next, Prev and Order answer, at every number. -/
namespace Go.Proofs.YtmlmgfodkehenaaDoor.B
set_option linter.unusedVariables false
set_option maxRecDepth 20000
open Go.RowKit
attribute [local go_sem] f64bits f64frombits
set_option maxHeartbeats 1000000 in
theorem abs_any (s : Bool) (e f : Nat) (he : e < 2048) (hf : f < 4503599627370496) (w : World) :
    Calls Tryd.prog 39 #[.float .f64 (bw s e f)] w fun r w' => r = .returned (.float .f64 (bw false e f)) ∧ w' = w := by
  have h1 := abs_bw s e f he hf
  go_enter Tryd.func39, Tryd.ntmps39
  go_wp2
  go_ret
  exact ⟨rfl, rfl⟩

end Go.Proofs.YtmlmgfodkehenaaDoor.B

/- The program's Of. -/
namespace Go.Proofs.YtmlmgfodkehenaaDoor
open Go.RowKit
set_option linter.unusedVariables false
set_option maxRecDepth 20000
attribute [local go_sem] B.eqParts B.fld0 B.fld1 B.fld2 B.fld3
/-- What Of answers: a form, or that the number is not finite. -/
def ofR (s : Bool) (e f : Nat) : Option (Bool × Nat × Int) := if e = 2047 then none else mkS s (if e = 0 then f else f + 4503599627370496) (if e = 0 then -1074 else (e : Int) - 1075)
def ofE (e : Nat) : Int := if e = 2047 then 30 else 0

def OAns (lo : Nat) (w : World) (r : Ending) (o : Option (Bool × Nat × Int)) (er : Int) : Prop :=
  ∃ v, r = .returned (.tuple #[.agg #[.bool (dN o), v, .int .i64 (dE o)], .int .i64 er]) ∧ Nt lo w v (dX o)

theorem bl_le53 (X : Nat) (h : X < 9007199254740992) : bl X ≤ 53 := by
  by_cases h0 : X = 0
  · subst h0; rw [bl_zero]; omega
  · have := (Nat.pow_lt_pow_iff_right (a := 2) (by omega)).1 (Nat.lt_of_le_of_lt (bl_ge X h0) (show X < 2 ^ 53 from h))
    omega

theorem of_some (s : Bool) (X : Nat) (x : Int) (hX : X < 9007199254740992) (h0 : -1100 ≤ x) (h1 : x ≤ 1000) : ∃ d, mkS s X x = some d := by
  unfold mkS
  by_cases h : X = 0
  · rw [if_pos h]; exact ⟨_, rfl⟩
  · rw [if_neg h]
    obtain ⟨m, _, _, hb⟩ := odd_part X h
    have := bl_le53 X hX
    rw [if_neg (by omega)]
    exact ⟨_, rfl⟩

set_option maxHeartbeats 4000000 in
theorem of_core (s : Bool) (b : Nat) (F : Nat) (k x : Int) (w : World) (hT : Tab w) (hF : F < 9007199254740992) (hx0 : -1100 ≤ x) (hx1 : x ≤ 1000)
    (HA : Hid (∀ u, Calls Tryd.prog 39 #[.float .f64 b] u fun r w' => r = .returned (.float .f64 (b % 9223372036854775808)) ∧ w' = u))
    (HS : Hid (∀ u, Calls Tryd.prog 38 #[.float .f64 (b % 9223372036854775808)] u fun r w' => r = .returned (.agg #[.bool false, .int .i64 k, .int .i64 x, .int .u64 (F : Nat)]) ∧ Below u.heap.size u w'))
    (H0 : Hid (∀ u, Calls Tryd.prog 38 #[.float .f64 0] u fun r w' => r = .returned (.agg #[.bool false, .int .i64 0, .int .i64 (-1074), .int .u64 0]) ∧ Below u.heap.size u w'))
    (hlt : (FloatKind.f64.format.order b 0 == some .lt) = s) (k0 : (k == 0) = false) (k3 : (k == 3) = false) (k4 : (k == 4) = false) :
    Calls Tryd.prog 21 #[.float .f64 b] w fun r w' => DAns w.heap.size w' r (mkS s F x) ∧ Below w.heap.size w w' := by
  generalize hb2 : b % 9223372036854775808 = b2 at *
  clear hb2
  have HO : Hid (∀ u, Calls Tryd.prog 40 #[.int .u64 (F : Nat)] u fun r w' => ∃ v, r = .returned v ∧ Nt u.heap.size w' v F ∧ Below u.heap.size u w') := fun u => of_any F u (by omega)
  have HM : Hid (∀ (u : World) (a : Option Addr) (c : Nat), Tab u → Arg u a (ws F).length c (ws F) → Calls Tryd.prog 25 #[.bool s, .slice a (ws F).length c, .int .i64 x] u fun r w' => DAns u.heap.size w' r (mkS s F x) ∧ Below u.heap.size u w') := by
    intro u a c hTu hA
    have := Make_any hA hTu s x (by omega) (by omega)
    rw [val_ws] at this
    exact this
  have hFl : (ws F).length ≤ 100 := by have := ws_len_bl F; have := bl_le53 F hF; omega
  have hl := mkS_len s F x
  obtain ⟨o, ho⟩ : ∃ o, mkS s F x = o := ⟨_, rfl⟩
  rw [ho] at HM hl ⊢
  unfold DAns at HM ⊢
  obtain ⟨dn, hdn⟩ : ∃ d, dN o = d := ⟨_, rfl⟩
  obtain ⟨X, hdx⟩ : ∃ d, dX o = d := ⟨_, rfl⟩
  obtain ⟨de, hde⟩ : ∃ d, dE o = d := ⟨_, rfl⟩
  obtain ⟨er, her⟩ : ∃ d, erS o = d := ⟨_, rfl⟩
  rw [hdn, hdx, hde, her] at HM ⊢
  rw [hdx] at hl
  have HT := Aside.intro hT
  clear ho hdn hdx hde her hT hF hx0 hx1
  go_enter Tryd.func21, Tryd.ntmps21
  go_wp2_with fail
  refine (Calls.mono (HA.out _)) ?_
  rintro r w1 ⟨rfl, rfl⟩
  go_wp2_with fail
  refine (Calls.mono (HS.out _)) ?_
  rintro r w2 ⟨rfl, hb⟩
  obtain ⟨hc, hf⟩ := bcell hb
  have hz : w.heap.size < w2.heap.size := by have := hb.size; simp at this; omega
  have hbw : Below w.heap.size w w2 := ((Below.refl _ _).alloc (Nat.le_refl _) _).trans (hb.mono (by simp))
  have SB := Aside.intro hbw
  clear hb hbw
  obtain ⟨W2, hW2⟩ : ∃ W, W = w2.alloc (.cells #[.bool false, .int .i64 k, .int .i64 x, .int .u64 (F : Nat)] 77) := ⟨_, rfl⟩
  have hbW : Below w.heap.size w W2 := by rw [hW2]; exact SB.out.alloc (by omega) _
  have P : W2.heap[w2.heap.size]? = some (.cells #[.bool false, .int .i64 k, .int .i64 x, .int .u64 (F : Nat)] 77 (0, 0)) := by rw [hW2, heap_alloc_new]
  have p0 : W2.cell? ⟨w2.heap.size, 0, none⟩ = some (.bool false) := by simp [World.cell?, P]
  have p1 : W2.cell? ⟨w2.heap.size, 1, none⟩ = some (.int .i64 k) := by simp [World.cell?, P]
  have p2 : W2.cell? ⟨w2.heap.size, 2, none⟩ = some (.int .i64 x) := by simp [World.cell?, P]
  have p3 : W2.cell? ⟨w2.heap.size, 3, none⟩ = some (.int .u64 (F : Nat)) := by simp [World.cell?, P]
  have r0 : W2.cell? ⟨w.heap.size, 0, none⟩ = some (.bool false) := by rw [hW2]; go_simp
  have r1 : W2.cell? ⟨w.heap.size, 1, none⟩ = some (.slice none 0 0) := by rw [hW2]; go_simp
  have r2 : W2.cell? ⟨w.heap.size, 2, none⟩ = some (.int .i64 0) := by rw [hW2]; go_simp
  have f0 : W2.frozen? ⟨w.heap.size, 0, none⟩ = false := by rw [hW2]; go_simp
  have f1 : W2.frozen? ⟨w.heap.size, 1, none⟩ = false := by rw [hW2]; go_simp
  have f2 : W2.frozen? ⟨w.heap.size, 2, none⟩ = false := by rw [hW2]; go_simp
  have hz2 : w2.heap.size < W2.heap.size := by rw [hW2]; simp
  have hz3 : w.heap.size < W2.heap.size := by omega
  have SW := Aside.intro hbW
  go_wp2_with fail
  rw [← hW2]
  clear hW2 hbW P hc hf SB
  go_region_with (go_at_call 38; refine (H0.out _).mono ?_; rintro r w3 ⟨rfl, hb3⟩; have hb4 : Below W2.heap.size W2 w3 := (by first | exact hb3 | exact ((Below.refl _ W2).drew).trans (hb3.mono (Nat.le_refl _))); obtain ⟨hc, hf⟩ := bcell hb4; have S3 := Aside.intro hb4; clear hb3 hb4)
  all_goals (
    go_wp2_with fail
    have hz4 : w2.heap.size < w3.heap.size := by have := S3.out.size; omega
    have hz5 : w.heap.size < w3.heap.size := by have := S3.out.size; omega
    go_region_with (first
      | (go_at_call 40
         refine (HO.out _).mono ?_
         rintro r w4 ⟨v4, rfl, hN, hb⟩
         obtain ⟨a4, c4, rfl, A4⟩ := hN.arg (by omega)
         have hb34 : Below w3.heap.size w3 w4 := (by first | exact hb | exact ((Below.refl _ w3).drew).trans (hb.mono (Nat.le_refl _)))
         have T4 : Tab w4 := (HT.out.belows SW.out).belows (S3.out.trans (hb34.mono S3.out.size))
         obtain ⟨hc4, hf4⟩ := bcell hb34
         have hz6 : w.heap.size < w4.heap.size := by have := hb34.size; omega
         have S4 := (Aside.intro (And.intro hb34 (And.intro A4 T4)))
         clear hN hb hb34 A4 T4)
      | (go_at_call 25
         refine (HM.out _ a4 c4 (by first | exact S4.out.2.2 | exact S4.out.2.2) (by first | exact S4.out.2.1 | exact Arg.drew' S4.out.2.1)).mono ?_
         rintro r w5 ⟨⟨v5, rfl, hN⟩, hb⟩
         obtain ⟨a5, c5, rfl, _⟩ := hN.arg (by omega)
         have hb45 : Below w4.heap.size w4 w5 := (by first | exact hb | exact ((Below.refl _ w4).drew).trans (hb.mono (Nat.le_refl _)))
         obtain ⟨hc5, hf5⟩ := bcell hb45
         have HF := Aside.intro (show Fin w.heap.size w4.heap.size w w5 (.slice a5 (ws X).length c5) X from ⟨hN, ((SW.out.trans (S3.out.mono (by omega))).trans (S4.out.1.mono (by omega))).trans (hb45.mono (by omega)), by have := hb45.size; omega⟩)
         clear hN hb hb45))
    all_goals (
      go_wp2
      exact bodyPost_ret (v := .tuple #[.agg #[.bool dn, .slice a5 (ws X).length c5, .int .i64 de], .int .i64 er]) (by simp [results, Tryd.results21, go_sem, hc5, hc4, hc, hz6, hz5, hz3, r0, r1, r2]) rfl (Fin.dans (m := w4.heap.size) (by repeat (first | exact HF.out | refine Fin.alloc ?_ _ | refine Fin.set ?_ _ _ _ (by omega) (by omega))) (by omega))))

set_option maxHeartbeats 4000000 in
theorem of_nought (b b2 : Nat) (w : World)
    (HA : Hid (∀ u, Calls Tryd.prog 39 #[.float .f64 b] u fun r w' => r = .returned (.float .f64 b2) ∧ w' = u))
    (HS : Hid (∀ u, Calls Tryd.prog 38 #[.float .f64 b2] u fun r w' => r = .returned (.agg #[.bool false, .int .i64 0, .int .i64 (-1074), .int .u64 0]) ∧ Below u.heap.size u w'))
    (H0 : Hid (∀ u, Calls Tryd.prog 38 #[.float .f64 0] u fun r w' => r = .returned (.agg #[.bool false, .int .i64 0, .int .i64 (-1074), .int .u64 0]) ∧ Below u.heap.size u w')) :
    Calls Tryd.prog 21 #[.float .f64 b] w fun r w' => r = .returned (.tuple #[.agg #[.bool false, .slice none 0 0, .int .i64 0], .int .i64 0]) ∧ Below w.heap.size w w' := by
  go_enter Tryd.func21, Tryd.ntmps21
  go_wp2_with fail
  refine (Calls.mono (HA.out _)) ?_
  rintro r w1 ⟨rfl, rfl⟩
  go_wp2_with fail
  refine (Calls.mono (HS.out _)) ?_
  rintro r w2 ⟨rfl, hb⟩
  obtain ⟨hc, hf⟩ := bcell hb
  have hz : w.heap.size < w2.heap.size := by have := hb.size; simp at this; omega
  have hbw : Below w.heap.size w w2 := ((Below.refl _ _).alloc (Nat.le_refl _) _).trans (hb.mono (by simp))
  have SB := Aside.intro hbw
  clear hb hbw
  obtain ⟨W2, hW2⟩ : ∃ W, W = w2.alloc (.cells #[.bool false, .int .i64 0, .int .i64 (-1074), .int .u64 0] 77) := ⟨_, rfl⟩
  have hbW : Below w.heap.size w W2 := by rw [hW2]; exact SB.out.alloc (by omega) _
  have P : W2.heap[w2.heap.size]? = some (.cells #[.bool false, .int .i64 0, .int .i64 (-1074), .int .u64 0] 77 (0, 0)) := by rw [hW2, heap_alloc_new]
  have p0 : W2.cell? ⟨w2.heap.size, 0, none⟩ = some (.bool false) := by simp [World.cell?, P]
  have p1 : W2.cell? ⟨w2.heap.size, 1, none⟩ = some (.int .i64 0) := by simp [World.cell?, P]
  have p2 : W2.cell? ⟨w2.heap.size, 2, none⟩ = some (.int .i64 (-1074)) := by simp [World.cell?, P]
  have p3 : W2.cell? ⟨w2.heap.size, 3, none⟩ = some (.int .u64 0) := by simp [World.cell?, P]
  have r0 : W2.cell? ⟨w.heap.size, 0, none⟩ = some (.bool false) := by rw [hW2]; go_simp
  have r1 : W2.cell? ⟨w.heap.size, 1, none⟩ = some (.slice none 0 0) := by rw [hW2]; go_simp
  have r2 : W2.cell? ⟨w.heap.size, 2, none⟩ = some (.int .i64 0) := by rw [hW2]; go_simp
  have f0 : W2.frozen? ⟨w.heap.size, 0, none⟩ = false := by rw [hW2]; go_simp
  have f1 : W2.frozen? ⟨w.heap.size, 1, none⟩ = false := by rw [hW2]; go_simp
  have f2 : W2.frozen? ⟨w.heap.size, 2, none⟩ = false := by rw [hW2]; go_simp
  have hz2 : w2.heap.size < W2.heap.size := by rw [hW2]; simp
  have hz3 : w.heap.size < W2.heap.size := by omega
  have SW := Aside.intro hbW
  go_wp2_with fail
  rw [← hW2]
  clear hW2 hbW P hc hf SB
  go_region_with (go_at_call 38; refine (H0.out _).mono ?_; rintro r w3 ⟨rfl, hb3⟩; have hb4 : Below W2.heap.size W2 w3 := (by first | exact hb3 | exact ((Below.refl _ W2).drew).trans (hb3.mono (Nat.le_refl _))); obtain ⟨hc, hf⟩ := bcell hb4; have S3 := Aside.intro hb4; clear hb3 hb4)
  all_goals (
    go_wp2
    have hbf := SW.out.trans (S3.out.mono (by omega))
    have hzf : w.heap.size ≤ w3.heap.size := by have := S3.out.size; omega
    exact bodyPost_ret (v := .tuple #[.agg #[.bool false, .slice none 0 0, .int .i64 0], .int .i64 0]) (by simp [results, Tryd.results21, go_sem, hc, hz3, r0, r1, r2]) rfl ⟨rfl, Below.setC (Below.setC (Below.setC hbf _ _ _ (Nat.le_refl _) hzf) _ _ _ (Nat.le_refl _) (by simpa [World.setCell] using hzf)) _ _ _ (Nat.le_refl _) (by simpa [World.setCell] using hzf)⟩)

set_option maxHeartbeats 4000000 in
theorem of_wild (b b2 : Nat) (k : Int) (w : World) (hk : k = 3 ∨ k = 4)
    (HA : Hid (∀ u, Calls Tryd.prog 39 #[.float .f64 b] u fun r w' => r = .returned (.float .f64 b2) ∧ w' = u))
    (HS : Hid (∀ u, Calls Tryd.prog 38 #[.float .f64 b2] u fun r w' => r = .returned (.agg #[.bool false, .int .i64 k, .int .i64 0, .int .u64 0]) ∧ Below u.heap.size u w'))
    (H0 : Hid (∀ u, Calls Tryd.prog 38 #[.float .f64 0] u fun r w' => r = .returned (.agg #[.bool false, .int .i64 0, .int .i64 (-1074), .int .u64 0]) ∧ Below u.heap.size u w')) :
    Calls Tryd.prog 21 #[.float .f64 b] w fun r w' => r = .returned (.tuple #[.agg #[.bool false, .slice none 0 0, .int .i64 0], .int .i64 30]) ∧ Below w.heap.size w w' := by
  have k0 : (k == 0) = false := by rcases hk with rfl | rfl <;> rfl
  go_enter Tryd.func21, Tryd.ntmps21
  go_wp2_with fail
  refine (Calls.mono (HA.out _)) ?_
  rintro r w1 ⟨rfl, rfl⟩
  go_wp2_with fail
  refine (Calls.mono (HS.out _)) ?_
  rintro r w2 ⟨rfl, hb⟩
  obtain ⟨hc, hf⟩ := bcell hb
  have hz : w.heap.size < w2.heap.size := by have := hb.size; simp at this; omega
  have hbw : Below w.heap.size w w2 := ((Below.refl _ _).alloc (Nat.le_refl _) _).trans (hb.mono (by simp))
  have SB := Aside.intro hbw
  clear hb hbw
  obtain ⟨W2, hW2⟩ : ∃ W, W = w2.alloc (.cells #[.bool false, .int .i64 k, .int .i64 0, .int .u64 0] 77) := ⟨_, rfl⟩
  have hbW : Below w.heap.size w W2 := by rw [hW2]; exact SB.out.alloc (by omega) _
  have P : W2.heap[w2.heap.size]? = some (.cells #[.bool false, .int .i64 k, .int .i64 0, .int .u64 0] 77 (0, 0)) := by rw [hW2, heap_alloc_new]
  have p0 : W2.cell? ⟨w2.heap.size, 0, none⟩ = some (.bool false) := by simp [World.cell?, P]
  have p1 : W2.cell? ⟨w2.heap.size, 1, none⟩ = some (.int .i64 k) := by simp [World.cell?, P]
  have p2 : W2.cell? ⟨w2.heap.size, 2, none⟩ = some (.int .i64 0) := by simp [World.cell?, P]
  have p3 : W2.cell? ⟨w2.heap.size, 3, none⟩ = some (.int .u64 0) := by simp [World.cell?, P]
  have r0 : W2.cell? ⟨w.heap.size, 0, none⟩ = some (.bool false) := by rw [hW2]; go_simp
  have r1 : W2.cell? ⟨w.heap.size, 1, none⟩ = some (.slice none 0 0) := by rw [hW2]; go_simp
  have r2 : W2.cell? ⟨w.heap.size, 2, none⟩ = some (.int .i64 0) := by rw [hW2]; go_simp
  have f0 : W2.frozen? ⟨w.heap.size, 0, none⟩ = false := by rw [hW2]; go_simp
  have f1 : W2.frozen? ⟨w.heap.size, 1, none⟩ = false := by rw [hW2]; go_simp
  have f2 : W2.frozen? ⟨w.heap.size, 2, none⟩ = false := by rw [hW2]; go_simp
  have hz2 : w2.heap.size < W2.heap.size := by rw [hW2]; simp
  have hz3 : w.heap.size < W2.heap.size := by omega
  have SW := Aside.intro hbW
  go_wp2_with fail
  rw [← hW2]
  clear hW2 hbW P hc hf SB
  go_region_with (go_at_call 38; refine (H0.out _).mono ?_; rintro r w3 ⟨rfl, hb3⟩; have hb4 : Below W2.heap.size W2 w3 := (by first | exact hb3 | exact ((Below.refl _ W2).drew).trans (hb3.mono (Nat.le_refl _))); obtain ⟨hc, hf⟩ := bcell hb4; have S3 := Aside.intro hb4; clear hb3 hb4)
  all_goals (
    have hbf := Aside.intro (SW.out.trans (S3.out.mono (by omega)))
    have hzf : w.heap.size ≤ w3.heap.size := by have := S3.out.size; omega
    rcases hk with rfl | rfl
    all_goals (
      go_wp2
      exact bodyPost_ret (v := .tuple #[.agg #[.bool false, .slice none 0 0, .int .i64 0], .int .i64 30]) (by simp [results, Tryd.results21, go_sem, hc, hz3, r0, r1, r2]) rfl ⟨rfl, Below.setC (Below.setC (Below.setC hbf.out _ _ _ (Nat.le_refl _) hzf) _ _ _ (Nat.le_refl _) (by simpa [World.setCell] using hzf)) _ _ _ (Nat.le_refl _) (by simpa [World.setCell] using hzf)⟩))

theorem Of_any (s : Bool) (e f : Nat) (he : e < 2048) (hf : f < 4503599627370496) (w : World) (hT : Tab w) :
    Calls Tryd.prog 21 #[.float .f64 (B.bw s e f)] w fun r w' => OAns w.heap.size w' r (ofR s e f) (ofE e) ∧ Below w.heap.size w w' := by
  have HA : Hid (∀ u, Calls Tryd.prog 39 #[.float .f64 (B.bw s e f)] u fun r w' => r = .returned (.float .f64 (B.bw false e f)) ∧ w' = u) := fun u => B.abs_any s e f he hf u
  have HS : ∀ u, Calls Tryd.prog 38 #[.float .f64 (B.bw false e f)] u fun r w' => r = .returned (.agg #[.bool (B.ng false e f), .int .i64 (B.cls e f), .int .i64 (B.xp e), .int .u64 (B.fr e f)]) ∧ Below u.heap.size u w' := fun u => B.Split_any false e f he hf u
  have H0 : Hid (∀ u, Calls Tryd.prog 38 #[.float .f64 0] u fun r w' => r = .returned (.agg #[.bool false, .int .i64 0, .int .i64 (-1074), .int .u64 0]) ∧ Below u.heap.size u w') := fun u => B.Split_any false 0 0 (by omega) (by omega) u
  have hng : B.ng false e f = false := by unfold B.ng; split <;> rfl
  rw [hng] at HS
  unfold ofR ofE
  by_cases h7 : e = 2047
  · rw [if_pos h7, if_pos h7]
    have h2 : B.xp e = 0 ∧ B.fr e f = 0 := by unfold B.xp B.fr; rw [if_pos h7, if_pos h7]; exact ⟨rfl, rfl⟩
    rw [h2.1, h2.2] at HS
    have hk : B.cls e f = 3 ∨ B.cls e f = 4 := by unfold B.cls; rw [if_pos h7]; split <;> simp
    exact (of_wild _ _ _ w hk HA (hid HS) H0).mono fun r w' ⟨h1, h3⟩ => ⟨⟨_, h1, Nt.nil _ _⟩, h3⟩
  · rw [if_neg h7, if_neg h7]
    have hx : B.xp e = (if e = 0 then -1074 else (e : Int) - 1075) := by unfold B.xp; rw [if_neg h7]
    have hfr : B.fr e f = (((if e = 0 then f else f + 4503599627370496 : Nat)) : Int) := by unfold B.fr; rw [if_neg h7]; split <;> simp
    rw [hx, hfr] at HS
    by_cases h0 : e = 0 ∧ f = 0
    · obtain ⟨rfl, rfl⟩ := h0
      rw [show B.cls 0 0 = 0 from rfl] at HS
      simp only [if_pos, Int.ofNat_zero] at HS
      rw [if_pos rfl, mkS_zero]
      exact (of_nought _ _ w HA (hid HS) H0).mono fun r w' ⟨h1, h3⟩ => ⟨⟨_, h1, Nt.nil _ _⟩, h3⟩
    · have hcl : B.cls e f = 1 ∨ B.cls e f = 2 := by
        unfold B.cls; rw [if_neg h7]
        by_cases h1 : e = 0
        · rw [if_pos h1, if_neg (fun h => h0 ⟨h1, h⟩)]; simp
        · rw [if_neg h1]; simp
      obtain ⟨F, hF⟩ : ∃ F : Nat, (if e = 0 then f else f + 4503599627370496 : Nat) = F := ⟨_, rfl⟩
      obtain ⟨x, hxx⟩ : ∃ x : Int, (if e = 0 then -1074 else (e : Int) - 1075) = x := ⟨_, rfl⟩
      have hFb : F < 9007199254740992 := by rw [← hF]; split <;> omega
      have hxb : -1100 ≤ x ∧ x ≤ 1000 := by rw [← hxx]; split <;> omega
      rw [hF, hxx] at HS ⊢
      have ho : B.odd e f = false := by unfold B.odd; simp [h7]
      have hz : (e == 0 && f == 0) = false := by
        cases h1 : (e == 0 && f == 0)
        · rfl
        · exact absurd (by simpa using h1) h0
      have hb2 : B.bw false e f = B.bw s e f % 9223372036854775808 := by
        have h1 := B.bw_mod s e f he hf
        have h2 : (B.bw false e f : Int) = (e : Int) * 4503599627370496 + f := by unfold B.bw; simp
        omega
      rw [hb2] at HA HS
      obtain ⟨d, hd⟩ := of_some s F x hFb hxb.1 hxb.2
      have := of_core s (B.bw s e f) F (B.cls e f) x w hT hFb hxb.1 hxb.2 HA (hid HS) H0 (B.lt_zero s e f he hf ho hz) (by rcases hcl with h | h <;> rw [h] <;> rfl) (by rcases hcl with h | h <;> rw [h] <;> rfl) (by rcases hcl with h | h <;> rw [h] <;> rfl)
      refine this.mono fun r w' ⟨⟨v, h1, h2⟩, h3⟩ => ⟨⟨v, ?_, h2⟩, h3⟩
      rw [h1, hd]
      rfl
end Go.Proofs.YtmlmgfodkehenaaDoor

/- The document's Same; the law's took. -/
namespace Go.Proofs.YtmlmgfodkehenaaDoor
open Go.RowKit
set_option linter.unusedVariables false
set_option maxRecDepth 20000

set_option maxHeartbeats 4000000 in
theorem rSame3_any (n : Bool) (e : Int) (xs : List Nat) (ao bo : Option Addr) (l ca cb : Nat) (w : World) (hn : l = xs.length) (hbig : l ≤ 70368744177664) (hR : Rd w.heap.size w ao xs) (hS : Rd w.heap.size w bo xs) :
    Calls Tryd.prog 14 #[.agg #[.bool n, .slice ao l ca, .int .i64 e], .agg #[.bool n, .slice bo l cb, .int .i64 e]] w fun r w' => r = .returned (.bool true) ∧ Below w.heap.size w w' := by
  obtain ⟨W1, hW1⟩ : ∃ W, W = (w.alloc (.cells #[.bool n, .slice ao l ca, .int .i64 e] 28)).alloc (.cells #[.bool n, .slice bo l cb, .int .i64 e] 28) := ⟨_, rfl⟩
  have hb1 : Below w.heap.size w W1 := by rw [hW1]; exact (below_alloc w _).alloc (by simp) _
  have PA : W1.heap[w.heap.size]? = some (.cells #[.bool n, .slice ao l ca, .int .i64 e] 28 (0, 0)) := by rw [hW1, Below.heap_alloc _ _ _ (by simp), heap_alloc_new]
  have PB : W1.heap[w.heap.size + 1]? = some (.cells #[.bool n, .slice bo l cb, .int .i64 e] 28 (0, 0)) := by
    have h5 := heap_alloc_new (w.alloc (.cells #[.bool n, .slice ao l ca, .int .i64 e] 28)) (.cells #[.bool n, .slice bo l cb, .int .i64 e] 28)
    rw [hW1]; simpa using h5
  have hz1 : W1.heap.size = w.heap.size + 2 := by rw [hW1]; simp
  have q1 : W1.cell? ⟨w.heap.size, 1, none⟩ = some (.slice ao l ca) := by simp [World.cell?, PA]
  have q2 : W1.cell? ⟨w.heap.size + 1, 1, none⟩ = some (.slice bo l cb) := by simp [World.cell?, PB]
  have HR := (Aside.intro (And.intro (hR.below hb1) (And.intro (hS.below hb1) (And.intro hn (And.intro hb1 (And.intro q1 (And.intro q2 hz1)))))))
  clear hR hS hn hb1 PA PB hz1 q1 q2
  go_enter Tryd.func14, Tryd.ntmps14
  go_wp2
  rw [← hW1]
  clear hW1
  go_loopg [5] l (fun gk i wr => ∃ k : Nat, gk + k = l ∧ i = .int .i64 (k : Nat) ∧ Hid (Below W1.heap.size W1 wr))
  case atStart => exact ⟨0, by omega, rfl, Below.refl _ _⟩
  case round =>
    obtain ⟨k, hgk, rfl, HB⟩ := hrel
    obtain ⟨hR, hS, hn, hb1, q1, q2, hz1⟩ := HR.out
    have p1 : wr.cell? ⟨w.heap.size, 1, none⟩ = some (.slice ao l ca) := (HB.out.cell (p := ⟨w.heap.size, 1, none⟩) (by simp; omega)).trans q1
    have p2 : wr.cell? ⟨w.heap.size + 1, 1, none⟩ = some (.slice bo l cb) := (HB.out.cell (p := ⟨w.heap.size + 1, 1, none⟩) (by simp; omega)).trans q2
    clear hb1 q1 q2 hz1
    by_cases hk : k < l
    · obtain ⟨b, off, hB1, rfl, hc1⟩ := hR (by intro e; subst e; simp at hn; omega)
      obtain ⟨b2, off2, hB2, rfl, hc2⟩ := hS (by intro e; subst e; simp at hn; omega)
      have g1 : wr.cell? ⟨b, off + k, none⟩ = some (.int .u32 ((xs.getD k 0 : Nat) : Int)) :=
        (HB.out.cell (p := ⟨b, off + k, none⟩) (World.block_lt_of_cell? W1 ⟨b, off + k, none⟩ (hc1 k (by omega)))).trans (hc1 k (by omega))
      have g2 : wr.cell? ⟨b2, off2 + k, none⟩ = some (.int .u32 ((xs.getD k 0 : Nat) : Int)) :=
        (HB.out.cell (p := ⟨b2, off2 + k, none⟩) (World.block_lt_of_cell? W1 ⟨b2, off2 + k, none⟩ (hc2 k (by omega)))).trans (hc2 k (by omega))
      obtain ⟨x, hxx⟩ : ∃ x : Nat, xs.getD k 0 = x := ⟨_, rfl⟩
      rw [hxx] at g1 g2
      clear hR hS hn hc1 hc2 hxx hB1 hB2
      go_wp2
      go_quiet (fail)
      go_wp2
      go_roundg (gk - 1)
      case measure => omega
      case rel => exact ⟨k + 1, by omega, by go_num, Below.drewN' HB.out _⟩
    · obtain rfl : k = l := by omega
      clear hR hS hn
      go_wp2
      go_ret
      obtain ⟨hR, hS, hn, hb1, q1, q2, hz1⟩ := HR.out
      exact ⟨rfl, hb1.trans (HB.out.mono (by omega))⟩

end Go.Proofs.YtmlmgfodkehenaaDoor

/- The law's took. -/
namespace Go.Proofs.YtmlmgfodkehenaaDoor
open Go.RowKit
set_option linter.unusedVariables false
set_option maxRecDepth 20000

theorem Nt.arg' {lo : Nat} {w : World} {a : Option Addr} {n c X : Nat} (h : Nt lo w (.slice a n c) X) (hs : (ws X).length ≤ 35184372088832) : n = (ws X).length ∧ Arg w a (ws X).length c (ws X) := by
  obtain ⟨a', c', e, A⟩ := h.arg hs
  cases e
  exact ⟨rfl, A⟩

end Go.Proofs.YtmlmgfodkehenaaDoor

/- dyad's evenSum, sum, difference. -/
namespace Go.Proofs.YtmlmgfodkehenaaDoor
open Go.RowKit
set_option linter.unusedVariables false
set_option maxRecDepth 20000
set_option linter.unusedSimpArgs false

theorem len8 {X : Nat} (h : bl X ≤ 262144) : (ws X).length ≤ 8192 := by rw [ws_len_bl]; omega
theorem notLG {X : Nat} (h : bl X ≤ 262144) : ¬ LG X := by rw [LG_bl]; omega
theorem bl_mono {X Y : Nat} (h : X ≤ Y) : bl X ≤ bl Y := by
  by_cases h0 : bl X = 0
  · omega
  · have h1 := (bl_gt X (bl X - 1)).1 (by omega)
    have := (bl_gt Y (bl X - 1)).2 (Nat.le_trans h1 h)
    omega
end Go.Proofs.YtmlmgfodkehenaaDoor

/- Dyads in blocks; dyad's forms. -/
namespace Go.Proofs.YtmlmgfodkehenaaDoor
open Go.RowKit
set_option linter.unusedVariables false
set_option maxRecDepth 20000
set_option linter.unusedSimpArgs false

/-- A Dyad in a block of its own. -/
def Dk (w : World) (g : Nat) (n : Bool) (v : Value) (e : Int) : Prop := w.heap[g]? = some (.cells #[.bool n, v, .int .i64 e] 28 (0, 0))
theorem Dk.lt {w : World} {g : Nat} {n : Bool} {v : Value} {e : Int} (h : Dk w g n v e) : g < w.heap.size := (Array.getElem?_eq_some_iff.1 h).1
theorem Dk.below {w w' : World} {g : Nat} {n : Bool} {v : Value} {e : Int} (h : Dk w g n v e) (hb : Below w.heap.size w w') : Dk w' g n v e := by
  unfold Dk; rw [hb.block g h.lt]; exact h
theorem Dk.alloc {w : World} {g : Nat} {n : Bool} {v : Value} {e : Int} (h : Dk w g n v e) (o : Obj) : Dk (w.alloc o) g n v e := h.below (below_alloc w o)
theorem Dk.new (w : World) (n : Bool) (v : Value) (e : Int) : Dk (w.alloc (.cells #[.bool n, v, .int .i64 e] 28)) w.heap.size n v e := heap_alloc_new _ _
theorem Dk.facts {w : World} {g : Nat} {n : Bool} {v : Value} {e : Int} (h : Dk w g n v e) :
    w.cell? ⟨g, 0, none⟩ = some (.bool n) ∧ w.cell? ⟨g, 1, none⟩ = some v ∧ w.cell? ⟨g, 2, none⟩ = some (.int .i64 e) ∧ w.frozen? ⟨g, 0, none⟩ = false ∧ w.frozen? ⟨g, 1, none⟩ = false ∧ w.frozen? ⟨g, 2, none⟩ = false := by
  unfold Dk at h
  simp [World.cell?, World.frozen?, h]
/-- What is stored whole. -/
abbrev st3 (w : World) (g : Nat) (x y z : Value) : World := ((w.setCell ⟨g, 0, none⟩ x).setCell ⟨g, 1, none⟩ y).setCell ⟨g, 2, none⟩ z
theorem Dk.set {w : World} {g : Nat} {n : Bool} {v : Value} {e : Int} (h : Dk w g n v e) (m : Bool) (u : Value) (f : Int) : Dk (st3 w g (.bool m) u (.int .i64 f)) g m u f := by
  unfold Dk at h ⊢
  simp [st3, World.setCell, Array.getElem?_modify, h]
theorem Fin.st3 {lo m : Nat} {w0 w : World} {v : Value} {X : Nat} (H : Fin lo m w0 w v X) (g : Nat) (x y z : Value) (h1 : lo ≤ g) (h2 : g < m) : Fin lo m w0 (st3 w g x y z) v X := ((H.set g 0 x h1 h2).set g 1 y h1 h2).set g 2 z h1 h2
theorem Fin.below {lo m : Nat} {w0 w w' : World} {v : Value} {X : Nat} (H : Fin lo m w0 w v X) (hb : Below w.heap.size w w') : Fin lo m w0 w' v X := ⟨H.nt.below hb, H.bel.trans (hb.mono H.size), Nat.le_trans H.size hb.size⟩

theorem Fin.drew {lo m : Nat} {w0 w : World} {v : Value} {X : Nat} (H : Fin lo m w0 w v X) : Fin lo m w0 w.drew v X := ⟨H.nt, H.bel.drew, H.size⟩
end Go.Proofs.YtmlmgfodkehenaaDoor

/- dyad's Add: what it answers. -/
namespace Go.Proofs.YtmlmgfodkehenaaDoor
open Go.RowKit
set_option linter.unusedVariables false
set_option maxRecDepth 20000

theorem shift_up (X : Nat) (b : Int) (h0 : 0 ≤ b) (hX : X ≠ 0) (hl : bl X ≤ 262144) : shiftS X b = if 262144 < bl X + b.toNat then (0, 2) else (X * 2 ^ b.toNat, 0) := by
  unfold shiftS
  rw [if_neg (notLG hl), if_neg hX, if_neg (by omega)]
  by_cases h : 262144 < bl X + b.toNat
  · rw [if_pos h, if_pos (by omega)]
  · rw [if_neg h, if_neg (by omega)]
theorem bl_up (X b : Nat) (hX : X ≠ 0) : bl (X * 2 ^ b) = bl X + b := by rw [Nat.mul_comm, bl_mul_pow b X hX]; omega

theorem len_ne {X : Nat} (h : X ≠ 0) : ((((ws X).length : Nat) : Int) == 0) = false := beq_eq_false_iff_ne.2 (by have : (ws X).length ≠ 0 := fun e => h ((ws_len_zero X).1 e); omega)

end Go.Proofs.YtmlmgfodkehenaaDoor

/- Plain facts on rounding to a format: the word that is nearest stands beside the number; what is a number of the format is written as that number, whatever its place; halves are exact. -/
namespace Go.Proofs.YtmlmgfodkehenaaDoor.B
set_option linter.unusedVariables false
set_option maxRecDepth 20000
open Ieee

/-- the value of a rung, by its step. -/
theorem val_at (f : Format) (j c : Nat) (h : j = 0 ∨ f.binade ≤ c) (hc : c ≤ 2 * f.binade) : val f (j * f.binade + c) = c * 2 ^ j := by
  have hb := binade_pos f
  unfold val
  generalize f.binade = B at *
  by_cases h1 : c < B
  · have hj : j = 0 := by omega
    subst hj
    rw [Nat.zero_mul, Nat.zero_add, if_pos h1, Nat.pow_zero, Nat.mul_one]
  · have h2 : ¬ j * B + c < B := by
      have := Nat.zero_le (j * B); omega
    rw [if_neg h2]
    by_cases h3 : c = 2 * B
    · subst h3
      have e : j * B + 2 * B = (j + 2) * B := by rw [Nat.add_mul]
      rw [e, Nat.mul_mod_left, Nat.mul_div_cancel _ hb, Nat.add_zero, show j + 2 - 1 = j + 1 from rfl, Nat.pow_succ, Nat.mul_comm 2 B, Nat.mul_assoc, Nat.mul_comm 2]
    · have e : j * B + c = B * (j + 1) + (c - B) := by
        rw [Nat.mul_succ, Nat.mul_comm j]; omega
      have e1 : (j * B + c) % B = c - B := by rw [e, Nat.mul_add_mod, Nat.mod_eq_of_lt (by omega)]
      have e2 : (j * B + c) / B = j + 1 := by rw [e, Nat.mul_add_div hb, Nat.div_eq_of_lt (by omega)]
      rw [e1, e2, Nat.add_sub_cancel, show B + (c - B) = c from by omega]

/-- THE NEAREST WORD STANDS BESIDE THE NUMBER. -/
theorem nearest_near (f : Format) (neg : Bool) (mag k a : Nat) (hm : mag ≠ 0) :
    ∃ R, f.nearest neg mag (f.leastPlace + (k : Int) - (a : Int)) = f.word neg (min R f.infRung) ∧
      (val f R * 2 ^ a ≤ mag * 2 ^ k → mag * 2 ^ k < val f (R + 1) * 2 ^ a) ∧
      (mag * 2 ^ k < val f R * 2 ^ a → 0 < R ∧ val f (R - 1) * 2 ^ a < mag * 2 ^ k) := by
  unfold Format.nearest
  rw [if_neg hm]
  simp only [cut_even, Nat.shiftLeft_eq]
  have hl := (Nat.log2_eq_iff hm (k := mag.log2)).1 rfl
  generalize mag.log2 = L at *
  have hB : f.binade = 2 ^ f.fractionBits := rfl
  have hb := binade_pos f
  obtain ⟨j, hj⟩ : ∃ j : Nat, max (f.leastPlace + (k : Int) - (a : Int) + (L : Int) - (f.fractionBits : Int)) f.leastPlace = f.leastPlace + j :=
    ⟨(max (f.leastPlace + (k : Int) - (a : Int) + (L : Int) - (f.fractionBits : Int)) f.leastPlace - f.leastPlace).toNat, by omega⟩
  have hj1 : k + L ≤ a + f.fractionBits + j := by omega
  have hj2 : j = 0 ∨ k + L = a + f.fractionBits + j := by omega
  rw [hj]
  have e3 : (f.leastPlace + (j : Int) - f.leastPlace).toNat = j := by omega
  have e1 : (f.leastPlace + (k : Int) - (a : Int) - (f.leastPlace + (j : Int))).toNat = k - (a + j) := by omega
  have e2 : (f.leastPlace + (j : Int) - (f.leastPlace + (k : Int) - (a : Int))).toNat = a + j - k := by omega
  rw [e1, e2, e3]
  have hg : 0 < 2 ^ (a + j - k) := Nat.two_pow_pos _
  -- V * g = m' * 2^(a+j)
  have hV : mag * 2 ^ k * 2 ^ (a + j - k) = mag * 2 ^ (k - (a + j)) * 2 ^ (a + j) := by
    rw [Nat.mul_assoc, Nat.mul_assoc, ← Nat.pow_add, ← Nat.pow_add]
    congr 2; omega
  have up : mag * 2 ^ (k - (a + j)) < 2 * f.binade * 2 ^ (a + j - k) := by
    have : 2 * f.binade = 2 ^ (f.fractionBits + 1) := by rw [hB, Nat.pow_succ, Nat.mul_comm]
    rw [this, ← Nat.pow_add]
    refine Nat.lt_of_lt_of_le (Nat.mul_lt_mul_of_pos_right hl.2 (Nat.two_pow_pos _)) ?_
    rw [← Nat.pow_add]
    exact Nat.pow_le_pow_right (by omega) (by omega)
  have dn : j = 0 ∨ f.binade * 2 ^ (a + j - k) ≤ mag * 2 ^ (k - (a + j)) := by
    rcases hj2 with h | h
    · exact Or.inl h
    · right
      refine Nat.le_trans ?_ (Nat.mul_le_mul_right _ hl.1)
      rw [hB, ← Nat.pow_add, ← Nat.pow_add]
      exact Nat.pow_le_pow_right (by omega) (by omega)
  generalize hm' : mag * 2 ^ (k - (a + j)) = m' at *
  generalize 2 ^ (a + j - k) = g at *
  generalize mag * 2 ^ k = V at *
  have hdm := Nat.div_add_mod m' g
  have hmod := Nat.mod_lt m' hg
  have hlow : m' / g < 2 * f.binade := (Nat.div_lt_iff_lt_mul hg).2 up
  have hlow2 : j = 0 ∨ f.binade ≤ m' / g := by
    rcases dn with h | h
    · exact Or.inl h
    · exact Or.inr ((Nat.le_div_iff_mul_le hg).2 h)
  have hp2 : 0 < 2 ^ (a + j) := Nat.two_pow_pos _
  -- the bounds
  have b1 : m' / g * 2 ^ (a + j) ≤ V := by
    refine Nat.le_of_mul_le_mul_right ?_ hg
    rw [hV, Nat.mul_right_comm]
    exact Nat.mul_le_mul_right _ (by rw [Nat.mul_comm]; omega)
  have b2 : V < (m' / g + 1) * 2 ^ (a + j) := by
    refine Nat.lt_of_mul_lt_mul_right (a := g) ?_
    rw [hV, Nat.mul_right_comm]
    refine Nat.mul_lt_mul_of_pos_right ?_ hp2
    rw [Nat.add_mul, Nat.one_mul, Nat.mul_comm]; omega
  have b3 : m' % g ≠ 0 → m' / g * 2 ^ (a + j) < V := by
    intro hr
    refine Nat.lt_of_mul_lt_mul_right (a := g) ?_
    rw [hV, Nat.mul_right_comm]
    refine Nat.mul_lt_mul_of_pos_right ?_ hp2
    rw [Nat.mul_comm]; omega
  have v0 : val f (j * f.binade + m' / g) * 2 ^ a = m' / g * 2 ^ (a + j) := by
    rw [val_at f j _ hlow2 (by omega), Nat.mul_assoc, ← Nat.pow_add, Nat.add_comm j a]
  have v1 : val f (j * f.binade + (m' / g + 1)) * 2 ^ a = (m' / g + 1) * 2 ^ (a + j) := by
    rw [val_at f j _ (by omega) (by omega), Nat.mul_assoc, ← Nat.pow_add, Nat.add_comm j a]
  refine ⟨j * f.binade + rte m' g, rfl, ?_, ?_⟩
  · unfold rte
    cases hc : (decide (g < 2 * (m' % g)) || (g == 2 * (m' % g) && m' / g % 2 == 1))
    · intro _
      simp only [Bool.toNat_false, Nat.add_zero]
      rw [Nat.add_assoc, v1]; exact b2
    · intro h
      simp only [Bool.toNat_true] at h
      rw [v1] at h
      omega
  · unfold rte
    cases hc : (decide (g < 2 * (m' % g)) || (g == 2 * (m' % g) && m' / g % 2 == 1))
    · intro h
      simp only [Bool.toNat_false, Nat.add_zero] at h
      rw [v0] at h
      omega
    · intro _
      simp only [Bool.toNat_true]
      refine ⟨Nat.succ_pos _, ?_⟩
      rw [show j * f.binade + (m' / g + 1) - 1 = j * f.binade + m' / g from rfl, v0]
      refine b3 (fun hr => ?_)
      rw [hr] at hc
      simp at hc
      omega

/-- what is a number of the format is written as that number, whatever its place. -/
theorem nearest_exact2 (f : Format) (neg : Bool) (mag k a r : Nat) (hr : r < f.infRung) (h : mag * 2 ^ k = val f r * 2 ^ a) (hm : mag ≠ 0) :
    f.nearest neg mag (f.leastPlace + (k : Int) - (a : Int)) = f.word neg r := by
  obtain ⟨R, e, h1, h2⟩ := nearest_near f neg mag k a hm
  have hp : 0 < 2 ^ a := Nat.two_pow_pos _
  have : R = r := by
    by_cases c : val f R * 2 ^ a ≤ mag * 2 ^ k
    · have c2 := h1 c
      rw [h] at c c2
      have d1 := Nat.le_of_mul_le_mul_right c hp
      have d2 := (val_lt_iff f).1 (Nat.lt_of_mul_lt_mul_right c2)
      have d3 : ¬ r < R := fun hh => by have := val_lt f hh; omega
      omega
    · have c2 := h2 (by omega)
      rw [h] at c c2
      have d1 := (val_lt_iff f).1 (Nat.lt_of_mul_lt_mul_right (a := 2 ^ a) (Nat.lt_of_not_le c))
      have d2 := (val_lt_iff f).1 (Nat.lt_of_mul_lt_mul_right c2.2)
      omega
  rw [e, this, Nat.min_eq_left (by omega)]
end Go.Proofs.YtmlmgfodkehenaaDoor.B

/- math's Ldexp and Copysign. -/
namespace Go.Proofs.YtmlmgfodkehenaaDoor.B
open Go.RowKit
set_option linter.unusedVariables false
set_option maxRecDepth 20000
attribute [local go_sem] f64bits f64frombits
theorem mul_exact (f : Ieee.Format) (hs : f.infRung < f.signWeight) (s t : Bool) (r u v a : Nat) (ha : f.leastPlace = -(a : Int)) (hr : r < f.infRung) (hu : u < f.infRung) (hv : v < f.infRung)
    (h : val f r * val f u = val f v * 2 ^ a) (h0 : val f r ≠ 0) (h1 : val f u ≠ 0) : f.mul (f.word s r) (f.word t u) = some (f.word (s ^^ t) v) := by
  obtain ⟨m, k, e1, v1⟩ := read_word f s r hr hs
  obtain ⟨n, j, e2, v2⟩ := read_word f t u hu hs
  unfold Ieee.Format.mul
  rw [e1, e2]
  show some (f.nearest (s ^^ t) (m * n) (f.leastPlace + k + (f.leastPlace + j))) = _
  have e : f.leastPlace + (k : Int) + (f.leastPlace + (j : Int)) = f.leastPlace + ((k + j : Nat) : Int) - (a : Int) := by omega
  have hmn : m * n ≠ 0 := by
    intro h2
    rcases Nat.mul_eq_zero.1 h2 with h3 | h3
    · subst h3; simp at v1; exact h0 v1.symm
    · subst h3; simp at v2; exact h1 v2.symm
  rw [e, nearest_exact2 f _ (m * n) (k + j) a v hv ?_ hmn]
  rw [← h, ← v1, ← v2, Nat.pow_add]
  grind

theorem and_high (a : Nat) (h : a < 2 ^ 63) : a &&& 2 ^ 63 = 0 := by
  apply Nat.eq_of_testBit_eq
  intro i
  rw [Nat.testBit_and, Nat.testBit_two_pow, Nat.zero_testBit]
  by_cases hi : 63 = i
  · subst hi; rw [Nat.testBit_lt_two_pow h]; rfl
  · simp [hi]

theorem mask_clear (e g : Nat) (he : e < 2048) (hg : g < 4503599627370496) : bits .andNot .u64 ((bw false e g : Nat) : Int) 9218868437227405312 = (g : Int) := by
  have h := u64_andNot_nat (bw false e g) 9218868437227405312 (bw_lt false e g he hg) (by omega)
  rw [show (((9218868437227405312 : Nat)) : Int) = 9218868437227405312 from rfl] at h
  rw [h]
  have hb : bw false e g = e * 4503599627370496 + g := by unfold bw; simp
  have hlt : bw false e g < 2 ^ 63 := by rw [hb]; omega
  have e1 : 18446744073709551615 - 9218868437227405312 = 2 ^ 63 ||| (2 ^ 52 - 1) := by decide
  rw [e1, Nat.and_or_distrib_left, Nat.and_two_pow_sub_one_eq_mod, and_high _ hlt, Nat.zero_or, hb]
  omega

theorem join_exp (E g : Nat) (hE : E < 2048) (hg : g < 4503599627370496) : bits .or .u64 (g : Int) ((E : Int) * 4503599627370496) = ((bw false E g : Nat) : Int) := by
  have hc : bits .or .u64 (g : Int) ((E : Int) * 4503599627370496) = bits .or .u64 ((E : Int) * 4503599627370496) (g : Int) := by simp only [bits, BitVec.or_comm]
  rw [hc, bits_join .u64 64 (by decide) wraps_u64 52 ((E : Int) * 4503599627370496) (g : Int) (by omega) (by omega) (by omega) (by omega) (by omega) (by omega)]
  unfold bw; simp

set_option maxHeartbeats 1000000 in
theorem isInf0 (e g : Nat) (he : e < 2047) (hg : g < 4503599627370496) (w : World) :
    Calls Tryd.prog 46 #[.float .f64 (bw false e g), .int .i64 0] w fun r w' => r = .returned (.bool false) ∧ w' = w := by
  have H := hid (abs_any false e g (by omega) hg w)
  have h1 := gt_max false e g (by omega) hg
  have h2 : (!false && (e == 2047 && g == 0)) = false := by simp; omega
  rw [h2] at h1
  generalize bw false e g = b at *
  go_enter Tryd.func46, Tryd.ntmps46
  go_wp2_with fail
  refine (Calls.mono H.out) ?_
  rintro r w1 ⟨rfl, rfl⟩
  go_wp2
  go_ret
  exact ⟨rfl, rfl⟩

set_option maxHeartbeats 1000000 in
theorem normalize_any (e g : Nat) (h0 : 0 < e) (he : e < 2047) (hg : g < 4503599627370496) (w : World) :
    Calls Tryd.prog 70 #[.float .f64 (bw false e g)] w fun r w' => r = .returned (.tuple #[.float .f64 (bw false e g), .int .i64 0]) ∧ w' = w := by
  have H := hid (abs_any false e g (by omega) hg w)
  have h1 := lt_f64 false false e g 1 0 (by omega) hg (by omega) (by omega)
  have h3 : (!odd e g && (!odd 1 0 && decide (pl false e g < pl false 1 0))) = false := by
    have : ¬ pl false e g < pl false 1 0 := by unfold pl sg; simp; omega
    simp [this]
  rw [h3, show bw false 1 0 = 4503599627370496 from rfl] at h1
  generalize bw false e g = b at *
  clear h3
  go_enter Tryd.func70, Tryd.ntmps70
  go_wp2_with fail
  refine (Calls.mono H.out) ?_
  rintro r w1 ⟨rfl, rfl⟩
  go_wp2
  go_ret2
  exact ⟨rfl, rfl⟩

set_option maxHeartbeats 1000000 in
theorem inf_any (w : World) : Calls Tryd.prog 72 #[.int .i64 1] w fun r w' => r = .returned (.float .f64 9218868437227405312) ∧ w' = w := by
  go_enter Tryd.func72, Tryd.ntmps72
  go_wp2
  go_ret
  exact ⟨rfl, rfl⟩

set_option maxHeartbeats 1000000 in
theorem copysign_neg (e g : Nat) (he : e < 2048) (hg : g < 4503599627370496) (w : World) :
    Calls Tryd.prog 71 #[.float .f64 (bw false e g), .float .f64 13830554455654793216] w fun r w' => r = .returned (.float .f64 (bw true e g)) ∧ w' = w := by
  have h1 := abs_bw false e g he hg
  have h2 : bits .and .u64 13830554455654793216 9223372036854775808 = 9223372036854775808 := by decide
  have hb : bw false e g = e * 4503599627370496 + g := by unfold bw; simp
  have h3 := or_sign ((bw false e g : Nat) : Int) (by omega) (by rw [hb]; omega)
  have h4 : ((bw false e g : Nat) : Int) + 9223372036854775808 = ((bw true e g : Nat) : Int) := by unfold bw; simp; omega
  rw [h4] at h3
  generalize bw false e g = b at *
  generalize bw true e g = d at *
  clear hb h4
  go_enter Tryd.func71, Tryd.ntmps71
  go_wp2
  go_ret
  exact ⟨by simp, rfl⟩
end Go.Proofs.YtmlmgfodkehenaaDoor.B

