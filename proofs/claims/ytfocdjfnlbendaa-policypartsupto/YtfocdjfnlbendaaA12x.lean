/- Specials that may be: sound, MayBe. -/
import Derived.Test.YtfocdjfnlbendaaA6x
import Derived.Deep.RegionWith
import Derived.BigQuiet
import Derived.Test.YtfocdjfnlbendaaA1x
import Derived.ProofKit
import Derived.OpenShut
import Derived.ChangeOld
import Derived.ChangeArms
import Derived.SizedLaws
import Derived.Laws.Cover2
namespace Go.Proofs.Ytfocdjfnlbendaa
open Go.RowKit
open Go.Proofs.Ytfocdjfnlbendaa.B (f64bits f64frombits bw bcell)
set_option linter.unusedVariables false
set_option maxRecDepth 20000
attribute [local go_sem] st_float f64bits f64frombits

/-- May Specials be? -/
def snd (n u d m p a : Int) : Bool := ct n && ct u && ct d && (ct m && ct p && ct a) && decide (n + u + d + m + p ≤ a)
theorem ct_true {n : Int} (h : ct n = true) : 0 ≤ n ∧ n ≤ 1099511627776 := by unfold ct at h; simpa using h

set_option maxHeartbeats 4000000 in
theorem MayBe_any (n u d m p a : Int) (w : World) : Calls Try.prog 37 #[.agg #[.int .i64 n, .int .i64 u, .int .i64 d, .int .i64 m, .int .i64 p, .int .i64 a]] w fun r w' => r = .returned (.bool (snd n u d m p a)) ∧ Below w.heap.size w w' := by
  have below : ∀ o, Below w.heap.size w (w.alloc o) := fun o => (Below.refl _ _).alloc (Nat.le_refl _) _
  unfold snd
  have Hn := hid (within_any n)
  have Hu := hid (within_any u)
  have Hd := hid (within_any d)
  have Hm := hid (within_any m)
  have Hp := hid (within_any p)
  have Ha := hid (within_any a)
  have h1 : (ct n = false) ∨ (ct n = true ∧ ct u = false) ∨ (ct n = true ∧ ct u = true ∧ ct d = false) ∨ (ct n = true ∧ ct u = true ∧ ct d = true) := by cases ct n <;> cases ct u <;> cases ct d <;> simp
  have h2 : (ct m = false) ∨ (ct m = true ∧ ct p = false) ∨ (ct m = true ∧ ct p = true ∧ ct a = false) ∨ (ct m = true ∧ ct p = true ∧ ct a = true) := by cases ct m <;> cases ct p <;> cases ct a <;> simp
  rcases h1 with e1 | ⟨e1, e2⟩ | ⟨e1, e2, e3⟩ | ⟨e1, e2, e3⟩ <;> rcases h2 with g1 | ⟨g1, g2⟩ | ⟨g1, g2, g3⟩ | ⟨g1, g2, g3⟩
  · rw [e1, g1]
    rw [e1] at Hn
    rw [g1] at Hm
    clear e1 g1
    go_enter Try.func37, Try.ntmps37
    go_wp2_with fail
    refine (Hn.out _).mono ?_
    rintro r w1 ⟨rfl, rfl⟩
    go_wp2_with fail
    refine (Hm.out _).mono ?_
    rintro r w1 ⟨rfl, rfl⟩
    go_wp2
    go_ret
    exact ⟨by first | rfl | simp, below _⟩
  · rw [e1, g1, g2]
    rw [e1] at Hn
    rw [g1] at Hm
    rw [g2] at Hp
    clear e1 g1 g2
    go_enter Try.func37, Try.ntmps37
    go_wp2_with fail
    refine (Hn.out _).mono ?_
    rintro r w1 ⟨rfl, rfl⟩
    go_wp2_with fail
    refine (Hm.out _).mono ?_
    rintro r w1 ⟨rfl, rfl⟩
    go_wp2_with fail
    refine (Hp.out _).mono ?_
    rintro r w1 ⟨rfl, rfl⟩
    go_wp2
    go_ret
    exact ⟨by first | rfl | simp, below _⟩
  · rw [e1, g1, g2, g3]
    rw [e1] at Hn
    rw [g1] at Hm
    rw [g2] at Hp
    rw [g3] at Ha
    clear e1 g1 g2 g3
    go_enter Try.func37, Try.ntmps37
    go_wp2_with fail
    refine (Hn.out _).mono ?_
    rintro r w1 ⟨rfl, rfl⟩
    go_wp2_with fail
    refine (Hm.out _).mono ?_
    rintro r w1 ⟨rfl, rfl⟩
    go_wp2_with fail
    refine (Hp.out _).mono ?_
    rintro r w1 ⟨rfl, rfl⟩
    go_wp2_with fail
    refine (Ha.out _).mono ?_
    rintro r w1 ⟨rfl, rfl⟩
    go_wp2
    go_ret
    exact ⟨by first | rfl | simp, below _⟩
  · rw [e1, g1, g2, g3]
    rw [e1] at Hn
    rw [g1] at Hm
    rw [g2] at Hp
    rw [g3] at Ha
    clear e1 g1 g2 g3
    go_enter Try.func37, Try.ntmps37
    go_wp2_with fail
    refine (Hn.out _).mono ?_
    rintro r w1 ⟨rfl, rfl⟩
    go_wp2_with fail
    refine (Hm.out _).mono ?_
    rintro r w1 ⟨rfl, rfl⟩
    go_wp2_with fail
    refine (Hp.out _).mono ?_
    rintro r w1 ⟨rfl, rfl⟩
    go_wp2_with fail
    refine (Ha.out _).mono ?_
    rintro r w1 ⟨rfl, rfl⟩
    go_wp2
    go_ret
    exact ⟨by first | rfl | simp, below _⟩
  · rw [e1, e2, g1]
    rw [e1] at Hn
    rw [e2] at Hu
    rw [g1] at Hm
    clear e1 e2 g1
    go_enter Try.func37, Try.ntmps37
    go_wp2_with fail
    refine (Hn.out _).mono ?_
    rintro r w1 ⟨rfl, rfl⟩
    go_wp2_with fail
    refine (Hu.out _).mono ?_
    rintro r w1 ⟨rfl, rfl⟩
    go_wp2_with fail
    refine (Hm.out _).mono ?_
    rintro r w1 ⟨rfl, rfl⟩
    go_wp2
    go_ret
    exact ⟨by first | rfl | simp, below _⟩
  · rw [e1, e2, g1, g2]
    rw [e1] at Hn
    rw [e2] at Hu
    rw [g1] at Hm
    rw [g2] at Hp
    clear e1 e2 g1 g2
    go_enter Try.func37, Try.ntmps37
    go_wp2_with fail
    refine (Hn.out _).mono ?_
    rintro r w1 ⟨rfl, rfl⟩
    go_wp2_with fail
    refine (Hu.out _).mono ?_
    rintro r w1 ⟨rfl, rfl⟩
    go_wp2_with fail
    refine (Hm.out _).mono ?_
    rintro r w1 ⟨rfl, rfl⟩
    go_wp2_with fail
    refine (Hp.out _).mono ?_
    rintro r w1 ⟨rfl, rfl⟩
    go_wp2
    go_ret
    exact ⟨by first | rfl | simp, below _⟩
  · rw [e1, e2, g1, g2, g3]
    rw [e1] at Hn
    rw [e2] at Hu
    rw [g1] at Hm
    rw [g2] at Hp
    rw [g3] at Ha
    clear e1 e2 g1 g2 g3
    go_enter Try.func37, Try.ntmps37
    go_wp2_with fail
    refine (Hn.out _).mono ?_
    rintro r w1 ⟨rfl, rfl⟩
    go_wp2_with fail
    refine (Hu.out _).mono ?_
    rintro r w1 ⟨rfl, rfl⟩
    go_wp2_with fail
    refine (Hm.out _).mono ?_
    rintro r w1 ⟨rfl, rfl⟩
    go_wp2_with fail
    refine (Hp.out _).mono ?_
    rintro r w1 ⟨rfl, rfl⟩
    go_wp2_with fail
    refine (Ha.out _).mono ?_
    rintro r w1 ⟨rfl, rfl⟩
    go_wp2
    go_ret
    exact ⟨by first | rfl | simp, below _⟩
  · rw [e1, e2, g1, g2, g3]
    rw [e1] at Hn
    rw [e2] at Hu
    rw [g1] at Hm
    rw [g2] at Hp
    rw [g3] at Ha
    clear e1 e2 g1 g2 g3
    go_enter Try.func37, Try.ntmps37
    go_wp2_with fail
    refine (Hn.out _).mono ?_
    rintro r w1 ⟨rfl, rfl⟩
    go_wp2_with fail
    refine (Hu.out _).mono ?_
    rintro r w1 ⟨rfl, rfl⟩
    go_wp2_with fail
    refine (Hm.out _).mono ?_
    rintro r w1 ⟨rfl, rfl⟩
    go_wp2_with fail
    refine (Hp.out _).mono ?_
    rintro r w1 ⟨rfl, rfl⟩
    go_wp2_with fail
    refine (Ha.out _).mono ?_
    rintro r w1 ⟨rfl, rfl⟩
    go_wp2
    go_ret
    exact ⟨by first | rfl | simp, below _⟩
  · rw [e1, e2, e3, g1]
    rw [e1] at Hn
    rw [e2] at Hu
    rw [e3] at Hd
    rw [g1] at Hm
    clear e1 e2 e3 g1
    go_enter Try.func37, Try.ntmps37
    go_wp2_with fail
    refine (Hn.out _).mono ?_
    rintro r w1 ⟨rfl, rfl⟩
    go_wp2_with fail
    refine (Hu.out _).mono ?_
    rintro r w1 ⟨rfl, rfl⟩
    go_wp2_with fail
    refine (Hd.out _).mono ?_
    rintro r w1 ⟨rfl, rfl⟩
    go_wp2_with fail
    refine (Hm.out _).mono ?_
    rintro r w1 ⟨rfl, rfl⟩
    go_wp2
    go_ret
    exact ⟨by first | rfl | simp, below _⟩
  · rw [e1, e2, e3, g1, g2]
    rw [e1] at Hn
    rw [e2] at Hu
    rw [e3] at Hd
    rw [g1] at Hm
    rw [g2] at Hp
    clear e1 e2 e3 g1 g2
    go_enter Try.func37, Try.ntmps37
    go_wp2_with fail
    refine (Hn.out _).mono ?_
    rintro r w1 ⟨rfl, rfl⟩
    go_wp2_with fail
    refine (Hu.out _).mono ?_
    rintro r w1 ⟨rfl, rfl⟩
    go_wp2_with fail
    refine (Hd.out _).mono ?_
    rintro r w1 ⟨rfl, rfl⟩
    go_wp2_with fail
    refine (Hm.out _).mono ?_
    rintro r w1 ⟨rfl, rfl⟩
    go_wp2_with fail
    refine (Hp.out _).mono ?_
    rintro r w1 ⟨rfl, rfl⟩
    go_wp2
    go_ret
    exact ⟨by first | rfl | simp, below _⟩
  · rw [e1, e2, e3, g1, g2, g3]
    rw [e1] at Hn
    rw [e2] at Hu
    rw [e3] at Hd
    rw [g1] at Hm
    rw [g2] at Hp
    rw [g3] at Ha
    clear e1 e2 e3 g1 g2 g3
    go_enter Try.func37, Try.ntmps37
    go_wp2_with fail
    refine (Hn.out _).mono ?_
    rintro r w1 ⟨rfl, rfl⟩
    go_wp2_with fail
    refine (Hu.out _).mono ?_
    rintro r w1 ⟨rfl, rfl⟩
    go_wp2_with fail
    refine (Hd.out _).mono ?_
    rintro r w1 ⟨rfl, rfl⟩
    go_wp2_with fail
    refine (Hm.out _).mono ?_
    rintro r w1 ⟨rfl, rfl⟩
    go_wp2_with fail
    refine (Hp.out _).mono ?_
    rintro r w1 ⟨rfl, rfl⟩
    go_wp2_with fail
    refine (Ha.out _).mono ?_
    rintro r w1 ⟨rfl, rfl⟩
    go_wp2
    go_ret
    exact ⟨by first | rfl | simp, below _⟩
  · rw [e1, e2, e3, g1, g2, g3]
    rw [e1] at Hn
    rw [e2] at Hu
    rw [e3] at Hd
    rw [g1] at Hm
    rw [g2] at Hp
    rw [g3] at Ha
    clear e1 e2 e3 g1 g2 g3
    go_enter Try.func37, Try.ntmps37
    go_wp2_with fail
    refine (Hn.out _).mono ?_
    rintro r w1 ⟨rfl, rfl⟩
    go_wp2_with fail
    refine (Hu.out _).mono ?_
    rintro r w1 ⟨rfl, rfl⟩
    go_wp2_with fail
    refine (Hd.out _).mono ?_
    rintro r w1 ⟨rfl, rfl⟩
    go_wp2_with fail
    refine (Hm.out _).mono ?_
    rintro r w1 ⟨rfl, rfl⟩
    go_wp2_with fail
    refine (Hp.out _).mono ?_
    rintro r w1 ⟨rfl, rfl⟩
    go_wp2_with fail
    refine (Ha.out _).mono ?_
    rintro r w1 ⟨rfl, rfl⟩
    go_wp2
    go_ret
    exact ⟨by first | rfl | simp, below _⟩
  · rw [e1, e2, e3, g1]
    rw [e1] at Hn
    rw [e2] at Hu
    rw [e3] at Hd
    rw [g1] at Hm
    clear e1 e2 e3 g1
    go_enter Try.func37, Try.ntmps37
    go_wp2_with fail
    refine (Hn.out _).mono ?_
    rintro r w1 ⟨rfl, rfl⟩
    go_wp2_with fail
    refine (Hu.out _).mono ?_
    rintro r w1 ⟨rfl, rfl⟩
    go_wp2_with fail
    refine (Hd.out _).mono ?_
    rintro r w1 ⟨rfl, rfl⟩
    go_wp2_with fail
    refine (Hm.out _).mono ?_
    rintro r w1 ⟨rfl, rfl⟩
    go_wp2
    go_ret
    exact ⟨by first | rfl | simp, below _⟩
  · rw [e1, e2, e3, g1, g2]
    rw [e1] at Hn
    rw [e2] at Hu
    rw [e3] at Hd
    rw [g1] at Hm
    rw [g2] at Hp
    clear e1 e2 e3 g1 g2
    go_enter Try.func37, Try.ntmps37
    go_wp2_with fail
    refine (Hn.out _).mono ?_
    rintro r w1 ⟨rfl, rfl⟩
    go_wp2_with fail
    refine (Hu.out _).mono ?_
    rintro r w1 ⟨rfl, rfl⟩
    go_wp2_with fail
    refine (Hd.out _).mono ?_
    rintro r w1 ⟨rfl, rfl⟩
    go_wp2_with fail
    refine (Hm.out _).mono ?_
    rintro r w1 ⟨rfl, rfl⟩
    go_wp2_with fail
    refine (Hp.out _).mono ?_
    rintro r w1 ⟨rfl, rfl⟩
    go_wp2
    go_ret
    exact ⟨by first | rfl | simp, below _⟩
  · rw [e1, e2, e3, g1, g2, g3]
    rw [e1] at Hn
    rw [e2] at Hu
    rw [e3] at Hd
    rw [g1] at Hm
    rw [g2] at Hp
    rw [g3] at Ha
    clear e1 e2 e3 g1 g2 g3
    go_enter Try.func37, Try.ntmps37
    go_wp2_with fail
    refine (Hn.out _).mono ?_
    rintro r w1 ⟨rfl, rfl⟩
    go_wp2_with fail
    refine (Hu.out _).mono ?_
    rintro r w1 ⟨rfl, rfl⟩
    go_wp2_with fail
    refine (Hd.out _).mono ?_
    rintro r w1 ⟨rfl, rfl⟩
    go_wp2_with fail
    refine (Hm.out _).mono ?_
    rintro r w1 ⟨rfl, rfl⟩
    go_wp2_with fail
    refine (Hp.out _).mono ?_
    rintro r w1 ⟨rfl, rfl⟩
    go_wp2_with fail
    refine (Ha.out _).mono ?_
    rintro r w1 ⟨rfl, rfl⟩
    go_wp2
    go_ret
    exact ⟨by first | rfl | simp, below _⟩
  · rw [e1, e2, e3, g1, g2, g3]
    rw [e1] at Hn
    rw [e2] at Hu
    rw [e3] at Hd
    rw [g1] at Hm
    rw [g2] at Hp
    rw [g3] at Ha
    have kn := ct_true e1
    have ku := ct_true e2
    have kd := ct_true e3
    have km := ct_true g1
    have kp := ct_true g2
    have ka := ct_true g3
    clear e1 e2 e3 g1 g2 g3
    go_enter Try.func37, Try.ntmps37
    go_wp2_with fail
    refine (Hn.out _).mono ?_
    rintro r w1 ⟨rfl, rfl⟩
    go_wp2_with fail
    refine (Hu.out _).mono ?_
    rintro r w1 ⟨rfl, rfl⟩
    go_wp2_with fail
    refine (Hd.out _).mono ?_
    rintro r w1 ⟨rfl, rfl⟩
    go_wp2_with fail
    refine (Hm.out _).mono ?_
    rintro r w1 ⟨rfl, rfl⟩
    go_wp2_with fail
    refine (Hp.out _).mono ?_
    rintro r w1 ⟨rfl, rfl⟩
    go_wp2_with fail
    refine (Ha.out _).mono ?_
    rintro r w1 ⟨rfl, rfl⟩
    go_wp2
    go_ret
    exact ⟨by first | rfl | simp, below _⟩

theorem ct_five {n u d m p : Int} (i : Nat) (hi : i < 5) (h : ct ([n, u, d, m, p].getD i 0) = false) (a : Int) : snd n u d m p a = false := by
  unfold snd
  obtain rfl | rfl | rfl | rfl | rfl : i = 0 ∨ i = 1 ∨ i = 2 ∨ i = 3 ∨ i = 4 := by omega
  all_goals (simp at h; simp [h])
def ps (L : List Int) (i : Nat) : Int := (L.take i).sum
theorem ps_succ (L : List Int) (i : Nat) (h : i < L.length) : ps L (i + 1) = ps L i + L.getD i 0 := by
  unfold ps; rw [List.take_succ_eq_append_getElem h, List.sum_append, List.getD_eq_getElem?_getD, List.getElem?_eq_getElem h]; simp

set_option maxHeartbeats 4000000 in
theorem sound_any (n u d m p a : Int) (w : World) : Calls Try.prog 34 #[.agg #[.int .i64 n, .int .i64 u, .int .i64 d, .int .i64 m, .int .i64 p, .int .i64 a]] w fun r w' => r = .returned (.bool (snd n u d m p a)) ∧ Below w.heap.size w w' := by
  obtain ⟨L, hL⟩ : ∃ L : List Int, L = [n, u, d, m, p] := ⟨_, rfl⟩
  have hlen : L.length = 5 := by rw [hL]; rfl
  have HL := (Aside.intro (And.intro hL hlen))
  obtain ⟨W, hW⟩ : ∃ W, W = (w.alloc (.cells #[.int .i64 n, .int .i64 u, .int .i64 d, .int .i64 m, .int .i64 p, .int .i64 a] 30)).alloc (.cells #[.int .i64 n, .int .i64 u, .int .i64 d, .int .i64 m, .int .i64 p] 69) := ⟨_, rfl⟩
  have hcell : ∀ i, i < 5 → W.cell? ⟨w.heap.size + 1, i, none⟩ = some (.int .i64 (L.getD i 0)) := by
    intro i hi
    have h1 := heap_alloc_new (w.alloc (.cells #[.int .i64 n, .int .i64 u, .int .i64 d, .int .i64 m, .int .i64 p, .int .i64 a] 30)) (.cells #[.int .i64 n, .int .i64 u, .int .i64 d, .int .i64 m, .int .i64 p] 69)
    rw [← hW] at h1
    simp only [World.size_alloc] at h1
    subst hL
    simp only [World.cell?, h1]
    obtain rfl | rfl | rfl | rfl | rfl : i = 0 ∨ i = 1 ∨ i = 2 ∨ i = 3 ∨ i = 4 := by omega
    all_goals simp
  have ha5 : W.cell? ⟨w.heap.size, 5, none⟩ = some (.int .i64 a) := by rw [hW]; simp [go_sem]
  have hbel : Below w.heap.size w W := by rw [hW]; exact ((Below.refl _ _).alloc (Nat.le_refl _) _).alloc (by simp) _
  have HC := (Aside.intro (And.intro hcell (And.intro hbel (And.intro hW ha5))))
  clear hL hlen hcell hbel hW ha5
  have HA := hid (countable_any a)
  go_enter Try.func34, Try.ntmps34
  go_wp2
  go_loopg [4, 17] 5 (fun gk sv iv wr => ∃ i : Nat, gk + i = 5 ∧ sv = .int .i64 (ps L i) ∧ iv = .int .i64 (i : Nat) ∧ wr = W ∧ Aside (∀ j, j < i → ct (L.getD j 0) = true) ∧ 0 ≤ ps L i ∧ ps L i ≤ (i : Int) * 1099511627776)
  case atStart => exact ⟨0, rfl, rfl, rfl, by rw [HC.out.2.2.1], fun j hj => absurd hj (by omega), by simp [ps], by simp [ps]⟩
  case round =>
    obtain ⟨i, hi, rfl, rfl, rfl, HT, hp0, hp1⟩ := hrel
    obtain ⟨hcell, hbel, hW, ha5⟩ := HC.out
    by_cases hi5 : i = 5
    · obtain rfl : gk = 0 := by omega
      subst hi5
      have hs : snd n u d m p a = (ct a && decide (ps L 5 ≤ a)) := by
        have h0 := HT.out 0 (by omega)
        have h1 := HT.out 1 (by omega)
        have h2 := HT.out 2 (by omega)
        have h3 := HT.out 3 (by omega)
        have h4 := HT.out 4 (by omega)
        have e := HL.out.1
        subst e
        have e2 : ps [n, u, d, m, p] 5 = n + u + d + m + p := by simp [ps]; omega
        rw [e2]
        simp at h0 h1 h2 h3 h4
        unfold snd
        rw [h0, h1, h2, h3, h4]
        simp
      obtain ⟨q, hq⟩ : ∃ q, ps L 5 = q := ⟨_, rfl⟩
      rw [hq] at hp0 hp1 hs ⊢
      have HS := Aside.intro hs
      clear hcell hW hs hq
      rcases ha : ct a with _ | _
      · rw [ha] at HA HS
        clear ha
        go_wp2_with fail
        refine (HA.out _).mono ?_
        rintro r w1 ⟨rfl, rfl⟩
        go_wp2
        go_ret
        exact ⟨by rw [HS.out]; first | rfl | simp, hbel⟩
      · rw [ha] at HA HS
        clear ha
        go_wp2_with fail
        refine (HA.out _).mono ?_
        rintro r w1 ⟨rfl, rfl⟩
        go_wp2
        go_ret
        exact ⟨by rw [HS.out]; first | rfl | simp, hbel⟩
    · have hil : i < 5 := by omega
      have hci := hcell i hil
      have HK := hid (countable_any (L.getD i 0))
      have hps := ps_succ L i (by rw [HL.out.2]; exact hil)
      obtain ⟨x, hx⟩ : ∃ x, L.getD i 0 = x := ⟨_, rfl⟩
      rw [hx] at hci HK hps
      rcases hc : ct x with _ | _
      · rw [hc] at HK
        have HS : Aside (snd n u d m p a = false) := by
          have h1 := hc
          rw [← hx, HL.out.1] at h1
          exact ct_five i hil h1 a
        have HB := Aside.intro hbel
        clear hcell hbel hW ha5 hps hx hc hi5 HC HL
        go_wp2_with fail
        refine (HK.out _).mono ?_
        rintro r w1 ⟨rfl, rfl⟩
        go_wp2
        go_ret
        exact ⟨by rw [HS.out]; rfl, HB.out⟩
      · rw [hc] at HK
        have hb := ct_true hc
        obtain ⟨q, hq⟩ : ∃ q, ps L i = q := ⟨_, rfl⟩
        obtain ⟨q2, hq2⟩ : ∃ q, ps L (i + 1) = q := ⟨_, rfl⟩
        rw [hq, hq2] at hps
        rw [hq] at hp0 hp1 ⊢
        have hq3 : q + x = q2 := hps.symm
        have hq4 : 0 ≤ q2 ∧ q2 ≤ ((i : Int) + 1) * 1099511627776 := by
          have : ((i : Int) + 1) * 1099511627776 = (i : Int) * 1099511627776 + 1099511627776 := by omega
          omega
        have hq5 : q2 ≤ 9223372036854775807 := by omega
        have hq6 : -9223372036854775808 ≤ q2 := by omega
        have HR := (Aside.intro (And.intro hq2 (And.intro hq4 (And.intro hx (And.intro hc hq3)))))
        clear hcell hbel hW ha5 hps hx hc hi5 HC hq2 hq hp0 hp1 hb hq4
        go_wp2_with fail
        refine (HK.out _).mono ?_
        rintro r w1 ⟨rfl, rfl⟩
        go_wp2
        go_roundg (5 - (i + 1))
        case measure => omega
        case rel =>
          obtain ⟨hq2, hq4, hx, hc, hq3⟩ := HR.out
          refine ⟨i + 1, by omega, ?_, by first | go_num | (congr 1; omega), rfl, ?_, by rw [hq2]; exact hq4.1, by rw [hq2]; have := hq4.2; push_cast; exact this⟩
          · first | (rw [hq2]; done) | (rw [hq2, ← hq3]; done)
          · intro j hj
            by_cases hji : j = i
            · subst hji; rw [hx]; exact hc
            · exact HT.out j (by omega)
/-- The verdict. -/
def vd (ok : Bool) (n u d a b : Int) : Nat × Bool :=
  if ok = false then (0, false) else if 0 < n ∧ a = 0 then (9221120237041090560, true) else if ¬ b = 0 then (0, false)
  else if 0 < u ∧ 0 < d then (9221120237041090560, true) else if 0 < u then (9218868437227405312, true) else if 0 < d then (18442240474082181120, true) else (0, false)
/-- Which nought. -/
def nt (ok : Bool) (n u d m p a mode : Int) : Nat :=
  if ok = false then 0 else if a - n - u - d = 0 then 0 else if m = a - n - u - d then 9223372036854775808 else if p = a - n - u - d then 0 else if mode = 3 then 9223372036854775808 else 0
theorem snd_bd {n u d m p a : Int} (h : snd n u d m p a = true) : (0 ≤ n ∧ n ≤ 1099511627776) ∧ (0 ≤ u ∧ u ≤ 1099511627776) ∧ (0 ≤ d ∧ d ≤ 1099511627776) ∧ (0 ≤ a ∧ a ≤ 1099511627776) := by
  unfold snd at h
  simp only [Bool.and_eq_true] at h
  exact ⟨ct_true h.1.1.1.1, ct_true h.1.1.1.2, ct_true h.1.1.2, ct_true h.1.2.2⟩

end Go.Proofs.Ytfocdjfnlbendaa

/- Verdict, the program's. -/
namespace Go.Proofs.Ytfocdjfnlbendaa
open Go.RowKit
open Go.Proofs.Ytfocdjfnlbendaa.B (f64bits f64frombits bw bcell)
set_option linter.unusedVariables false
set_option maxRecDepth 20000
attribute [local go_sem] st_float f64bits f64frombits

set_option maxHeartbeats 8000000 in
theorem Verdict_any (n u d m p l a b : Int) (w : World) : Calls Try.prog 18 #[.agg #[.int .i64 n, .int .i64 u, .int .i64 d, .int .i64 m, .int .i64 p, .int .i64 l], .agg #[.int .i64 a, .int .i64 b]] w fun r w' => r = .returned (.tuple #[.float .f64 (vd (snd n u d m p l && may a b) n u d a b).1, .bool (vd (snd n u d m p l && may a b) n u d a b).2]) ∧ Below w.heap.size w w' := by
  have HS := hid (sound_any n u d m p l)
  have HM := hid (May_any a b)
  have HN := hid (B.nan_any)
  have HU := hid (mInf_up)
  have HD := hid (mInf_down)
  rcases hs : snd n u d m p l with _ | _
  · rw [hs] at HS
    rw [Bool.false_and]
    have hv : vd false n u d a b = (0, false) := by unfold vd; rw [if_pos rfl]
    rw [hv]
    clear hs hv
    go_enter Try.func18, Try.ntmps18
    go_wp2_with fail
    refine (HS.out _).mono ?_
    rintro r w1 ⟨rfl, hb1⟩
    have hz1 := hb1.size
    simp at hz1
    obtain ⟨hc1, hf1⟩ := bcell hb1
    have B1 := Aside.intro hb1
    clear hb1
    go_wp2
    go_ret2
    exact ⟨by first | rfl | simp, (((Below.refl _ w).alloc (Nat.le_refl _) _).alloc (by simp) _).trans (B1.out.mono (by simp; omega))⟩
  rcases hm : may a b with _ | _
  · rw [hs] at HS
    rw [hm] at HM
    have hv : vd (true && false) n u d a b = (0, false) := if_pos rfl
    rw [hv]
    clear hs hm hv
    go_enter Try.func18, Try.ntmps18
    go_wp2_with fail
    refine (HS.out _).mono ?_
    rintro r w1 ⟨rfl, hb1⟩
    have hz1 := hb1.size
    simp at hz1
    obtain ⟨hc1, hf1⟩ := bcell hb1
    have B1 := Aside.intro hb1
    clear hb1
    go_wp2_with fail
    refine (HM.out _).mono ?_
    rintro r w2 ⟨rfl, hb2⟩
    have hz2 := hb2.size
    obtain ⟨hc2, hf2⟩ := bcell hb2
    have hc3 : ∀ b o, b < w.heap.size + 1 + 1 → w2.cell? ⟨b, o, none⟩ = w1.cell? ⟨b, o, none⟩ := fun b o h => hc2 b o (by omega)
    have B2 := Aside.intro hb2
    clear hb2 hc2 hf2
    go_wp2
    go_ret2
    exact ⟨by first | rfl | simp, ((((Below.refl _ w).alloc (Nat.le_refl _) _).alloc (by simp) _).trans (B1.out.mono (by simp; omega))).trans (B2.out.mono (by omega))⟩
  rw [hs] at HS
  rw [hm] at HM
  rw [Bool.true_and]
  clear hs hm
  have way1 : 0 < n → a = 0 → Calls Try.prog 18 #[.agg #[.int .i64 n, .int .i64 u, .int .i64 d, .int .i64 m, .int .i64 p, .int .i64 l], .agg #[.int .i64 a, .int .i64 b]] w fun r w' => r = .returned (.tuple #[.float .f64 (vd true n u d a b).1, .bool (vd true n u d a b).2]) ∧ Below w.heap.size w w' := by
    intro p1 p2
    have hv : vd true n u d a b = (9221120237041090560, true) := by unfold vd; rw [if_neg (by decide), if_pos ⟨p1, p2⟩]
    rw [hv]
    clear hv
    have q1 : 0 < n := p1
    have q2 : a = 0 := p2
    subst q2
    go_enter Try.func18, Try.ntmps18
    go_wp2_with fail
    refine (HS.out _).mono ?_
    rintro r w1 ⟨rfl, hb1⟩
    have hz1 := hb1.size
    simp at hz1
    obtain ⟨hc1, hf1⟩ := bcell hb1
    have B1 := Aside.intro hb1
    clear hb1
    go_wp2_with fail
    refine (HM.out _).mono ?_
    rintro r w2 ⟨rfl, hb2⟩
    have hz2 := hb2.size
    obtain ⟨hc2, hf2⟩ := bcell hb2
    have hc3 : ∀ b o, b < w.heap.size + 1 + 1 → w2.cell? ⟨b, o, none⟩ = w1.cell? ⟨b, o, none⟩ := fun b o h => hc2 b o (by omega)
    have B2 := Aside.intro hb2
    clear hb2 hc2 hf2
    go_wp2_with fail
    refine (HN.out _).mono ?_
    rintro r w3 ⟨rfl, rfl⟩
    go_wp2
    go_ret2
    exact ⟨by first | rfl | simp, ((((Below.refl _ w).alloc (Nat.le_refl _) _).alloc (by simp) _).trans (B1.out.mono (by simp; omega))).trans (B2.out.mono (by omega))⟩
  have way2 : 0 < n → ¬ (a = 0) → ¬ (b = 0) → Calls Try.prog 18 #[.agg #[.int .i64 n, .int .i64 u, .int .i64 d, .int .i64 m, .int .i64 p, .int .i64 l], .agg #[.int .i64 a, .int .i64 b]] w fun r w' => r = .returned (.tuple #[.float .f64 (vd true n u d a b).1, .bool (vd true n u d a b).2]) ∧ Below w.heap.size w w' := by
    intro p1 p2 p3
    have hv : vd true n u d a b = (0, false) := by unfold vd; rw [if_neg (by decide), if_neg (fun h => p2 h.2), if_pos p3]
    rw [hv]
    clear hv
    have q1 : 0 < n := p1
    have q2 : (a == 0) = false := by rw [beq_eq_false_iff_ne]; exact p2
    have q3 : (b == 0) = false := by rw [beq_eq_false_iff_ne]; exact p3
    go_enter Try.func18, Try.ntmps18
    go_wp2_with fail
    refine (HS.out _).mono ?_
    rintro r w1 ⟨rfl, hb1⟩
    have hz1 := hb1.size
    simp at hz1
    obtain ⟨hc1, hf1⟩ := bcell hb1
    have B1 := Aside.intro hb1
    clear hb1
    go_wp2_with fail
    refine (HM.out _).mono ?_
    rintro r w2 ⟨rfl, hb2⟩
    have hz2 := hb2.size
    obtain ⟨hc2, hf2⟩ := bcell hb2
    have hc3 : ∀ b o, b < w.heap.size + 1 + 1 → w2.cell? ⟨b, o, none⟩ = w1.cell? ⟨b, o, none⟩ := fun b o h => hc2 b o (by omega)
    have B2 := Aside.intro hb2
    clear hb2 hc2 hf2
    go_wp2
    go_ret2
    exact ⟨by first | rfl | simp, ((((Below.refl _ w).alloc (Nat.le_refl _) _).alloc (by simp) _).trans (B1.out.mono (by simp; omega))).trans (B2.out.mono (by omega))⟩
  have way3 : 0 < n → ¬ (a = 0) → b = 0 → 0 < u → 0 < d → Calls Try.prog 18 #[.agg #[.int .i64 n, .int .i64 u, .int .i64 d, .int .i64 m, .int .i64 p, .int .i64 l], .agg #[.int .i64 a, .int .i64 b]] w fun r w' => r = .returned (.tuple #[.float .f64 (vd true n u d a b).1, .bool (vd true n u d a b).2]) ∧ Below w.heap.size w w' := by
    intro p1 p2 p3 p4 p5
    have hv : vd true n u d a b = (9221120237041090560, true) := by unfold vd; rw [if_neg (by decide), if_neg (fun h => p2 h.2), if_neg (not_not_intro p3), if_pos ⟨p4, p5⟩]
    rw [hv]
    clear hv
    have q1 : 0 < n := p1
    have q2 : (a == 0) = false := by rw [beq_eq_false_iff_ne]; exact p2
    have q3 : b = 0 := p3
    have q4 : 0 < u := p4
    have q5 : 0 < d := p5
    subst q3
    go_enter Try.func18, Try.ntmps18
    go_wp2_with fail
    refine (HS.out _).mono ?_
    rintro r w1 ⟨rfl, hb1⟩
    have hz1 := hb1.size
    simp at hz1
    obtain ⟨hc1, hf1⟩ := bcell hb1
    have B1 := Aside.intro hb1
    clear hb1
    go_wp2_with fail
    refine (HM.out _).mono ?_
    rintro r w2 ⟨rfl, hb2⟩
    have hz2 := hb2.size
    obtain ⟨hc2, hf2⟩ := bcell hb2
    have hc3 : ∀ b o, b < w.heap.size + 1 + 1 → w2.cell? ⟨b, o, none⟩ = w1.cell? ⟨b, o, none⟩ := fun b o h => hc2 b o (by omega)
    have B2 := Aside.intro hb2
    clear hb2 hc2 hf2
    go_wp2_with fail
    refine (HN.out _).mono ?_
    rintro r w3 ⟨rfl, rfl⟩
    go_wp2
    go_ret2
    exact ⟨by first | rfl | simp, ((((Below.refl _ w).alloc (Nat.le_refl _) _).alloc (by simp) _).trans (B1.out.mono (by simp; omega))).trans (B2.out.mono (by omega))⟩
  have way4 : 0 < n → ¬ (a = 0) → b = 0 → 0 < u → ¬ (0 < d) → Calls Try.prog 18 #[.agg #[.int .i64 n, .int .i64 u, .int .i64 d, .int .i64 m, .int .i64 p, .int .i64 l], .agg #[.int .i64 a, .int .i64 b]] w fun r w' => r = .returned (.tuple #[.float .f64 (vd true n u d a b).1, .bool (vd true n u d a b).2]) ∧ Below w.heap.size w w' := by
    intro p1 p2 p3 p4 p5
    have hv : vd true n u d a b = (9218868437227405312, true) := by unfold vd; rw [if_neg (by decide), if_neg (fun h => p2 h.2), if_neg (not_not_intro p3), if_neg (fun h => p5 h.2), if_pos p4]
    rw [hv]
    clear hv
    have q1 : 0 < n := p1
    have q2 : (a == 0) = false := by rw [beq_eq_false_iff_ne]; exact p2
    have q3 : b = 0 := p3
    have q4 : 0 < u := p4
    have q5 : decide (0 < d) = false := decide_eq_false p5
    subst q3
    go_enter Try.func18, Try.ntmps18
    go_wp2_with fail
    refine (HS.out _).mono ?_
    rintro r w1 ⟨rfl, hb1⟩
    have hz1 := hb1.size
    simp at hz1
    obtain ⟨hc1, hf1⟩ := bcell hb1
    have B1 := Aside.intro hb1
    clear hb1
    go_wp2_with fail
    refine (HM.out _).mono ?_
    rintro r w2 ⟨rfl, hb2⟩
    have hz2 := hb2.size
    obtain ⟨hc2, hf2⟩ := bcell hb2
    have hc3 : ∀ b o, b < w.heap.size + 1 + 1 → w2.cell? ⟨b, o, none⟩ = w1.cell? ⟨b, o, none⟩ := fun b o h => hc2 b o (by omega)
    have B2 := Aside.intro hb2
    clear hb2 hc2 hf2
    go_wp2_with fail
    refine (HU.out _).mono ?_
    rintro r w3 ⟨rfl, rfl⟩
    go_wp2
    go_ret2
    exact ⟨by first | rfl | simp, ((((Below.refl _ w).alloc (Nat.le_refl _) _).alloc (by simp) _).trans (B1.out.mono (by simp; omega))).trans (B2.out.mono (by omega))⟩
  have way5 : 0 < n → ¬ (a = 0) → b = 0 → ¬ (0 < u) → 0 < d → Calls Try.prog 18 #[.agg #[.int .i64 n, .int .i64 u, .int .i64 d, .int .i64 m, .int .i64 p, .int .i64 l], .agg #[.int .i64 a, .int .i64 b]] w fun r w' => r = .returned (.tuple #[.float .f64 (vd true n u d a b).1, .bool (vd true n u d a b).2]) ∧ Below w.heap.size w w' := by
    intro p1 p2 p3 p4 p5
    have hv : vd true n u d a b = (18442240474082181120, true) := by unfold vd; rw [if_neg (by decide), if_neg (fun h => p2 h.2), if_neg (not_not_intro p3), if_neg (fun h => p4 h.1), if_neg p4, if_pos p5]
    rw [hv]
    clear hv
    have q1 : 0 < n := p1
    have q2 : (a == 0) = false := by rw [beq_eq_false_iff_ne]; exact p2
    have q3 : b = 0 := p3
    have q4 : decide (0 < u) = false := decide_eq_false p4
    have q5 : 0 < d := p5
    subst q3
    go_enter Try.func18, Try.ntmps18
    go_wp2_with fail
    refine (HS.out _).mono ?_
    rintro r w1 ⟨rfl, hb1⟩
    have hz1 := hb1.size
    simp at hz1
    obtain ⟨hc1, hf1⟩ := bcell hb1
    have B1 := Aside.intro hb1
    clear hb1
    go_wp2_with fail
    refine (HM.out _).mono ?_
    rintro r w2 ⟨rfl, hb2⟩
    have hz2 := hb2.size
    obtain ⟨hc2, hf2⟩ := bcell hb2
    have hc3 : ∀ b o, b < w.heap.size + 1 + 1 → w2.cell? ⟨b, o, none⟩ = w1.cell? ⟨b, o, none⟩ := fun b o h => hc2 b o (by omega)
    have B2 := Aside.intro hb2
    clear hb2 hc2 hf2
    go_wp2_with fail
    refine (HD.out _).mono ?_
    rintro r w3 ⟨rfl, rfl⟩
    go_wp2
    go_ret2
    exact ⟨by first | rfl | simp, ((((Below.refl _ w).alloc (Nat.le_refl _) _).alloc (by simp) _).trans (B1.out.mono (by simp; omega))).trans (B2.out.mono (by omega))⟩
  have way6 : 0 < n → ¬ (a = 0) → b = 0 → ¬ (0 < u) → ¬ (0 < d) → Calls Try.prog 18 #[.agg #[.int .i64 n, .int .i64 u, .int .i64 d, .int .i64 m, .int .i64 p, .int .i64 l], .agg #[.int .i64 a, .int .i64 b]] w fun r w' => r = .returned (.tuple #[.float .f64 (vd true n u d a b).1, .bool (vd true n u d a b).2]) ∧ Below w.heap.size w w' := by
    intro p1 p2 p3 p4 p5
    have hv : vd true n u d a b = (0, false) := by unfold vd; rw [if_neg (by decide), if_neg (fun h => p2 h.2), if_neg (not_not_intro p3), if_neg (fun h => p4 h.1), if_neg p4, if_neg p5]
    rw [hv]
    clear hv
    have q1 : 0 < n := p1
    have q2 : (a == 0) = false := by rw [beq_eq_false_iff_ne]; exact p2
    have q3 : b = 0 := p3
    have q4 : decide (0 < u) = false := decide_eq_false p4
    have q5 : decide (0 < d) = false := decide_eq_false p5
    subst q3
    go_enter Try.func18, Try.ntmps18
    go_wp2_with fail
    refine (HS.out _).mono ?_
    rintro r w1 ⟨rfl, hb1⟩
    have hz1 := hb1.size
    simp at hz1
    obtain ⟨hc1, hf1⟩ := bcell hb1
    have B1 := Aside.intro hb1
    clear hb1
    go_wp2_with fail
    refine (HM.out _).mono ?_
    rintro r w2 ⟨rfl, hb2⟩
    have hz2 := hb2.size
    obtain ⟨hc2, hf2⟩ := bcell hb2
    have hc3 : ∀ b o, b < w.heap.size + 1 + 1 → w2.cell? ⟨b, o, none⟩ = w1.cell? ⟨b, o, none⟩ := fun b o h => hc2 b o (by omega)
    have B2 := Aside.intro hb2
    clear hb2 hc2 hf2
    go_wp2
    go_ret2
    exact ⟨by first | rfl | simp, ((((Below.refl _ w).alloc (Nat.le_refl _) _).alloc (by simp) _).trans (B1.out.mono (by simp; omega))).trans (B2.out.mono (by omega))⟩
  have way7 : ¬ (0 < n) → ¬ (b = 0) → Calls Try.prog 18 #[.agg #[.int .i64 n, .int .i64 u, .int .i64 d, .int .i64 m, .int .i64 p, .int .i64 l], .agg #[.int .i64 a, .int .i64 b]] w fun r w' => r = .returned (.tuple #[.float .f64 (vd true n u d a b).1, .bool (vd true n u d a b).2]) ∧ Below w.heap.size w w' := by
    intro p1 p3
    have hv : vd true n u d a b = (0, false) := by unfold vd; rw [if_neg (by decide), if_neg (fun h => p1 h.1), if_pos p3]
    rw [hv]
    clear hv
    have q1 : decide (0 < n) = false := decide_eq_false p1
    have q3 : (b == 0) = false := by rw [beq_eq_false_iff_ne]; exact p3
    go_enter Try.func18, Try.ntmps18
    go_wp2_with fail
    refine (HS.out _).mono ?_
    rintro r w1 ⟨rfl, hb1⟩
    have hz1 := hb1.size
    simp at hz1
    obtain ⟨hc1, hf1⟩ := bcell hb1
    have B1 := Aside.intro hb1
    clear hb1
    go_wp2_with fail
    refine (HM.out _).mono ?_
    rintro r w2 ⟨rfl, hb2⟩
    have hz2 := hb2.size
    obtain ⟨hc2, hf2⟩ := bcell hb2
    have hc3 : ∀ b o, b < w.heap.size + 1 + 1 → w2.cell? ⟨b, o, none⟩ = w1.cell? ⟨b, o, none⟩ := fun b o h => hc2 b o (by omega)
    have B2 := Aside.intro hb2
    clear hb2 hc2 hf2
    go_wp2
    go_ret2
    exact ⟨by first | rfl | simp, ((((Below.refl _ w).alloc (Nat.le_refl _) _).alloc (by simp) _).trans (B1.out.mono (by simp; omega))).trans (B2.out.mono (by omega))⟩
  have way8 : ¬ (0 < n) → b = 0 → 0 < u → 0 < d → Calls Try.prog 18 #[.agg #[.int .i64 n, .int .i64 u, .int .i64 d, .int .i64 m, .int .i64 p, .int .i64 l], .agg #[.int .i64 a, .int .i64 b]] w fun r w' => r = .returned (.tuple #[.float .f64 (vd true n u d a b).1, .bool (vd true n u d a b).2]) ∧ Below w.heap.size w w' := by
    intro p1 p3 p4 p5
    have hv : vd true n u d a b = (9221120237041090560, true) := by unfold vd; rw [if_neg (by decide), if_neg (fun h => p1 h.1), if_neg (not_not_intro p3), if_pos ⟨p4, p5⟩]
    rw [hv]
    clear hv
    have q1 : decide (0 < n) = false := decide_eq_false p1
    have q3 : b = 0 := p3
    have q4 : 0 < u := p4
    have q5 : 0 < d := p5
    subst q3
    go_enter Try.func18, Try.ntmps18
    go_wp2_with fail
    refine (HS.out _).mono ?_
    rintro r w1 ⟨rfl, hb1⟩
    have hz1 := hb1.size
    simp at hz1
    obtain ⟨hc1, hf1⟩ := bcell hb1
    have B1 := Aside.intro hb1
    clear hb1
    go_wp2_with fail
    refine (HM.out _).mono ?_
    rintro r w2 ⟨rfl, hb2⟩
    have hz2 := hb2.size
    obtain ⟨hc2, hf2⟩ := bcell hb2
    have hc3 : ∀ b o, b < w.heap.size + 1 + 1 → w2.cell? ⟨b, o, none⟩ = w1.cell? ⟨b, o, none⟩ := fun b o h => hc2 b o (by omega)
    have B2 := Aside.intro hb2
    clear hb2 hc2 hf2
    go_wp2_with fail
    refine (HN.out _).mono ?_
    rintro r w3 ⟨rfl, rfl⟩
    go_wp2
    go_ret2
    exact ⟨by first | rfl | simp, ((((Below.refl _ w).alloc (Nat.le_refl _) _).alloc (by simp) _).trans (B1.out.mono (by simp; omega))).trans (B2.out.mono (by omega))⟩
  have way9 : ¬ (0 < n) → b = 0 → 0 < u → ¬ (0 < d) → Calls Try.prog 18 #[.agg #[.int .i64 n, .int .i64 u, .int .i64 d, .int .i64 m, .int .i64 p, .int .i64 l], .agg #[.int .i64 a, .int .i64 b]] w fun r w' => r = .returned (.tuple #[.float .f64 (vd true n u d a b).1, .bool (vd true n u d a b).2]) ∧ Below w.heap.size w w' := by
    intro p1 p3 p4 p5
    have hv : vd true n u d a b = (9218868437227405312, true) := by unfold vd; rw [if_neg (by decide), if_neg (fun h => p1 h.1), if_neg (not_not_intro p3), if_neg (fun h => p5 h.2), if_pos p4]
    rw [hv]
    clear hv
    have q1 : decide (0 < n) = false := decide_eq_false p1
    have q3 : b = 0 := p3
    have q4 : 0 < u := p4
    have q5 : decide (0 < d) = false := decide_eq_false p5
    subst q3
    go_enter Try.func18, Try.ntmps18
    go_wp2_with fail
    refine (HS.out _).mono ?_
    rintro r w1 ⟨rfl, hb1⟩
    have hz1 := hb1.size
    simp at hz1
    obtain ⟨hc1, hf1⟩ := bcell hb1
    have B1 := Aside.intro hb1
    clear hb1
    go_wp2_with fail
    refine (HM.out _).mono ?_
    rintro r w2 ⟨rfl, hb2⟩
    have hz2 := hb2.size
    obtain ⟨hc2, hf2⟩ := bcell hb2
    have hc3 : ∀ b o, b < w.heap.size + 1 + 1 → w2.cell? ⟨b, o, none⟩ = w1.cell? ⟨b, o, none⟩ := fun b o h => hc2 b o (by omega)
    have B2 := Aside.intro hb2
    clear hb2 hc2 hf2
    go_wp2_with fail
    refine (HU.out _).mono ?_
    rintro r w3 ⟨rfl, rfl⟩
    go_wp2
    go_ret2
    exact ⟨by first | rfl | simp, ((((Below.refl _ w).alloc (Nat.le_refl _) _).alloc (by simp) _).trans (B1.out.mono (by simp; omega))).trans (B2.out.mono (by omega))⟩
  have way10 : ¬ (0 < n) → b = 0 → ¬ (0 < u) → 0 < d → Calls Try.prog 18 #[.agg #[.int .i64 n, .int .i64 u, .int .i64 d, .int .i64 m, .int .i64 p, .int .i64 l], .agg #[.int .i64 a, .int .i64 b]] w fun r w' => r = .returned (.tuple #[.float .f64 (vd true n u d a b).1, .bool (vd true n u d a b).2]) ∧ Below w.heap.size w w' := by
    intro p1 p3 p4 p5
    have hv : vd true n u d a b = (18442240474082181120, true) := by unfold vd; rw [if_neg (by decide), if_neg (fun h => p1 h.1), if_neg (not_not_intro p3), if_neg (fun h => p4 h.1), if_neg p4, if_pos p5]
    rw [hv]
    clear hv
    have q1 : decide (0 < n) = false := decide_eq_false p1
    have q3 : b = 0 := p3
    have q4 : decide (0 < u) = false := decide_eq_false p4
    have q5 : 0 < d := p5
    subst q3
    go_enter Try.func18, Try.ntmps18
    go_wp2_with fail
    refine (HS.out _).mono ?_
    rintro r w1 ⟨rfl, hb1⟩
    have hz1 := hb1.size
    simp at hz1
    obtain ⟨hc1, hf1⟩ := bcell hb1
    have B1 := Aside.intro hb1
    clear hb1
    go_wp2_with fail
    refine (HM.out _).mono ?_
    rintro r w2 ⟨rfl, hb2⟩
    have hz2 := hb2.size
    obtain ⟨hc2, hf2⟩ := bcell hb2
    have hc3 : ∀ b o, b < w.heap.size + 1 + 1 → w2.cell? ⟨b, o, none⟩ = w1.cell? ⟨b, o, none⟩ := fun b o h => hc2 b o (by omega)
    have B2 := Aside.intro hb2
    clear hb2 hc2 hf2
    go_wp2_with fail
    refine (HD.out _).mono ?_
    rintro r w3 ⟨rfl, rfl⟩
    go_wp2
    go_ret2
    exact ⟨by first | rfl | simp, ((((Below.refl _ w).alloc (Nat.le_refl _) _).alloc (by simp) _).trans (B1.out.mono (by simp; omega))).trans (B2.out.mono (by omega))⟩
  have way11 : ¬ (0 < n) → b = 0 → ¬ (0 < u) → ¬ (0 < d) → Calls Try.prog 18 #[.agg #[.int .i64 n, .int .i64 u, .int .i64 d, .int .i64 m, .int .i64 p, .int .i64 l], .agg #[.int .i64 a, .int .i64 b]] w fun r w' => r = .returned (.tuple #[.float .f64 (vd true n u d a b).1, .bool (vd true n u d a b).2]) ∧ Below w.heap.size w w' := by
    intro p1 p3 p4 p5
    have hv : vd true n u d a b = (0, false) := by unfold vd; rw [if_neg (by decide), if_neg (fun h => p1 h.1), if_neg (not_not_intro p3), if_neg (fun h => p4 h.1), if_neg p4, if_neg p5]
    rw [hv]
    clear hv
    have q1 : decide (0 < n) = false := decide_eq_false p1
    have q3 : b = 0 := p3
    have q4 : decide (0 < u) = false := decide_eq_false p4
    have q5 : decide (0 < d) = false := decide_eq_false p5
    subst q3
    go_enter Try.func18, Try.ntmps18
    go_wp2_with fail
    refine (HS.out _).mono ?_
    rintro r w1 ⟨rfl, hb1⟩
    have hz1 := hb1.size
    simp at hz1
    obtain ⟨hc1, hf1⟩ := bcell hb1
    have B1 := Aside.intro hb1
    clear hb1
    go_wp2_with fail
    refine (HM.out _).mono ?_
    rintro r w2 ⟨rfl, hb2⟩
    have hz2 := hb2.size
    obtain ⟨hc2, hf2⟩ := bcell hb2
    have hc3 : ∀ b o, b < w.heap.size + 1 + 1 → w2.cell? ⟨b, o, none⟩ = w1.cell? ⟨b, o, none⟩ := fun b o h => hc2 b o (by omega)
    have B2 := Aside.intro hb2
    clear hb2 hc2 hf2
    go_wp2
    go_ret2
    exact ⟨by first | rfl | simp, ((((Below.refl _ w).alloc (Nat.le_refl _) _).alloc (by simp) _).trans (B1.out.mono (by simp; omega))).trans (B2.out.mono (by omega))⟩
  by_cases p1 : 0 < n
  · by_cases p2 : a = 0
    · exact way1 p1 p2
    · by_cases p3 : b = 0
      · by_cases p4 : 0 < u <;> by_cases p5 : 0 < d
        · exact way3 p1 p2 p3 p4 p5
        · exact way4 p1 p2 p3 p4 p5
        · exact way5 p1 p2 p3 p4 p5
        · exact way6 p1 p2 p3 p4 p5
      · exact way2 p1 p2 p3
  · by_cases p3 : b = 0
    · by_cases p4 : 0 < u <;> by_cases p5 : 0 < d
      · exact way8 p1 p3 p4 p5
      · exact way9 p1 p3 p4 p5
      · exact way10 p1 p3 p4 p5
      · exact way11 p1 p3 p4 p5
    · exact way7 p1 p3

end Go.Proofs.Ytfocdjfnlbendaa

/- Nought, on both sides. -/
namespace Go.Proofs.Ytfocdjfnlbendaa
open Go.RowKit
open Go.Proofs.Ytfocdjfnlbendaa.B (f64bits f64frombits bw bcell)
set_option linter.unusedVariables false
set_option maxRecDepth 20000
attribute [local go_sem] st_float f64bits f64frombits

set_option maxHeartbeats 8000000 in
theorem Nought_any (n u d m p l mode : Int) (w : World) : Calls Try.prog 20 #[.agg #[.int .i64 n, .int .i64 u, .int .i64 d, .int .i64 m, .int .i64 p, .int .i64 l], .int .i64 mode] w fun r w' => r = .returned (.float .f64 (nt (snd n u d m p l) n u d m p l mode)) ∧ Below w.heap.size w w' := by
  have HS := hid (sound_any n u d m p l)
  have HM := hid (minus_any)
  have HT := hid (Zero_any true)
  have HF := hid (Zero_any false)
  rcases hs : snd n u d m p l with _ | _
  · rw [hs] at HS
    have hv : nt false n u d m p l mode = 0 := if_pos rfl
    rw [hv]
    clear hs hv
    go_enter Try.func20, Try.ntmps20
    go_wp2_with fail
    refine (HS.out _).mono ?_
    rintro r w1 ⟨rfl, hb1⟩
    have hz1 := hb1.size
    simp at hz1
    obtain ⟨hc1, hf1⟩ := bcell hb1
    have B1 := Aside.intro hb1
    clear hb1
    go_wp2
    go_ret
    exact ⟨by first | rfl | simp, ((Below.refl _ w).alloc (Nat.le_refl _) _).trans (B1.out.mono (by simp))⟩
  have bd := snd_bd hs
  rw [hs] at HS
  obtain ⟨f, hf⟩ : ∃ f, l - n - u - d = f := ⟨_, rfl⟩
  have hfb : -9223372036854775808 ≤ f ∧ f ≤ 9223372036854775807 := by omega
  have hb1 : 0 ≤ n ∧ n ≤ 1099511627776 := bd.1
  have hb2 : 0 ≤ u ∧ u ≤ 1099511627776 := bd.2.1
  have hb3 : 0 ≤ d ∧ d ≤ 1099511627776 := bd.2.2.1
  have hb4 : 0 ≤ l ∧ l ≤ 1099511627776 := bd.2.2.2
  unfold nt
  rw [if_neg (by decide), hf]
  clear hs bd
  by_cases p1 : f = 0
  · rw [if_pos p1]
    have q1 : (f == 0) = true := by rw [beq_iff_eq]; exact p1
    clear p1
    go_enter Try.func20, Try.ntmps20
    go_wp2_with fail
    refine (HS.out _).mono ?_
    rintro r w1 ⟨rfl, hb1⟩
    have hz1 := hb1.size
    simp at hz1
    obtain ⟨hc1, hf1⟩ := bcell hb1
    have B1 := Aside.intro hb1
    clear hb1
    go_wp2_with fail
    refine (HM.out _).mono ?_
    rintro r w3 ⟨rfl, rfl⟩
    go_wp2
    go_ret
    exact ⟨by first | rfl | simp, ((Below.refl _ w).alloc (Nat.le_refl _) _).trans (B1.out.mono (by simp))⟩
  rw [if_neg p1]
  have q1 : (f == 0) = false := by rw [beq_eq_false_iff_ne]; exact p1
  clear p1
  by_cases p2 : m = f
  · rw [if_pos p2]
    have q2 : (m == f) = true := by rw [beq_iff_eq]; exact p2
    clear p2
    go_enter Try.func20, Try.ntmps20
    go_wp2_with fail
    refine (HS.out _).mono ?_
    rintro r w1 ⟨rfl, hb1⟩
    have hz1 := hb1.size
    simp at hz1
    obtain ⟨hc1, hf1⟩ := bcell hb1
    have B1 := Aside.intro hb1
    clear hb1
    go_wp2_with fail
    refine (HM.out _).mono ?_
    rintro r w3 ⟨rfl, rfl⟩
    go_wp2
    go_ret
    exact ⟨by first | rfl | simp, ((Below.refl _ w).alloc (Nat.le_refl _) _).trans (B1.out.mono (by simp))⟩
  rw [if_neg p2]
  have q2 : (m == f) = false := by rw [beq_eq_false_iff_ne]; exact p2
  clear p2
  by_cases p3 : p = f
  · rw [if_pos p3]
    have q3 : (p == f) = true := by rw [beq_iff_eq]; exact p3
    clear p3
    go_enter Try.func20, Try.ntmps20
    go_wp2_with fail
    refine (HS.out _).mono ?_
    rintro r w1 ⟨rfl, hb1⟩
    have hz1 := hb1.size
    simp at hz1
    obtain ⟨hc1, hf1⟩ := bcell hb1
    have B1 := Aside.intro hb1
    clear hb1
    go_wp2_with fail
    refine (HM.out _).mono ?_
    rintro r w3 ⟨rfl, rfl⟩
    go_wp2
    go_ret
    exact ⟨by first | rfl | simp, ((Below.refl _ w).alloc (Nat.le_refl _) _).trans (B1.out.mono (by simp))⟩
  rw [if_neg p3]
  have q3 : (p == f) = false := by rw [beq_eq_false_iff_ne]; exact p3
  clear p3
  by_cases p4 : mode = 3
  · rw [if_pos p4]
    subst p4
    go_enter Try.func20, Try.ntmps20
    go_wp2_with fail
    refine (HS.out _).mono ?_
    rintro r w1 ⟨rfl, hb1⟩
    have hz1 := hb1.size
    simp at hz1
    obtain ⟨hc1, hf1⟩ := bcell hb1
    have B1 := Aside.intro hb1
    clear hb1
    go_wp2_with fail
    refine (HM.out _).mono ?_
    rintro r w3 ⟨rfl, rfl⟩
    go_wp2
    go_ret
    exact ⟨by first | rfl | simp, ((Below.refl _ w).alloc (Nat.le_refl _) _).trans (B1.out.mono (by simp))⟩
  · rw [if_neg p4]
    have q4 : (mode == 3) = false := by rw [beq_eq_false_iff_ne]; exact p4
    clear p4
    go_enter Try.func20, Try.ntmps20
    go_wp2_with fail
    refine (HS.out _).mono ?_
    rintro r w1 ⟨rfl, hb1⟩
    have hz1 := hb1.size
    simp at hz1
    obtain ⟨hc1, hf1⟩ := bcell hb1
    have B1 := Aside.intro hb1
    clear hb1
    go_wp2_with fail
    refine (HM.out _).mono ?_
    rintro r w3 ⟨rfl, rfl⟩
    go_wp2
    go_ret
    exact ⟨by first | rfl | simp, ((Below.refl _ w).alloc (Nat.le_refl _) _).trans (B1.out.mono (by simp))⟩

set_option maxHeartbeats 8000000 in
theorem rNought_any (n u d m p l mode : Int) (w : World) : Calls Try.prog 22 #[.agg #[.int .i64 n, .int .i64 u, .int .i64 d, .int .i64 m, .int .i64 p, .int .i64 l], .int .i64 mode] w fun r w' => r = .returned (.float .f64 (nt (snd n u d m p l) n u d m p l mode)) ∧ Below w.heap.size w w' := by
  have HS := hid (MayBe_any n u d m p l)
  have HM := hid (minus_any)
  have HT := hid (Zero_any true)
  have HF := hid (Zero_any false)
  rcases hs : snd n u d m p l with _ | _
  · rw [hs] at HS
    have hv : nt false n u d m p l mode = 0 := if_pos rfl
    rw [hv]
    clear hs hv
    go_enter Try.func22, Try.ntmps22
    go_wp2_with fail
    refine (HS.out _).mono ?_
    rintro r w1 ⟨rfl, hb1⟩
    have hz1 := hb1.size
    simp at hz1
    obtain ⟨hc1, hf1⟩ := bcell hb1
    have B1 := Aside.intro hb1
    clear hb1
    go_wp2_with fail
    refine (HF.out _).mono ?_
    rintro r w3 ⟨rfl, rfl⟩
    go_wp2
    go_ret
    exact ⟨by first | rfl | simp, ((Below.refl _ w).alloc (Nat.le_refl _) _).trans (B1.out.mono (by simp))⟩
  have bd := snd_bd hs
  rw [hs] at HS
  obtain ⟨f, hf⟩ : ∃ f, l - n - u - d = f := ⟨_, rfl⟩
  have hfb : -9223372036854775808 ≤ f ∧ f ≤ 9223372036854775807 := by omega
  have hb1 : 0 ≤ n ∧ n ≤ 1099511627776 := bd.1
  have hb2 : 0 ≤ u ∧ u ≤ 1099511627776 := bd.2.1
  have hb3 : 0 ≤ d ∧ d ≤ 1099511627776 := bd.2.2.1
  have hb4 : 0 ≤ l ∧ l ≤ 1099511627776 := bd.2.2.2
  unfold nt
  rw [if_neg (by decide), hf]
  clear hs bd
  by_cases p1 : f = 0
  · rw [if_pos p1]
    have q1 : (f == 0) = true := by rw [beq_iff_eq]; exact p1
    clear p1
    go_enter Try.func22, Try.ntmps22
    go_wp2_with fail
    refine (HS.out _).mono ?_
    rintro r w1 ⟨rfl, hb1⟩
    have hz1 := hb1.size
    simp at hz1
    obtain ⟨hc1, hf1⟩ := bcell hb1
    have B1 := Aside.intro hb1
    clear hb1
    go_wp2_with fail
    refine (HF.out _).mono ?_
    rintro r w3 ⟨rfl, rfl⟩
    go_wp2
    go_ret
    exact ⟨by first | rfl | simp, ((Below.refl _ w).alloc (Nat.le_refl _) _).trans (B1.out.mono (by simp))⟩
  rw [if_neg p1]
  have q1 : (f == 0) = false := by rw [beq_eq_false_iff_ne]; exact p1
  clear p1
  by_cases p2 : m = f
  · rw [if_pos p2]
    have q2 : (m == f) = true := by rw [beq_iff_eq]; exact p2
    clear p2
    go_enter Try.func22, Try.ntmps22
    go_wp2_with fail
    refine (HS.out _).mono ?_
    rintro r w1 ⟨rfl, hb1⟩
    have hz1 := hb1.size
    simp at hz1
    obtain ⟨hc1, hf1⟩ := bcell hb1
    have B1 := Aside.intro hb1
    clear hb1
    go_wp2_with fail
    refine (HT.out _).mono ?_
    rintro r w3 ⟨rfl, rfl⟩
    go_wp2
    go_ret
    exact ⟨by first | rfl | simp, ((Below.refl _ w).alloc (Nat.le_refl _) _).trans (B1.out.mono (by simp))⟩
  rw [if_neg p2]
  have q2 : (m == f) = false := by rw [beq_eq_false_iff_ne]; exact p2
  clear p2
  by_cases p3 : p = f
  · rw [if_pos p3]
    have q3 : (p == f) = true := by rw [beq_iff_eq]; exact p3
    clear p3
    go_enter Try.func22, Try.ntmps22
    go_wp2_with fail
    refine (HS.out _).mono ?_
    rintro r w1 ⟨rfl, hb1⟩
    have hz1 := hb1.size
    simp at hz1
    obtain ⟨hc1, hf1⟩ := bcell hb1
    have B1 := Aside.intro hb1
    clear hb1
    go_wp2_with fail
    refine (HF.out _).mono ?_
    rintro r w3 ⟨rfl, rfl⟩
    go_wp2
    go_ret
    exact ⟨by first | rfl | simp, ((Below.refl _ w).alloc (Nat.le_refl _) _).trans (B1.out.mono (by simp))⟩
  rw [if_neg p3]
  have q3 : (p == f) = false := by rw [beq_eq_false_iff_ne]; exact p3
  clear p3
  by_cases p4 : mode = 3
  · rw [if_pos p4]
    subst p4
    go_enter Try.func22, Try.ntmps22
    go_wp2_with fail
    refine (HS.out _).mono ?_
    rintro r w1 ⟨rfl, hb1⟩
    have hz1 := hb1.size
    simp at hz1
    obtain ⟨hc1, hf1⟩ := bcell hb1
    have B1 := Aside.intro hb1
    clear hb1
    go_wp2_with fail
    refine (HT.out _).mono ?_
    rintro r w3 ⟨rfl, rfl⟩
    go_wp2
    go_ret
    exact ⟨by first | rfl | simp, ((Below.refl _ w).alloc (Nat.le_refl _) _).trans (B1.out.mono (by simp))⟩
  · rw [if_neg p4]
    have q4 : (mode == 3) = false := by rw [beq_eq_false_iff_ne]; exact p4
    clear p4
    go_enter Try.func22, Try.ntmps22
    go_wp2_with fail
    refine (HS.out _).mono ?_
    rintro r w1 ⟨rfl, hb1⟩
    have hz1 := hb1.size
    simp at hz1
    obtain ⟨hc1, hf1⟩ := bcell hb1
    have B1 := Aside.intro hb1
    clear hb1
    go_wp2_with fail
    refine (HF.out _).mono ?_
    rintro r w3 ⟨rfl, rfl⟩
    go_wp2
    go_ret
    exact ⟨by first | rfl | simp, ((Below.refl _ w).alloc (Nat.le_refl _) _).trans (B1.out.mono (by simp))⟩

end Go.Proofs.Ytfocdjfnlbendaa

/- Lists that are alike; awake. -/
namespace Go.Proofs.Ytfocdjfnlbendaa
open Go.RowKit
open Go.Proofs.Ytfocdjfnlbendaa.B (f64bits f64frombits bw bcell)
set_option linter.unusedVariables false
set_option maxRecDepth 20000
attribute [local go_sem] st_float f64bits f64frombits

set_option maxHeartbeats 2000000 in
theorem alikeLists_any (xs : List Nat) (ao bo : Option Addr) (n cap cap' B : Nat) (w : World) (hn : n = xs.length) (hm : n ≤ 35184372088832) (hR : Rd B w ao xs) (hR' : Rd B w bo xs) :
    Calls Try.prog 15 #[.slice ao n cap, .slice bo n cap'] w fun r w' => r = .returned (.bool true) ∧ Below w.heap.size w w' := by
  have HX := (Aside.intro (And.intro hn (And.intro hR hR')))
  clear hn hR hR'
  go_enter Try.func15, Try.ntmps15
  go_wp2
  go_loopg [5] n (fun gk iv wr => ∃ (i : Nat), gk + i = n ∧ iv = .int .i64 (i : Nat) ∧ Aside (Below w.heap.size w wr ∧ wr.heap = w.heap))
  case atStart => exact ⟨0, by omega, rfl, Below.refl _ _, rfl⟩
  case round =>
    obtain ⟨i, hi, rfl, HA⟩ := hrel
    by_cases hin : i = n
    · obtain rfl : gk = 0 := by omega
      subst hin
      go_wp2
      go_ret
      exact ⟨rfl, HA.out.1⟩
    · have hil : i < n := by omega
      obtain ⟨hn, hR, hR'⟩ := HX.out
      have hne : xs ≠ [] := by intro e; rw [e] at hn; simp at hn; omega
      obtain ⟨b1, o1, _, rfl, hc1⟩ := hR hne
      obtain ⟨b2, o2, _, rfl, hc2⟩ := hR' hne
      have hcw : ∀ a, wr.cell? a = w.cell? a := fun a => by simp only [World.cell?, HA.out.2]
      have h1 : wr.cell? ⟨b1, o1 + i, none⟩ = _ := (hcw _).trans (hc1 i (by omega))
      have h2 : wr.cell? ⟨b2, o2 + i, none⟩ = _ := (hcw _).trans (hc2 i (by omega))
      obtain ⟨x, hx⟩ : ∃ x, xs.getD i 0 = x := ⟨_, rfl⟩
      rw [hx] at h1 h2
      clear hn hR hR' hne hc1 hc2 hcw hx
      go_wp2
      go_quiet (first | (go_at_call 21; exact Calls.quiet_of_same (alike_same x _)))
      go_wp2
      go_roundg (gk - 1)
      case measure => omega
      case rel => exact ⟨i + 1, by omega, by first | go_num | (congr 1; omega), ⟨HA.out.1.os, HA.out.1.tape, HA.out.1.output, HA.out.1.size, HA.out.1.block⟩, HA.out.2⟩

/-- The list of the chapter's first example. -/
def exL : List Nat := [4607182418800017408, 9221120237041090560, 9223372036854775808, 9218868437227405312, 4612811918334230528]
theorem exE : siftE 0 0 exL = 0 := by decide +kernel
theorem exE2 : siftE 1 2 exL = 61 := by decide +kernel
theorem exF : siftL 0 0 exL = [4607182418800017408, 9223372036854775808, 4612811918334230528] := by decide +kernel
theorem exS : siftS 0 0 exL = .agg #[.int .i64 1, .int .i64 1, .int .i64 0, .int .i64 1, .int .i64 0, .int .i64 5] := by
  unfold siftS; rw [if_pos exE]
  have h1 : cn 5 exL = 1 := by decide +kernel
  have h2 : cn 3 exL = 1 := by decide +kernel
  have h3 : cn 4 exL = 0 := by decide +kernel
  have h4 : cn 1 exL = 1 := by decide +kernel
  have h5 : cn 2 exL = 0 := by decide +kernel
  rw [h1, h2, h3, h4, h5]; rfl
theorem exS2 : siftS 1 2 exL = .agg #[.int .i64 0, .int .i64 0, .int .i64 0, .int .i64 0, .int .i64 0, .int .i64 0] := by unfold siftS; rw [if_neg (by rw [exE2]; decide)]
theorem exV : vd (snd 0 2 0 0 0 3 && may 0 0) 0 2 0 0 0 = (9218868437227405312, true) := by decide +kernel
theorem exN : nt (snd 0 0 0 2 0 2) 0 0 0 2 0 2 0 = 9223372036854775808 := by decide +kernel
theorem exW : Wf exL := by intro x hx; simp [exL] at hx; rcases hx with rfl | rfl | rfl | rfl | rfl <;> decide
theorem ord25 : (FloatKind.f64.format.order 4612811918334230528 4612811918334230528 == some .eq) = true := by decide +kernel
attribute [local go_sem] ord25

set_option maxHeartbeats 8000000 in
set_option maxRecDepth 100000 in
theorem awake_any (w : World) : Calls Try.prog 7 #[] w fun r w' => r = .returned (.bool true) ∧ Below w.heap.size w w' := by
  have HT := hid TheNaN_any
  have HZ := hid (Zero_any true)
  have HI := hid (rInf_any false)
  have HP := hid Plain_any
  have HV := hid (Verdict_any 0 2 0 0 0 3 0 0)
  have HN := hid (Nought_any 0 0 0 2 0 2 0)
  have HA1 := hid (alike_same 9218868437227405312)
  have HA2 := hid (alike_same 9223372036854775808)
  have hz : zr true = 9223372036854775808 := rfl
  have hi : inf false = 9218868437227405312 := rfl
  rw [exV] at HV
  rw [exN] at HN
  rw [hz] at HZ
  rw [hi] at HI
  clear hz hi
  go_enter Try.func7, Try.ntmps7
  go_wp2_with fail
  refine (HT.out _).mono ?_
  rintro r w1 ⟨rfl, rfl⟩
  go_wp2_with fail
  refine (HZ.out _).mono ?_
  rintro r w1 ⟨rfl, rfl⟩
  go_wp2_with fail
  refine (HI.out _).mono ?_
  rintro r w1 ⟨rfl, rfl⟩
  go_wp2_with fail
  obtain ⟨W0, hW0⟩ : ∃ W, W = w1.alloc (.cells #[.float .f64 4607182418800017408, .float .f64 9221120237041090560, .float .f64 9223372036854775808, .float .f64 9218868437227405312, .float .f64 4612811918334230528] 41) := ⟨_, rfl⟩
  have hO : Own W0 w1.heap.size exL := by rw [hW0]; exact heap_alloc_new w1 _
  have hB0 : Below w1.heap.size w1 W0 := by rw [hW0]; exact (Below.refl _ _).alloc (Nat.le_refl _) _
  have hs0 : W0.heap.size = w1.heap.size + 1 := by rw [hW0]; simp
  rw [← hW0]
  have HW := (Aside.intro (And.intro hO hB0))
  clear hW0 hO hB0
  refine (HP.out _).mono ?_
  rintro r w2 ⟨rfl, hb2⟩
  have hs2 := hb2.size
  have hO2 := HW.out.1.below hb2 (by omega)
  have hB2 := HW.out.2.trans (hb2.mono (by omega))
  have HW2 := (Aside.intro (And.intro hO2 hB2))
  clear hb2 hO2 hB2
  obtain ⟨W3, hW3⟩ : ∃ W, W = w2.alloc (.cells #[.int .i64 0, .int .i64 0] 23) := ⟨_, rfl⟩
  have hO3 : Own W3 w1.heap.size exL := by rw [hW3]; exact HW2.out.1.alloc _
  have HS1 := hid (Sift_any exL (some ⟨w1.heap.size, 0, none⟩) 5 5 (w1.heap.size + 1) 0 0 W3 rfl (by omega) exW (by have := Rd.ofOwn hO3 0 5; exact this) (by rw [hW3]; simp; omega))
  have HW3 := (Aside.intro (And.intro hO3 hW3))
  clear hO3
  go_wp2_with fail
  rw [← hW3]
  refine (HS1.out).mono ?_
  rintro r w4 ⟨v4, rfl, hL4, hb4⟩
  rw [exF] at hL4
  rw [exS, exE]
  obtain ⟨ao, cap, rfl, hcap, hcm, hR4⟩ := hL4.shape
  obtain ⟨gb, off, hgl, rfl, hcell⟩ := hR4 (by simp)
  have hm2 : w4.cell? ⟨gb, off + 2, none⟩ = some (.float .f64 4612811918334230528) := hcell 2 (by simp)
  have hs3 : W3.heap.size = w2.heap.size + 1 := by rw [hW3]; simp
  have hs4 := hb4.size
  have hO4 := HW3.out.1.below hb4 (by omega)
  have hB4 : Below w1.heap.size w1 w4 := (by rw [hW3] at hb4; exact (HW2.out.2.alloc (by omega) _).trans (hb4.mono (by simp; omega)))
  have hp4 : w4.heap[w2.heap.size]? = some (.cells #[.int .i64 0, .int .i64 0] 23 (0, 0)) := by rw [hb4.block _ (by omega), hW3]; exact heap_alloc_new w2 _
  obtain ⟨W5, hW5⟩ : ∃ W, W = w4.alloc (.cells #[.int .i64 1, .int .i64 1, .int .i64 0, .int .i64 1, .int .i64 0, .int .i64 5] 30) := ⟨_, rfl⟩
  have hO5 : Own W5 w1.heap.size exL := by rw [hW5]; exact hO4.alloc _
  have hB5 : Below w1.heap.size w1 W5 := by rw [hW5]; exact hB4.alloc (by omega) _
  have hs5 : W5.heap.size = w4.heap.size + 1 := by rw [hW5]; simp
  have hp5 : W5.heap[w2.heap.size]? = some (.cells #[.int .i64 0, .int .i64 0] 23 (0, 0)) := by rw [hW5, Below.heap_alloc _ _ _ (by omega)]; exact hp4
  have hT5 : SpB W5 w4.heap.size 1 1 0 1 0 5 := by rw [hW5]; exact SpB.made _ _ _ _ _ _ _
  have hm5 : W5.cell? ⟨gb, off + 2, none⟩ = some (.float .f64 4612811918334230528) := by
    have h9 : Below w4.heap.size w4 W5 := by rw [hW5]; exact (Below.refl _ _).alloc (Nat.le_refl _) _
    rw [h9.cell (p := ⟨gb, off + 2, none⟩) hgl]; exact hm2
  have HS2 := hid (Sift_any exL (some ⟨w1.heap.size, 0, none⟩) 5 5 (w1.heap.size + 1) 1 2 W5 rfl (by omega) exW (by have := Rd.ofOwn hO5 0 5; exact this) (by omega))
  have HW5 := (Aside.intro (And.intro hO5 (And.intro hB5 (And.intro hp5 (And.intro hT5 (And.intro hm5 hgl))))))
  clear hO5 hB5 hp5 hT5 hm5 hgl hO4 hB4 hp4 hm2 hcell hR4 hL4 hb4 HW3 hW3 HS1 HW2
  go_wp2_with fail
  rw [← hW5]
  refine (HS2.out).mono ?_
  rintro r w6 ⟨v6, rfl, hL6, hb6⟩
  rw [exS2, exE2]
  obtain ⟨a6, c6, rfl, _, _, _⟩ := hL6.shape
  have hs6 := hb6.size
  obtain ⟨W7, hW7⟩ : ∃ W, W = w6.alloc (.cells #[.int .i64 0, .int .i64 0, .int .i64 0, .int .i64 0, .int .i64 0, .int .i64 0] 30) := ⟨_, rfl⟩
  have hb7 : Below W5.heap.size W5 W7 := by rw [hW7]; exact hb6.alloc (by omega) _
  have hs7 : W7.heap.size = w6.heap.size + 1 := by rw [hW7]; simp
  have hp6 : w6.heap[w2.heap.size]? = some (.cells #[.int .i64 0, .int .i64 0] 23 (0, 0)) := by rw [hb6.block _ (by omega)]; exact HW5.out.2.2.1
  have hq0 : w6.cell? ⟨w2.heap.size, 0, none⟩ = some (.int .i64 0) := by simp [World.cell?, hp6]
  have hq1 : w6.cell? ⟨w2.heap.size, 1, none⟩ = some (.int .i64 0) := by simp [World.cell?, hp6]
  have hlt6 : w2.heap.size < w6.heap.size := by omega
  have HW7 := Aside.intro hb7
  clear hL6 hb6 hb7 HS2 hp6 hW5
  go_wp2_with fail
  rw [← hW7]
  refine (HV.out _).mono ?_
  rintro r w8 ⟨rfl, hb8⟩
  have hs8 := hb8.size
  have hb58 := HW7.out.trans (hb8.mono (by omega))
  have HW8 := Aside.intro hb58
  clear hb8 hb58 hq0 hq1 HW7 hW7
  go_wp2_with fail
  refine (HN.out _).mono ?_
  rintro r w9 ⟨rfl, hb9⟩
  have hs9 := hb9.size
  have hb59 := HW8.out.trans (hb9.mono (by omega))
  have hm9 : w9.cell? ⟨gb, off + 2, none⟩ = some (.float .f64 4612811918334230528) := by rw [hb59.cell (p := ⟨gb, off + 2, none⟩) (by have := HW5.out.2.2.2.2.2; simp; omega)]; exact HW5.out.2.2.2.2.1
  have hp9 : w9.heap[w2.heap.size]? = some (.cells #[.int .i64 0, .int .i64 0] 23 (0, 0)) := by rw [hb59.block _ (by omega)]; exact HW5.out.2.2.1
  have hq0 : w9.cell? ⟨w2.heap.size, 0, none⟩ = some (.int .i64 0) := by simp [World.cell?, hp9]
  have hq1 : w9.cell? ⟨w2.heap.size, 1, none⟩ = some (.int .i64 0) := by simp [World.cell?, hp9]
  have hT9 := HW5.out.2.2.2.1.below hb59 (by omega)
  have ht0 := hT9.c0
  have ht1 := hT9.c1
  have ht2 := hT9.c2
  have ht3 := hT9.c3
  have ht4 := hT9.c4
  have ht5 := hT9.c5
  have HB9 : Aside (Below w1.heap.size w1 w9) := HW5.out.2.1.trans (hb59.mono (by omega))
  clear hb9 hb59 hp9 hT9 HW5 HW8
  go_wp2_with fail
  refine (HI.out _).mono ?_
  rintro r w9 ⟨rfl, rfl⟩
  go_wp2_with fail
  refine (HA1.out _).mono ?_
  rintro r w9 ⟨rfl, rfl⟩
  go_wp2_with fail
  refine (HZ.out _).mono ?_
  rintro r w9 ⟨rfl, rfl⟩
  go_wp2_with fail
  refine (HA2.out _).mono ?_
  rintro r w9 ⟨rfl, rfl⟩
  go_wp2
  go_ret
  exact ⟨by first | rfl | simp, HB9.out⟩
end Go.Proofs.Ytfocdjfnlbendaa

/- What came in: policies, Specials, lists. -/
namespace Go.Proofs.Ytfocdjfnlbendaa
open Go.ChangeShapes Go.WideShapes Go.ChangeAt Go.RowKit
set_option linter.unusedVariables false
set_option maxRecDepth 20000

theorem ints_of {H : Type} {enc : TypeId × Value → H} {W : World} {k : Nat} {c : Value} {x : Option (DataW H × List MemPlace)} {y : DataW H × List MemPlace} (h : DataW.trod enc Try.prog W 0 (fun _ => true) true k 3 [c] = x) (hx : x = some y) : ∃ n : Int, c = .int .i64 n ∧ y.1 = .lit (.int .i64 n) ∧ -9223372036854775808 ≤ n ∧ n ≤ 9223372036854775807 := by
  subst hx
  obtain ⟨e, e2, rfl, hw⟩ := DataW.trod_int Try.underlying3 h
  cases e2
  have hw' : -9223372036854775808 ≤ e ∧ e ≤ 9223372036854775807 := by
    simp [Lit.wf, IntKind.min, IntKind.max, IntKind.signed, IntKind.bits] at hw
    omega
  exact ⟨e, rfl, rfl, hw'.1, hw'.2⟩

theorem pol_of {H : Type} {enc : TypeId × Value → H} {W : World} {r : Reach} {b0 : Nat} {v : Value} {d : DataW H} {p : List MemPlace} (hv : Value.okWide Try.prog W r b0 23 v) (h : DataW.Trod enc Try.prog W 0 (fun _ => true) true 23 v d p) :
    ∃ a b : Int, v = .agg #[.int .i64 a, .int .i64 b] := by
  obtain ⟨cs, rfl, hsz⟩ := okWide_struct Try.underlying23 hv
  obtain ⟨fuel, hf⟩ := h
  have hC : Try.prog.cellsOf 23 = 2 := by kernel_rfl
  have c3 : Try.prog.cellsOf 3 = 1 := by kernel_rfl
  obtain ⟨xs, k, rfl, hx, hl, hxl, hfs⟩ := DataW.trod_struct Try.underlying23 hf
  rw [hC] at hsz
  obtain ⟨c0, c1, rfl⟩ : ∃ c0 c1, cs = #[c0, c1] := by
    obtain ⟨l⟩ := cs
    match l, hsz with
    | [a, b], _ => exact ⟨a, b, rfl⟩
  have h0 : DataW.trod enc Try.prog W 0 (fun _ => true) true k 3 (List.take (Try.prog.cellsOf 3) (List.drop 0 [c0, c1])) = xs[0]? := hfs 0 _ rfl
  have h1 : DataW.trod enc Try.prog W 0 (fun _ => true) true k 3 (List.take (Try.prog.cellsOf 3) (List.drop 1 [c0, c1])) = xs[1]? := hfs 1 _ rfl
  rw [c3] at h0 h1
  match xs, hxl with
  | [x0, x1], _ =>
    obtain ⟨a, rfl, _⟩ := ints_of (c := c0) h0 rfl
    obtain ⟨b, rfl, _⟩ := ints_of (c := c1) h1 rfl
    exact ⟨a, b, rfl⟩

theorem spc_of {H : Type} {enc : TypeId × Value → H} {W : World} {r : Reach} {b0 : Nat} {v : Value} {d : DataW H} {p : List MemPlace} (hv : Value.okWide Try.prog W r b0 30 v) (h : DataW.Trod enc Try.prog W 0 (fun _ => true) true 30 v d p) :
    ∃ n u dd m pp a : Int, v = .agg #[.int .i64 n, .int .i64 u, .int .i64 dd, .int .i64 m, .int .i64 pp, .int .i64 a] := by
  obtain ⟨cs, rfl, hsz⟩ := okWide_struct Try.underlying30 hv
  obtain ⟨fuel, hf⟩ := h
  have hC : Try.prog.cellsOf 30 = 6 := by kernel_rfl
  have c3 : Try.prog.cellsOf 3 = 1 := by kernel_rfl
  obtain ⟨xs, k, rfl, hx, hl, hxl, hfs⟩ := DataW.trod_struct Try.underlying30 hf
  rw [hC] at hsz
  obtain ⟨c0, c1, c2, c3', c4, c5, rfl⟩ : ∃ c0 c1 c2 c3 c4 c5, cs = #[c0, c1, c2, c3, c4, c5] := by
    obtain ⟨l⟩ := cs
    match l, hsz with
    | [a, b, c, d, e, f], _ => exact ⟨a, b, c, d, e, f, rfl⟩
  have h0 : DataW.trod enc Try.prog W 0 (fun _ => true) true k 3 (List.take (Try.prog.cellsOf 3) (List.drop 0 [c0, c1, c2, c3', c4, c5])) = xs[0]? := hfs 0 _ rfl
  have h1 : DataW.trod enc Try.prog W 0 (fun _ => true) true k 3 (List.take (Try.prog.cellsOf 3) (List.drop 1 [c0, c1, c2, c3', c4, c5])) = xs[1]? := hfs 1 _ rfl
  have h2 : DataW.trod enc Try.prog W 0 (fun _ => true) true k 3 (List.take (Try.prog.cellsOf 3) (List.drop 2 [c0, c1, c2, c3', c4, c5])) = xs[2]? := hfs 2 _ rfl
  have h3 : DataW.trod enc Try.prog W 0 (fun _ => true) true k 3 (List.take (Try.prog.cellsOf 3) (List.drop 3 [c0, c1, c2, c3', c4, c5])) = xs[3]? := hfs 3 _ rfl
  have h4 : DataW.trod enc Try.prog W 0 (fun _ => true) true k 3 (List.take (Try.prog.cellsOf 3) (List.drop 4 [c0, c1, c2, c3', c4, c5])) = xs[4]? := hfs 4 _ rfl
  have h5 : DataW.trod enc Try.prog W 0 (fun _ => true) true k 3 (List.take (Try.prog.cellsOf 3) (List.drop 5 [c0, c1, c2, c3', c4, c5])) = xs[5]? := hfs 5 _ rfl
  rw [c3] at h0 h1 h2 h3 h4 h5
  match xs, hxl with
  | [x0, x1, x2, x3, x4, x5], _ =>
    obtain ⟨n, rfl, _⟩ := ints_of (c := c0) h0 rfl
    obtain ⟨u, rfl, _⟩ := ints_of (c := c1) h1 rfl
    obtain ⟨dd, rfl, _⟩ := ints_of (c := c2) h2 rfl
    obtain ⟨m, rfl, _⟩ := ints_of (c := c3') h3 rfl
    obtain ⟨pp, rfl, _⟩ := ints_of (c := c4) h4 rfl
    obtain ⟨a, rfl, _⟩ := ints_of (c := c5) h5 rfl
    exact ⟨n, u, dd, m, pp, a, rfl⟩

theorem trodF {H : Type} {enc : TypeId × Value → H} {P : Program} {w : World} {base : Nat} {spare : Nat → Bool} {held : Bool} {fuel : Nat} {t : TypeId} {cs : List Value} {x : DataW H × List MemPlace} {k : FloatKind} (ht : P.underlying t = some (.float k)) (h : DataW.trod enc P w base spare held fuel t cs = some x) : ∃ n, cs = [.float k n] ∧ x = (.lit (.float k n), []) ∧ (Lit.float k n).wf = true := by
  cases fuel with
  | zero => simp [DataW.trod] at h
  | succ m =>
    simp only [DataW.trod, ht] at h
    split at h <;> simp_all

/-- A list that came in: its numbers, its room. -/
structure Came (w : World) (a : Option Addr) (n c : Nat) (xs : List Nat) : Prop where
  len : n = xs.length
  cap : n ≤ c
  wf : Wf xs
  rd : Rd w.heap.size w a xs
  nil : a = none → c = 0

theorem add_none (b off i : Nat) : (⟨b, off, none⟩ : Addr).add i = ⟨b, off + i, none⟩ := by unfold Addr.add; split <;> simp_all

def numF {H : Type} (y : DataW H × List MemPlace) : Nat := match y.1 with | .lit (.float _ n) => n | _ => 0

theorem Try.cellsF : Try.prog.cellsOf 41 = 1 := by kernel_rfl
theorem Try.bytesF : Try.prog.bytesOf 41 = 8 := by kernel_rfl

theorem came_of {H : Type} {enc : TypeId × Value → H} {W : World} {a : Option Addr} {n c : Nat} {d : DataW H} {p : List MemPlace} (h : DataW.Trod enc Try.prog W 0 (fun _ => true) true 27 (.slice a n c) d p) :
    ∃ xs, Came W a n c xs ∧ ((d = .nil ∧ c = 0) ∨ ∃ elems spare : List (DataW H), d = .slice elems spare ∧ elems.length + spare.length = c) := by
  obtain ⟨fuel, hf⟩ := h
  rcases DataW.trod_slice Try.underlying27 hf with ⟨hcs, hx⟩ | ⟨x, l, cp, elems, rest, m, _, hcs, hx, hb, hl, hm, hlen, hel, hsp, hns⟩
  · simp [Value.cells] at hcs
    obtain ⟨rfl, rfl, rfl⟩ := hcs
    exact ⟨[], ⟨rfl, Nat.le_refl _, Wf.nil, Rd.nil _ _ _, fun _ => rfl⟩, .inl ⟨(Prod.mk.inj hx).1, rfl⟩⟩
  · simp [Value.cells] at hcs
    obtain ⟨rfl, rfl, rfl⟩ := hcs
    have each : ∀ i y, i < n → elems[i]? = some y → y = (.lit (.float .f64 (numF y)), []) ∧ (Lit.float .f64 (numF y)).wf = true ∧ W.cell? (x.add i) = some (.float .f64 (numF y)) := by
      intro i y hi hy
      have hb' := hel i hi
      rw [hy, Try.cellsF, Nat.mul_one, Option.bind_eq_some_iff] at hb'
      obtain ⟨cs', hcs, hy'⟩ := hb'
      obtain ⟨k, rfl, rfl, hw⟩ := trodF Try.underlying41 hy'
      exact ⟨rfl, hw, cell_of_cells?_one hcs⟩
    refine ⟨elems.map numF, ⟨by simp [hlen], hl, ?_, ?_, fun e => by cases e⟩, .inr ⟨_, _, (Prod.mk.inj hx).1, ?_⟩⟩
    · intro y hy
      obtain ⟨z, hz, rfl⟩ := List.mem_map.1 hy
      obtain ⟨i, hi⟩ := List.getElem?_of_mem hz
      have hil := (List.getElem?_eq_some_iff.1 hi).1
      have := (each i z (by omega) hi).2.1
      exact of_decide_eq_true this
    · intro hne
      obtain ⟨b, off, spot⟩ := x
      have hn0 : 0 < n := by
        rcases Nat.eq_zero_or_pos n with h0 | h0
        · rw [h0] at hlen; have := List.eq_nil_of_length_eq_zero hlen; subst this; simp at hne
        · exact h0
      have hc0 := (each 0 (elems[0]'(by omega)) hn0 (List.getElem?_eq_getElem _)).2.2
      have hspot : spot = none := by simpa [Addr.add] using World.cell?_spot hc0
      subst hspot
      refine ⟨b, off, World.block_lt_of_cell? W _ (by simpa [Addr.add] using hc0), rfl, fun i hi => ?_⟩
      rw [List.length_map] at hi
      have hadd := add_none b off i
      have := (each i (elems[i]'hi) (by omega) (List.getElem?_eq_getElem _)).2.2
      rw [hadd] at this
      rw [this]
      simp [List.getD_eq_getElem?_getD, hi]
    · have hr := (hsp rfl).1
      simp only [List.length_map]
      omega

/-- The form's own reach. -/
theorem came_reach {H : Type} {ts : List TypeId} {ds : List (DataW H)} (h : (DataW.weightsEach Try.prog ts ds).all (· ≤ reachBytes) = true) {j : Nat} {d : DataW H} {c n : Nat} (ht : ts[j]? = some 27) (hd : ds[j]? = some d) (hn : n ≤ c)
    (hc : (d = .nil ∧ c = 0) ∨ ∃ elems spare : List (DataW H), d = .slice elems spare ∧ elems.length + spare.length = c) : n ≤ 17592186043904 := by
  rcases hc with ⟨_, rfl⟩ | ⟨elems, spare, rfl, hl⟩
  · omega
  · have := sized_slice h ht hd Try.underlying27
    rw [Try.bytesF, hl] at this
    simp only [reachBytes] at this
    omega
end Go.Proofs.Ytfocdjfnlbendaa

/- What is carried from world to world; books of lists. -/
namespace Go.Proofs.Ytfocdjfnlbendaa
open Go.RowKit
open Go.Proofs.Ytfocdjfnlbendaa.B (bcell)
set_option linter.unusedVariables false
set_option maxRecDepth 20000

theorem blk_below {w w' : World} {g : Nat} {ob : Obj} (h : w.heap[g]? = some ob) (hb : Below w.heap.size w w') : w'.heap[g]? = some ob := by
  rw [hb.block g (Array.getElem?_eq_some_iff.1 h).1]; exact h
theorem blk_but {w w' : World} {g k : Nat} {ob : Obj} (h : w.heap[g]? = some ob) (hb : But k w w') (hk : g ≠ k) : w'.heap[g]? = some ob := by
  rw [hb.block g (Array.getElem?_eq_some_iff.1 h).1 hk]; exact h
theorem blk_alloc {w : World} {g : Nat} {ob : Obj} (h : w.heap[g]? = some ob) (o : Obj) : (w.alloc o).heap[g]? = some ob := by
  rw [Below.heap_alloc _ _ _ (Array.getElem?_eq_some_iff.1 h).1]; exact h
theorem Rw.butlo {lo g : Nat} {w w' : World} {v : Value} {n : Nat} {ys : List Value} (h : Rw lo w v n ys) (hb : But g w w') (hg : g < lo) : Rw lo w' v n ys :=
  row_other h fun b hb2 => by
    have h1 := h.low b hb2
    exact hb.block b (h.lt b hb2).2.1 (by omega)
theorem Lt.rd {lo : Nat} {w : World} {v : Value} {xs : List Nat} (h : Lt lo w v xs) : ∃ ao cap, v = .slice ao xs.length cap ∧ xs.length ≤ cap ∧ Rd w.heap.size w ao xs := by
  obtain ⟨ao, cap, h1, h2, _, h3⟩ := h.shape
  exact ⟨ao, cap, h1, h2, h3⟩
theorem Lt.rd2 {lo : Nat} {w : World} {ao : Option Addr} {n cap : Nat} {xs : List Nat} (h : Lt lo w (.slice ao n cap) xs) : Rd w.heap.size w ao xs := by
  obtain ⟨a1, c1, h1, h2, _, h3⟩ := h.shape
  cases h1; exact h3
theorem siftS_form (a b : Int) (xs : List Nat) : ∃ s0 s1 s2 s3 s4 s5 : Int, siftS a b xs = .agg #[.int .i64 s0, .int .i64 s1, .int .i64 s2, .int .i64 s3, .int .i64 s4, .int .i64 s5] := by
  unfold siftS
  split
  · exact ⟨_, _, _, _, _, _, rfl⟩
  · exact ⟨_, _, _, _, _, _, rfl⟩
theorem siftL_le (a b : Int) (xs : List Nat) : (siftL a b xs).length ≤ 65536 := by
  unfold siftL
  split
  · rename_i h
    have h1 := fin_le xs
    unfold siftE at h
    split at h
    · cases h
    · split at h
      · cases h
      · omega
  · simp
theorem fin_wf {xs : List Nat} (h : Wf xs) : Wf (fin xs) := fun x hx => h x (List.mem_filter.1 hx).1
theorem lent_rd {w : World} {g n : Nat} {xs : List Nat} (hn : n = xs.length) (h : Own w g (xs ++ [4634696597773484032, 4634766966517661696])) : Rd (g + 1) w (some ⟨g, 0, none⟩) xs := by
  have h1 := Rd.ofOwn h 0 n
  rw [List.drop_zero, List.take_append_of_le_length (by omega), List.take_of_length_le (by omega)] at h1
  exact h1

theorem nice3 {lo : Nat} {w : World} {v1 v2 v3 : Value} {x1 x2 x3 : List Nat} (h1 : Lt lo w v1 x1) (h2 : Lt lo w v2 x2) (h3 : Lt lo w v3 x3) (s1 : x1.length ≤ 65536) (s2 : x2.length ≤ 65536) (s3 : x3.length ≤ 65536) (m1 m2 : Nat) (hmm : m1 ≤ m2)
    (r1 : ∀ b, v1.ownBlock = some b → b < m1) (r2 : ∀ b, v2.ownBlock = some b → m1 ≤ b ∧ b < m2) (r3 : ∀ b, v3.ownBlock = some b → m2 ≤ b) : Nice lo w [v1, v2, v3] := by
  have l1 : slen v1 = x1.length := Rw.len h1
  have l2 : slen v2 = x2.length := Rw.len h2
  have l3 : slen v3 = x3.length := Rw.len h3
  have n0 : nth [v1, v2, v3] 0 = v1 := rfl
  have n1 : nth [v1, v2, v3] 1 = v2 := rfl
  have n2 : nth [v1, v2, v3] 2 = v3 := rfl
  refine ⟨fun i hi => ?_, fun i hi => ?_, fun i j hi hj hij b hb => ?_⟩
  · simp at hi
    obtain rfl | rfl | rfl : i = 0 ∨ i = 1 ∨ i = 2 := by omega
    · rw [n0, l1]; exact ⟨_, h1⟩
    · rw [n1, l2]; exact ⟨_, h2⟩
    · rw [n2, l3]; exact ⟨_, h3⟩
  · simp at hi
    obtain rfl | rfl | rfl : i = 0 ∨ i = 1 ∨ i = 2 := by omega
    · rw [n0, l1]; omega
    · rw [n1, l2]; omega
    · rw [n2, l3]; omega
  · simp at hi hj
    intro hb2
    have q1 := r1 b
    have q2 := r2 b
    have q3 := r3 b
    obtain rfl | rfl | rfl : i = 0 ∨ i = 1 ∨ i = 2 := by omega
    all_goals obtain rfl | rfl | rfl : j = 0 ∨ j = 1 ∨ j = 2 := by omega
    all_goals first | exact absurd rfl hij | skip
    all_goals simp only [n0, n1, n2] at hb hb2
    all_goals first | (have := q1 hb; have := q2 hb2; omega) | (have := q1 hb; have := q3 hb2; omega) | (have := q2 hb; have := q1 hb2; omega) | (have := q2 hb; have := q3 hb2; omega) | (have := q3 hb; have := q1 hb2; omega) | (have := q3 hb; have := q2 hb2; omega)
end Go.Proofs.Ytfocdjfnlbendaa

/- What follows: lists put together, noughts. Plain mathematics, and the law's sum. -/
namespace Go.Proofs.Ytfocdjfnlbendaa
open Go.RowKit
open Go.Proofs.Ytfocdjfnlbendaa.B (f64bits f64frombits bw bcell)
set_option linter.unusedVariables false
set_option maxRecDepth 20000

theorem rf_zero {n u d a b : Int} (h : rf n u d a b = 0) : ¬ (0 < n ∧ a = 2) ∧ ¬ (0 < u + d ∧ b = 2) := by
  unfold rf at h
  split at h
  · cases h
  · split at h
    · cases h
    · exact ⟨‹_›, ‹_›⟩
theorem siftE_zero {a b : Int} {xs : List Nat} (h : siftE a b xs = 0) : may a b = true ∧ xs.length ≤ 65536 ∧ rf (cn 5 xs : Nat) (cn 3 xs : Nat) (cn 4 xs : Nat) a b = 0 := by
  unfold siftE at h
  split at h
  · cases h
  · split at h
    · cases h
    · refine ⟨?_, by omega, h⟩
      rename_i h1 _
      cases hm : may a b
      · exact absurd hm h1
      · rfl
theorem siftE_mk {a b : Int} {xs : List Nat} (h1 : may a b = true) (h2 : xs.length ≤ 65536) (h3 : rf (cn 5 xs : Nat) (cn 3 xs : Nat) (cn 4 xs : Nat) a b = 0) : siftE a b xs = 0 := by
  unfold siftE; rw [if_neg (by rw [h1]; decide), if_neg (by omega)]; exact h3
theorem rf_mk {n u d a b : Int} (h1 : ¬ (0 < n ∧ a = 2)) (h2 : ¬ (0 < u + d ∧ b = 2)) : rf n u d a b = 0 := by unfold rf; rw [if_neg h1, if_neg h2]

/-- What is refused of one is refused of both. -/
theorem parts_no {a b : Int} {xs ys : List Nat} (h : siftE a b (xs ++ ys) = 0) : siftE a b xs = 0 ∧ siftE a b ys = 0 := by
  obtain ⟨h1, h2, h3⟩ := siftE_zero h
  obtain ⟨g1, g2⟩ := rf_zero h3
  rw [cn_append] at g1
  rw [cn_append, cn_append] at g2
  rw [List.length_append] at h2
  refine ⟨siftE_mk h1 (by omega) (rf_mk (fun q => g1 ⟨by omega, q.2⟩) (fun q => g2 ⟨by omega, q.2⟩)), siftE_mk h1 (by omega) (rf_mk (fun q => g1 ⟨by omega, q.2⟩) (fun q => g2 ⟨by omega, q.2⟩))⟩
theorem parts_long {a b : Int} {xs ys : List Nat} (h1 : siftE a b xs = 0) (h2 : siftE a b ys = 0) (h : siftE a b (xs ++ ys) ≠ 0) : siftE a b (xs ++ ys) = 2 ∧ 65536 < (xs ++ ys).length := by
  obtain ⟨m1, l1, r1⟩ := siftE_zero h1
  obtain ⟨_, l2, r2⟩ := siftE_zero h2
  by_cases hl : 65536 < (xs ++ ys).length
  · exact ⟨by unfold siftE; rw [if_neg (by rw [m1]; decide), if_pos hl], hl⟩
  · exfalso
    apply h
    obtain ⟨g1, g2⟩ := rf_zero r1
    obtain ⟨g3, g4⟩ := rf_zero r2
    refine siftE_mk m1 (by omega) (rf_mk ?_ ?_)
    · rw [cn_append]; rintro ⟨q1, q2⟩
      have : ¬ 0 < ((cn 5 xs : Nat) : Int) := fun q => g1 ⟨q, q2⟩
      have : ¬ 0 < ((cn 5 ys : Nat) : Int) := fun q => g3 ⟨q, q2⟩
      omega
    · rw [cn_append, cn_append]; rintro ⟨q1, q2⟩
      have : ¬ 0 < ((cn 3 xs : Nat) : Int) + ((cn 4 xs : Nat) : Int) := fun q => g2 ⟨q, q2⟩
      have : ¬ 0 < ((cn 3 ys : Nat) : Int) + ((cn 4 ys : Nat) : Int) := fun q => g4 ⟨q, q2⟩
      omega

/-- What is finite, and what is not. -/
theorem fin_count (xs : List Nat) : (fin xs).length + cn 5 xs + cn 3 xs + cn 4 xs = xs.length := by
  induction xs with
  | nil => rfl
  | cons x xs ih =>
    have h1 : fin (x :: xs) = fin [x] ++ fin xs := fin_append [x] xs
    have h2 : ∀ k, cn k (x :: xs) = one k x + cn k xs := fun k => by rw [← cn_one k x]; exact cn_append k [x] xs
    rw [h1, h2, h2, h2, List.length_append, List.length_cons]
    have hk := kd_le x
    have h3 : (fin [x]).length + one 5 x + one 3 x + one 4 x = 1 := by
      unfold fin one
      generalize hkk : kd x = k at hk
      obtain rfl | rfl | rfl | rfl | rfl | rfl : k = 0 ∨ k = 1 ∨ k = 2 ∨ k = 3 ∨ k = 4 ∨ k = 5 := by omega
      all_goals simp [hkk]
    omega

/-- The noughts. -/
def isz (x : Nat) : Bool := kd x == 1 || kd x == 2
def nz (xs : List Nat) : List Nat := xs.filter isz
theorem nz_append (xs ys : List Nat) : nz (xs ++ ys) = nz xs ++ nz ys := by simp [nz, List.filter_append]
theorem nz_le (xs : List Nat) : (nz xs).length ≤ xs.length := List.length_filter_le _ _
theorem nz_in (xs : List Nat) (i : Nat) (h : i < xs.length) (hk : isz (xs.getD i 0) = true) : nz (xs.take (i + 1)) = nz (xs.take i) ++ [xs.getD i 0] := by
  rw [take_succ' xs i h, nz_append]; simp only [nz, List.filter_cons, List.filter_nil, hk, if_pos]
theorem nz_out (xs : List Nat) (i : Nat) (h : i < xs.length) (hk : isz (xs.getD i 0) = false) : nz (xs.take (i + 1)) = nz (xs.take i) := by
  rw [take_succ' xs i h, nz_append]; simp only [nz, List.filter_cons, List.filter_nil, hk]; simp
theorem nz_wf {xs : List Nat} (h : Wf xs) : Wf (nz xs) := fun x hx => h x (List.mem_filter.1 hx).1
theorem nz_kd {xs : List Nat} : ∀ x ∈ nz xs, kd x = 1 ∨ kd x = 2 := by
  intro x hx
  have := (List.mem_filter.1 hx).2
  simpa [isz] using this
theorem isz_eq (x : Nat) (hx : x < 18446744073709551616) : (FloatKind.f64.format.order x 0 == some .eq) = isz x := by
  obtain ⟨s, e, f, he, hf, rfl⟩ := B.bw_of x hx
  rw [B.eq_zero s e f he hf]
  unfold isz
  rw [kd_bw s e f he hf]
  by_cases h1 : e = 2047
  · subst h1
    rw [if_pos rfl]
    by_cases hf0 : f = 0
    · rw [if_pos hf0]; cases s <;> simp
    · rw [if_neg hf0]; simp
  · rw [if_neg h1]
    by_cases h0 : e = 0 ∧ f = 0
    · rw [if_pos h0]; obtain ⟨rfl, rfl⟩ := h0; cases s <;> simp
    · rw [if_neg h0]
      have : (e == 0 && f == 0) = false := by
        rw [Bool.eq_false_iff]; intro h; simp at h; exact h0 h
      rw [this]; rfl
/-- A nought is one of two. -/
theorem isz_two (x : Nat) (hx : x < 18446744073709551616) (h : kd x = 1 ∨ kd x = 2) : (x = 9223372036854775808 ∧ kd x = 1) ∨ (x = 0 ∧ kd x = 2) := by
  rcases h with h | h
  · left
    refine ⟨?_, h⟩
    unfold kd at h
    split at h
    · cases h
    · split at h
      · split at h <;> cases h
      · split at h
        · split at h
          · omega
          · cases h
        · cases h
  · right
    refine ⟨?_, h⟩
    unfold kd at h
    split at h
    · cases h
    · split at h
      · split at h <;> cases h
      · split at h
        · split at h
          · cases h
          · omega
        · cases h
theorem nz_count (k : Nat) (hk : k = 1 ∨ k = 2) (xs : List Nat) : cn k (nz xs) = cn k xs := by
  unfold cn nz
  rw [List.countP_filter]
  apply List.countP_congr
  intro x _
  unfold isz
  rcases hk with rfl | rfl <;> simp <;> intro h <;> simp [h]
theorem fin_cn (k : Nat) (hk : k = 1 ∨ k = 2) (xs : List Nat) : cn k (fin xs) = cn k xs := by
  unfold cn fin
  rw [List.countP_filter]
  apply List.countP_congr
  intro x _
  rcases hk with rfl | rfl <;> simp <;> intro h <;> simp [h]
theorem cn_two (zs : List Nat) (h : ∀ x ∈ zs, kd x = 1 ∨ kd x = 2) : cn 1 zs + cn 2 zs = zs.length ∧ cn 5 zs = 0 ∧ cn 3 zs = 0 ∧ cn 4 zs = 0 := by
  induction zs with
  | nil => exact ⟨rfl, rfl, rfl, rfl⟩
  | cons x zs ih =>
    obtain ⟨i1, i2, i3, i4⟩ := ih (fun y hy => h y (by simp [hy]))
    have h2 : ∀ k, cn k (x :: zs) = one k x + cn k zs := fun k => by rw [← cn_one k x]; exact cn_append k [x] zs
    rw [h2, h2, h2, h2, h2, List.length_cons]
    unfold one
    rcases h x (by simp) with hx | hx <;> rw [hx] <;> simp <;> omega
theorem fin_two (zs : List Nat) (h : ∀ x ∈ zs, kd x = 1 ∨ kd x = 2) : fin zs = zs := by
  unfold fin
  rw [List.filter_eq_self]
  intro x hx
  rcases h x hx with h | h <;> simp [h]
theorem sift_two (zs : List Nat) (h : ∀ x ∈ zs, kd x = 1 ∨ kd x = 2) (hl : zs.length ≤ 65536) : siftE 0 0 zs = 0 ∧ siftS 0 0 zs = .agg #[.int .i64 0, .int .i64 0, .int .i64 0, .int .i64 (cn 1 zs : Nat), .int .i64 (cn 2 zs : Nat), .int .i64 (zs.length : Nat)] := by
  obtain ⟨_, h5, h3, h4⟩ := cn_two zs h
  have hE : siftE 0 0 zs = 0 := siftE_mk (by decide) hl (rf_mk (by rintro ⟨_, q⟩; cases q) (by rintro ⟨_, q⟩; cases q))
  refine ⟨hE, ?_⟩
  unfold siftS
  rw [if_pos hE, h5, h3, h4]
  rfl

/-- Go's own + of noughts, one behind the other, from -0 on. -/
def tt (zs : List Nat) : Nat := if cn 2 zs = 0 then 9223372036854775808 else 0
theorem tt_nil : tt [] = 9223372036854775808 := rfl
theorem tt_snoc (zs : List Nat) (x : Nat) (hx : x < 18446744073709551616) (h : kd x = 1 ∨ kd x = 2) : floatBits .add .f64 (tt zs) x = some (tt (zs ++ [x])) := by
  have a1 : floatBits .add .f64 9223372036854775808 9223372036854775808 = some 9223372036854775808 := by decide +kernel
  have a2 : floatBits .add .f64 9223372036854775808 0 = some 0 := by decide +kernel
  have a3 : floatBits .add .f64 0 9223372036854775808 = some 0 := by decide +kernel
  have a4 : floatBits .add .f64 0 0 = some 0 := by decide +kernel
  unfold tt
  rw [cn_append, cn_one]
  unfold one
  rcases isz_two x hx h with ⟨rfl, hk⟩ | ⟨rfl, hk⟩
  · rw [hk]
    by_cases h0 : cn 2 zs = 0
    · rw [if_pos h0, if_pos (by rw [h0]; rfl)]; exact a1
    · rw [if_neg h0, if_neg (by omega)]; exact a3
  · rw [hk]
    by_cases h0 : cn 2 zs = 0
    · rw [if_pos h0, if_neg (by rw [h0]; decide)]; exact a2
    · rw [if_neg h0, if_neg (by omega)]; exact a4
theorem nought_tt (zs : List Nat) (h : ∀ x ∈ zs, kd x = 1 ∨ kd x = 2) (hl : zs.length ≤ 65536) :
    nt (snd 0 0 0 (cn 1 zs : Nat) (cn 2 zs : Nat) (zs.length : Nat)) 0 0 0 (cn 1 zs : Nat) (cn 2 zs : Nat) (zs.length : Nat) 0 = if zs.length = 0 then 0 else tt zs := by
  obtain ⟨h12, _⟩ := cn_two zs h
  have hs : snd 0 0 0 (cn 1 zs : Nat) (cn 2 zs : Nat) (zs.length : Nat) = true := by
    unfold snd ct
    simp only [Bool.and_eq_true, decide_eq_true_eq]
    omega
  rw [hs]
  unfold nt tt
  rw [if_neg (by decide)]
  by_cases h0 : zs.length = 0
  · rw [if_pos (by omega), if_pos h0]
  · rw [if_neg (by omega), if_neg h0]
    by_cases h1 : cn 2 zs = 0
    · rw [if_pos (by omega), if_pos h1]
    · rw [if_neg (by omega), if_neg h1]
      by_cases h2 : ((cn 2 zs : Nat) : Int) = (zs.length : Nat) - 0 - 0 - 0
      · rw [if_pos h2]
      · rw [if_neg h2, if_neg (by decide)]

set_option maxHeartbeats 4000000 in
theorem sum_any (n u d m p a n' u' d' m' p' a' : Int) (w : World) (h0 : -4611686018427387904 ≤ n ∧ n ≤ 4611686018427387903) (h1 : -4611686018427387904 ≤ u ∧ u ≤ 4611686018427387903) (h2 : -4611686018427387904 ≤ d ∧ d ≤ 4611686018427387903) (h3 : -4611686018427387904 ≤ m ∧ m ≤ 4611686018427387903) (h4 : -4611686018427387904 ≤ p ∧ p ≤ 4611686018427387903) (h5 : -4611686018427387904 ≤ a ∧ a ≤ 4611686018427387903)
    (k0 : -4611686018427387904 ≤ n' ∧ n' ≤ 4611686018427387903) (k1 : -4611686018427387904 ≤ u' ∧ u' ≤ 4611686018427387903) (k2 : -4611686018427387904 ≤ d' ∧ d' ≤ 4611686018427387903) (k3 : -4611686018427387904 ≤ m' ∧ m' ≤ 4611686018427387903) (k4 : -4611686018427387904 ≤ p' ∧ p' ≤ 4611686018427387903) (k5 : -4611686018427387904 ≤ a' ∧ a' ≤ 4611686018427387903) :
    Calls Try.prog 23 #[.agg #[.int .i64 n, .int .i64 u, .int .i64 d, .int .i64 m, .int .i64 p, .int .i64 a], .agg #[.int .i64 n', .int .i64 u', .int .i64 d', .int .i64 m', .int .i64 p', .int .i64 a']] w fun r w' =>
      r = .returned (.agg #[.int .i64 (n + n'), .int .i64 (u + u'), .int .i64 (d + d'), .int .i64 (m + m'), .int .i64 (p + p'), .int .i64 (a + a')]) ∧ Below w.heap.size w w' := by
  go_enter Try.func23, Try.ntmps23
  go_wp2
  exact bodyPost_ret (v := .agg #[.int .i64 (n + n'), .int .i64 (u + u'), .int .i64 (d + d'), .int .i64 (m + m'), .int .i64 (p + p'), .int .i64 (a + a')]) (by simp [results, Try.results23, go_sem]) rfl ⟨rfl, (((Below.refl _ _).alloc (Nat.le_refl _) _).alloc (by simp) _).alloc (by simp; omega) _⟩

theorem Rw.nilcap {lo : Nat} {w : World} {ao : Option Addr} {n cap : Nat} {ys : List Value} (h : Rw lo w (.slice ao n cap) n ys) : ao = none → cap = 0 := by
  intro e
  rcases h.2 with ⟨e1, _⟩ | ⟨g, c2, cur, e1, _⟩
  · cases e1; rfl
  · cases e1; cases e
theorem sift_vals {a b : Int} {xs : List Nat} {s0 s1 s2 s3 s4 s5 : Int} (hE : siftE a b xs = 0) (h : siftS a b xs = .agg #[.int .i64 s0, .int .i64 s1, .int .i64 s2, .int .i64 s3, .int .i64 s4, .int .i64 s5]) :
    s0 = (cn 5 xs : Nat) ∧ s1 = (cn 3 xs : Nat) ∧ s2 = (cn 4 xs : Nat) ∧ s3 = (cn 1 xs : Nat) ∧ s4 = (cn 2 xs : Nat) ∧ s5 = (xs.length : Nat) := by
  unfold siftS at h
  rw [if_pos hE] at h
  simp at h
  obtain ⟨h0, h1, h2, h3, h4, h5⟩ := h
  exact ⟨h0.symm, h1.symm, h2.symm, h3.symm, h4.symm, h5.symm⟩
/-- Numbers appended to a row: it grows, all below stays. -/
theorem put (w : World) (lo : Nat) (v : Value) (xs src : List Nat) (ao : Option Addr) (c B : Nat) (hown : Rw lo w v xs.length (xs.map U)) (hR : Rd B w ao src) (hnil : ao = none → c = 0) (hbig : xs.length + src.length ≤ 1048576) (hlo : lo ≤ w.heap.size) :
    ∃ (ao' : Option Addr) (c' : Nat) (w' : World), (Builtin.append_ #[27, 27] 27 #[v, .slice ao src.length c]).run Try.prog w = .ok (.slice ao' (xs ++ src).length c') w' ∧ Rw lo w' (.slice ao' (xs ++ src).length c') (xs ++ src).length ((xs ++ src).map U) ∧ Below lo w w' ∧
      (∀ (g : Nat) (cur : Array Value) (e : TypeId), e ≠ 41 → w.heap[g]? = some (.cells cur e (0, 0)) → w'.heap[g]? = some (.cells cur e (0, 0))) ∧ w.heap.size ≤ w'.heap.size := by
  obtain ⟨v', w', h1, h2, h3⟩ := append_numbers w lo v xs.length xs src ao src.length c B 27 hown rfl hR hnil (by omega) hlo
  have h2' : Rw lo w' v' (xs ++ src).length ((xs ++ src).map U) := by rw [List.length_append]; exact h2
  obtain ⟨a', c', e⟩ := h2'.form
  subst e
  refine ⟨a', c', w', h1, h2', (Below.refl lo w).grown h3 hlo hown.low, ?_, h3.size⟩
  intro g cur e he hg
  rw [h3.block g (Array.getElem?_eq_some_iff.1 hg).1 (fun e2 => ?_)]
  · exact hg
  · rcases hown.2 with ⟨rfl, _⟩ | ⟨g2, cap, c2, rfl, _, hg2, _⟩
    · cases e2
    · cases e2
      rw [hg] at hg2
      cases hg2
      exact he rfl
theorem bulk_len {H : Type} {d : DataW H} {n c : Nat} (hn : n ≤ c) (hc : (d = .nil ∧ c = 0) ∨ ∃ elems spare : List (DataW H), d = .slice elems spare ∧ elems.length + spare.length = c) : n ≤ Rows.uptoBulk d := by
  have pos : ∀ x : DataW H, 1 ≤ Rows.uptoBulk x := by
    intro x
    cases x <;> first | (simp only [Rows.uptoBulk]; omega) | (simp only [Rows.uptoBulk]; done) | (rename_i l; cases l <;> simp only [Rows.uptoBulk] <;> omega)
  have all : ∀ l : List (DataW H), l.length ≤ Rows.uptoBulkAll l := by
    intro l
    induction l with
    | nil => simp [Rows.uptoBulkAll]
    | cons x l ih => simp only [List.length_cons, Rows.uptoBulkAll]; have := pos x; omega
  rcases hc with ⟨rfl, rfl⟩ | ⟨elems, spare, rfl, hl⟩
  · omega
  · simp only [Rows.uptoBulk]
    have := all elems
    have := all spare
    omega
end Go.Proofs.Ytfocdjfnlbendaa

