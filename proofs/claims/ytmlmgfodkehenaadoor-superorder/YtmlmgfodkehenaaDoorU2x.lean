/- What is added and then taken: the law's loops. -/
import Derived.Test.YtmlmgfodkehenaaDoorD25x
import Derived.Test.YtmlmgfodkehenaaDoorP1x
import Derived.Deep.RegionHeld
import Derived.ProofKit
import Derived.OpenShut
import Derived.ChangeOld
import Derived.ChangeArms
import Derived.SizedLaws
import Derived.Laws.Cover2
namespace Go.Proofs.YtmlmgfodkehenaaDoor
open Go.RowKit
set_option linter.unusedVariables false
set_option maxRecDepth 20000
set_option linter.unusedSimpArgs false

/-- Numbers that lie in memory below B. -/
def Fs (B : Nat) (w : World) (ao : Option Addr) (xs : List Nat) : Prop :=
  xs ≠ [] → ∃ b off, b < B ∧ ao = some ⟨b, off, none⟩ ∧ ∀ i, i < xs.length → w.cell? ⟨b, off + i, none⟩ = some (.float .f64 (xs.getD i 0))
theorem Fs.at {B : Nat} {w w' : World} {ao : Option Addr} {xs : List Nat} (h : Fs B w ao xs) (hb : Below B w w') (i : Nat) (hi : i < xs.length) : ∃ b off, ao = some ⟨b, off, none⟩ ∧ w'.cell? ⟨b, off + i, none⟩ = some (.float .f64 (xs.getD i 0)) := by
  obtain ⟨b, off, h1, h2, h3⟩ := h (by intro e; subst e; simp at hi)
  exact ⟨b, off, h2, (hb.cell (p := ⟨b, off + i, none⟩) h1).trans (h3 i hi)⟩
def W64 (xs : List Nat) : Prop := ∀ x ∈ xs, x < 18446744073709551616
theorem W64.get {xs : List Nat} (h : W64 xs) (i : Nat) : xs.getD i 0 < 18446744073709551616 := by
  by_cases hi : i < xs.length
  · rw [List.getD_eq_getElem?_getD, List.getElem?_eq_getElem hi]; exact h _ (List.getElem_mem hi)
  · rw [List.getD_eq_getElem?_getD, List.getElem?_eq_none (by omega)]; simp

theorem Acc7.drew {w : World} {g : Nat} {V : Int} {s : Sp} (h : Acc7 w g V s) : Acc7 w.drew g V s := by
  obtain ⟨L, h1, h2, h3, h4, h5, h6⟩ := h; exact ⟨L, h1, h2, h3, h4, h5, h6.drew⟩

set_option maxHeartbeats 8000000 in
theorem walk_SuperUndone (ls xs ys : List Nat) (a1 a2 a3 : Option Addr) (n1 n2 n3 c1 c2 c3 : Nat) (back : Bool) (w : World) (hT : Tab w)
    (e1 : n1 = ls.length) (e2 : n2 = xs.length) (e3 : n3 = ys.length) (f1 : Fs w.heap.size w a1 ls) (f2 : Fs w.heap.size w a2 xs) (f3 : Fs w.heap.size w a3 ys) (k1 : W64 ls) (k2 : W64 xs) (k3 : W64 ys)
    (m1 : n1 ≤ 4611686018427387904) (m2 : n2 ≤ 4611686018427387904) (m3 : n3 ≤ 4611686018427387904) :
    Calls Tryd.prog 5 #[.slice a1 n1 c1, .slice a2 n2 c2, .slice a3 n3 c3, .bool back] w fun r w' => r = .returned (.bool true) ∧ Below w.heap.size w w' := by
  have HR := Aside.intro (And.intro hT (And.intro (And.intro e1 (And.intro f1 k1)) (And.intro (And.intro e2 (And.intro f2 k2)) (And.intro e3 (And.intro f3 k3)))))
  clear hT e1 e2 e3 f1 f2 f3 k1 k2 k3
  go_enter Tryd.func5, Tryd.ntmps5
  go_wp2_with fail
  refine (live7 w HR.out.1).mono ?_
  rintro r w1 ⟨rfl, hb⟩
  have B1 := Aside.intro hb
  clear hb
  go_wp2_with fail
  refine (New7 w1).mono ?_
  rintro r w2 ⟨rfl, hA, hb⟩
  have S2 := Aside.intro (And.intro hA (And.intro (B1.out.trans (hb.mono B1.out.size)) B1.out.size))
  clear hA hb B1
  obtain ⟨g, hg⟩ : ∃ g, g = w1.heap.size := ⟨_, rfl⟩
  rw [← hg] at S2 ⊢
  clear hg
  go_wp2
  go_loopg [11] 200 (fun gk i wr => ∃ (k : Nat) (V : Int) (s : Sp), gk + k = 200 ∧ i = .int .i64 (k : Nat) ∧ Aside (Acc7 wr g V s ∧ s.pos ∧ s.a ≤ k ∧ -((k * QB : Nat) : Int) ≤ V ∧ V ≤ ((k * QB : Nat) : Int) ∧ Below w.heap.size w wr ∧ w.heap.size ≤ g))
  case atStart => exact ⟨0, 0, _, by omega, by simp, S2.out.1, by unfold Sp.pos; decide, by decide, by simp, by simp, S2.out.2.1, S2.out.2.2⟩
  case round =>
    obtain ⟨k, V, s, hgk, rfl, HA⟩ := hrel
    have hq := QB_HB
    by_cases hin : k < n1 ∧ k < 200
    · obtain ⟨hk, hk2⟩ := hin
      obtain ⟨b, off, rfl, hc⟩ := HR.out.2.1.2.1.at HA.out.2.2.2.2.2.1 k (by rw [← HR.out.2.1.1]; exact hk)
      obtain ⟨x, hx⟩ : ∃ x, x = ls.getD k 0 := ⟨_, rfl⟩
      rw [← hx] at hc
      have hx64 : x < 18446744073709551616 := by rw [hx]; exact HR.out.2.1.2.2.get k
      have HX := Aside.intro hx64
      have HQ := Aside.intro hq
      clear hx hx64 hq
      go_wp2_with fail
      obtain ⟨hA, hp, ha, v0, v1, hb, hg⟩ := HA.out
      have hsm := pT_small x 4607182418800017408 HX.out (by decide)
      have hmul : ((k + 1) * QB : Nat) = k * QB + QB := by rw [Nat.add_mul, Nat.one_mul]
      have hkq : k * QB ≤ 200 * QB := Nat.mul_le_mul_right _ (by omega)
      have hQ := HQ.out
      have hqp := QB_pos
      have C := Add7 g V s x wr hA (hp.ok (by omega)) HX.out
      rw [put_ok V s _ _ (by omega) (by omega) (by omega)] at C
      refine C.mono ?_
      rintro r w3 ⟨rfl, hA3, hbut⟩
      have HA3 := Aside.intro (And.intro hA3 (And.intro (hp.cnt (pK x 4607182418800017408) (pk_le _ _ _)) (And.intro (show (s.cnt (pK x 4607182418800017408) 1).a ≤ ((k + 1 : Nat) : Int) by rw [cnt_a]; omega) (And.intro (show -(((k + 1) * QB : Nat) : Int) ≤ V + pT x 4607182418800017408 by omega) (And.intro (show V + pT x 4607182418800017408 ≤ (((k + 1) * QB : Nat) : Int) by omega) (And.intro (But.below hb hbut hb.size hg) hg))))))
      clear C hA hp ha v0 v1 hb hg hsm hmul hkq hQ hqp hA3 hbut
      go_wp2
      go_roundg (gk - 1)
      case measure => omega
      case rel => exact ⟨k + 1, _, _, by omega, by simp, HA3.out⟩
    · have HQ := Aside.intro hq
      have hk200 : k ≤ 200 := by omega
      clear hq
      obtain ⟨M, hM⟩ : ∃ M : Nat, M = min n2 n3 := ⟨_, rfl⟩
      obtain ⟨N, hN⟩ : ∃ N : Nat, N = min M 200 := ⟨_, rfl⟩
      have eM : (if n3 < n2 then (n3 : Int) else (n2 : Int)) = (M : Int) := by split <;> omega
      have eN : (if (M : Int) ≤ 200 then (M : Int) else 200) = (N : Int) := by split <;> omega
      have eN2 : (if 200 < (M : Int) then 200 else (M : Int)) = (N : Int) := by split <;> omega
      have HN := Aside.intro (show N ≤ n2 ∧ N ≤ n3 ∧ N ≤ 200 by omega)
      have hN2 : N ≤ 200 := by omega
      clear hN hM
      obtain ⟨kA, hkA⟩ : ∃ f : Nat → Nat, ∀ j, f j = pK (xs.getD j 0) (ys.getD j 0) := ⟨_, fun _ => rfl⟩
      obtain ⟨kB, hkB⟩ : ∃ f : Nat → Nat, ∀ j, f j = pK (xs.getD j 0) 4607182418800017408 := ⟨_, fun _ => rfl⟩
      obtain ⟨tA, htA⟩ : ∃ f : Nat → Int, ∀ j, f j = pT (xs.getD j 0) (ys.getD j 0) := ⟨_, fun _ => rfl⟩
      obtain ⟨tB, htB⟩ : ∃ f : Nat → Int, ∀ j, f j = pT (xs.getD j 0) 4607182418800017408 := ⟨_, fun _ => rfl⟩
      have HF := Aside.intro (And.intro hkA (And.intro hkB (And.intro htA htB)))
      have hA5 : ∀ j, kA j ≤ 5 := fun j => by rw [hkA]; exact pk_le _ _ _
      have hB5 : ∀ j, kB j ≤ 5 := fun j => by rw [hkB]; exact pk_le _ _ _
      have tAb : ∀ j, -(QB : Int) ≤ tA j ∧ tA j ≤ (QB : Int) := fun j => by rw [htA]; exact pT_small _ _ (HR.out.2.2.1.2.2.get j) (HR.out.2.2.2.2.2.get j)
      have tBb : ∀ j, -(QB : Int) ≤ tB j ∧ tB j ≤ (QB : Int) := fun j => by rw [htB]; exact pT_small _ _ (HR.out.2.2.1.2.2.get j) (by decide)
      have HS : Aside (∀ L : List Nat, L.length ≤ 200 → (sAt kA kB s L).pos ∧ (sAt kA kB s L).a ≤ 600 ∧ -(HB : Int) + 3 * QB < vAt tA tB V L ∧ vAt tA tB V L < (HB : Int) - 3 * QB) := fun L hL => by
        obtain ⟨h1, h2⟩ := sAt_pos kA kB s hA5 hB5 HA.out.2.1 L
        obtain ⟨h3, h4⟩ := vAt_bound tA tB V QB tAb tBb L
        have h5 := HA.out.2.2.2.1
        have h6 := HA.out.2.2.2.2.1
        have h7 := HA.out.2.2.1
        have h8 : ((2 * L.length : Nat) : Int) * QB ≤ 400 * QB := Int.mul_le_mul_of_nonneg_right (by omega) (by omega)
        have h9 : (k * QB : Nat) ≤ 200 * QB := Nat.mul_le_mul_right _ hk200
        have hq := HQ.out
        have hqp := QB_pos
        exact ⟨h1, by omega, by omega, by omega⟩
      have HB5 := Aside.intro (And.intro hA5 (And.intro hB5 (And.intro tAb tBb)))
      clear hkA hkB htA htB hA5 hB5 tAb tBb
      have hex : (k < n1 ∧ 200 ≤ k) ∨ n1 ≤ k := by omega
      clear hin
      rcases hex with ⟨hk, hk2⟩ | hk
      all_goals (
        go_wp2_with fail
        obtain ⟨hA, hp, ha, v0, v1, hb, hg⟩ := HA.out
        refine (Copy7 g V s wr hA).mono ?_
        rintro r w4 ⟨rfl, hA4, hb4⟩
        obtain ⟨gb, hgb⟩ : ∃ gb, gb = wr.heap.size := ⟨_, rfl⟩
        rw [← hgb] at hA4 ⊢
        have hlt := hA.lt
        have H4 := Aside.intro (And.intro (hA.bel hb4) (And.intro hA4 (And.intro (show g < gb by omega) (hb.trans (hb4.mono hb.size)))))
        clear hA hb hb4 hA4 hgb hlt hg v0 v1 ha hp
        go_wp2
        go_loopg [14] N (fun gk i wr => ∃ q : Nat, gk + q = N ∧ i = .int .i64 (q : Nat) ∧ Aside (Acc7 wr g (vAt tA tB V (down q)) (sAt kA kB s (down q)) ∧ Acc7 wr gb V s ∧ Below w.heap.size w wr))
        case atStart => exact ⟨0, by omega, by simp, H4.out.1, H4.out.2.1, H4.out.2.2.2⟩
        case round =>
          obtain ⟨q, hgq, rfl, HL⟩ := hrel
          by_cases hq : q < N
          · obtain ⟨b2, off2, rfl, hc2⟩ := HR.out.2.2.1.2.1.at HL.out.2.2 q (by rw [← HR.out.2.2.1.1]; have := HN.out.1; omega)
            obtain ⟨b3, off3, rfl, hc3⟩ := HR.out.2.2.2.2.1.at HL.out.2.2 q (by rw [← HR.out.2.2.2.1]; have := HN.out.2.1; omega)
            obtain ⟨x, hx⟩ : ∃ x, x = xs.getD q 0 := ⟨_, rfl⟩
            obtain ⟨y, hy⟩ : ∃ y, y = ys.getD q 0 := ⟨_, rfl⟩
            rw [← hx] at hc2
            rw [← hy] at hc3
            have hq2 : q < n2 := by have := HN.out.1; omega
            have hq3 : q < n3 := by have := HN.out.2.1; omega
            have HX := Aside.intro (And.intro (show x < 18446744073709551616 by rw [hx]; exact HR.out.2.2.1.2.2.get q) (And.intro (show y < 18446744073709551616 by rw [hy]; exact HR.out.2.2.2.2.2.get q) (And.intro (show kA q = pK x y by rw [hx, hy]; exact HF.out.1 q) (And.intro (show kB q = pK x 4607182418800017408 by rw [hx]; exact HF.out.2.1 q) (And.intro (show tA q = pT x y by rw [hx, hy]; exact HF.out.2.2.1 q) (show tB q = pT x 4607182418800017408 by rw [hx]; exact HF.out.2.2.2 q))))))
            have CP : Hid (Calls Tryd.prog 11 #[.pointer (some ⟨g, 0, none⟩), .float .f64 x, .float .f64 y] wr.drew (Did g wr.drew (0, vAt tA tB V (down q) + tA q, (sAt kA kB s (down q)).cnt (kA q) 1))) := by
              obtain ⟨h1, h2, h3, h4⟩ := HS.out (down q) (by rw [down_len]; omega)
              have C := AddProduct7 g _ _ x y wr.drew HL.out.1.drew (h1.ok (by omega)) HX.out.1 HX.out.2.1
              have h5 := HB5.out.2.2.1 q
              have h6 := QB_pos
              rw [← HX.out.2.2.1, ← HX.out.2.2.2.2.1, put_ok _ _ _ _ (by omega) (by omega) (by omega)] at C
              exact C
            have kS : Aside (wr.drew.cell? ⟨b2, off2 + q, none⟩ = some (.float .f64 x) ∧ wr.drew.cell? ⟨b3, off3 + q, none⟩ = some (.float .f64 y)) := ⟨hc2, hc3⟩
            have HC : Aside (∀ u : World, Below w.heap.size w u → u.cell? ⟨b2, off2 + q, none⟩ = some (.float .f64 x) ∧ u.cell? ⟨b3, off3 + q, none⟩ = some (.float .f64 y)) := fun u hu => by
              obtain ⟨b, off, e1, h1⟩ := HR.out.2.2.1.2.1.at hu q (by rw [← HR.out.2.2.1.1]; exact hq2)
              obtain ⟨b', off', e2, h2⟩ := HR.out.2.2.2.2.1.at hu q (by rw [← HR.out.2.2.2.1]; exact hq3)
              cases e1
              cases e2
              exact ⟨by rw [hx]; exact h1, by rw [hy]; exact h2⟩
            clear hx hy
            go_wp2
            go_region_held (fun w' => w'.cell? ⟨b2, off2 + q, none⟩ = some (.float .f64 x) ∧ w'.cell? ⟨b3, off3 + q, none⟩ = some (.float .f64 y)) (with_reducible exact kS.out) (first
              | (go_at_call 11
                 with_reducible refine CP.out.mono ?_
                 rintro r u ⟨rfl, hA3, hbut⟩
                 have hbu : Below w.heap.size w u := But.below HL.out.2.2.drew hbut HL.out.2.2.size HA.out.2.2.2.2.2.2
                 have kS := Aside.intro (HC.out u hbu)
                 have H3 := Aside.intro (And.intro hA3 (And.intro (HL.out.2.1.drew.but hbut (Nat.ne_of_gt H4.out.2.2.1)) hbu))
                 clear hA3 hbut hbu))
            all_goals (
              have hc6 := (HC.out u H3.out.2.2).1
              have CA : Hid (Calls Tryd.prog 17 #[.pointer (some ⟨g, 0, none⟩), .float .f64 x] u (Did g u (0, vAt tA tB V (down (q + 1)), sAt kA kB s (down (q + 1))))) := by
                obtain ⟨h1, h2, h3, h4⟩ := HS.out (down q) (by rw [down_len]; omega)
                have h5 := HB5.out.2.2.1 q
                have h5b := HB5.out.2.2.2 q
                have h6 := QB_pos
                have C := Add7 g _ _ x u H3.out.1 ((h1.cnt _ (HB5.out.1 q)).ok (by rw [cnt_a]; omega)) HX.out.1
                rw [← HX.out.2.2.2.1, ← HX.out.2.2.2.2.2, put_ok _ _ _ _ (by omega) (by omega) (by rw [cnt_a]; omega)] at C
                exact C
              clear kS
              go_wp2_with fail
              refine CA.out.mono ?_
              rintro r u2 ⟨rfl, hA3, hbut⟩
              have H5 := Aside.intro (And.intro hA3 (And.intro (H3.out.2.1.but hbut (Nat.ne_of_gt H4.out.2.2.1)) (But.below H3.out.2.2 hbut H3.out.2.2.size HA.out.2.2.2.2.2.2)))
              clear hA3 hbut
              go_wp2
              go_roundg (gk - 1)
              case measure => omega
              case rel => exact ⟨q + 1, by omega, by simp, H5.out⟩)
          · obtain rfl : N = q := by omega
            have HL2 := HL
            clear HL
            cases back
            · go_wp2
              go_loopg [17] N (fun gk i wr => ∃ q : Nat, gk + q = N ∧ i = .int .i64 (q : Nat) ∧ Aside (Acc7 wr g (vAt tA tB V (upTo N gk)) (sAt kA kB s (upTo N gk)) ∧ Acc7 wr gb V s ∧ Below w.heap.size w wr))
              case atStart => exact ⟨0, by omega, by simp, by rw [upTo_down, vAt_rev, sAt_rev]; exact HL2.out⟩
              case round =>
                obtain ⟨q, hgq, rfl, HL⟩ := hrel
                by_cases hq : q < N
                · obtain ⟨r, rfl⟩ : ∃ r, gk = r + 1 := ⟨gk - 1, by omega⟩
                  obtain ⟨j, hj⟩ : ∃ j, j = q := ⟨_, rfl⟩
                  have hj2 : N - (r + 1) = j := by omega
                  subst hj
                  obtain ⟨b2, off2, rfl, hc2⟩ := HR.out.2.2.1.2.1.at HL.out.2.2 j (by rw [← HR.out.2.2.1.1]; have := HN.out.1; omega)
                  obtain ⟨b3, off3, rfl, hc3⟩ := HR.out.2.2.2.2.1.at HL.out.2.2 j (by rw [← HR.out.2.2.2.1]; have := HN.out.2.1; omega)
                  obtain ⟨x, hx⟩ : ∃ x, x = xs.getD j 0 := ⟨_, rfl⟩
                  obtain ⟨y, hy⟩ : ∃ y, y = ys.getD j 0 := ⟨_, rfl⟩
                  rw [← hx] at hc2
                  rw [← hy] at hc3
                  have hq2 : j < n2 := by have := HN.out.1; omega
                  have hq3 : j < n3 := by have := HN.out.2.1; omega
                  have HX := Aside.intro (And.intro (show x < 18446744073709551616 by rw [hx]; exact HR.out.2.2.1.2.2.get j) (And.intro (show y < 18446744073709551616 by rw [hy]; exact HR.out.2.2.2.2.2.get j) (And.intro (show kA j = pK y x by rw [hx, hy, pK_comm]; exact HF.out.1 j) (And.intro (show kB j = pK x 4607182418800017408 by rw [hx]; exact HF.out.2.1 j) (And.intro (show tA j = pT y x by rw [hx, hy, pT_comm]; exact HF.out.2.2.1 j) (show tB j = pT x 4607182418800017408 by rw [hx]; exact HF.out.2.2.2 j))))))
                  have HC : Aside (∀ u : World, Below w.heap.size w u → u.cell? ⟨b2, off2 + j, none⟩ = some (.float .f64 x) ∧ u.cell? ⟨b3, off3 + j, none⟩ = some (.float .f64 y)) := fun u hu => by
                    obtain ⟨b, off, e1, h1⟩ := HR.out.2.2.1.2.1.at hu j (by rw [← HR.out.2.2.1.1]; exact hq2)
                    obtain ⟨b', off', e2, h2⟩ := HR.out.2.2.2.2.1.at hu j (by rw [← HR.out.2.2.2.1]; exact hq3)
                    cases e1
                    cases e2
                    exact ⟨by rw [hx]; exact h1, by rw [hy]; exact h2⟩
                  have CT : Hid (Calls Tryd.prog 19 #[.pointer (some ⟨g, 0, none⟩), .float .f64 x] wr (Did g wr (0, vAt tA tB V (upTo N r) + tA j, (sAt kA kB s (upTo N r)).cnt (kA j) 1))) := by
                    obtain ⟨h1, h2, h3, h4⟩ := HS.out (upTo N r) (by rw [upTo_len]; have := HN.out.2.2; omega)
                    have h5 := HB5.out.2.2.1 j
                    have h5b := HB5.out.2.2.2 j
                    have h6 := QB_pos
                    have hHL : Acc7 wr g (vAt tA tB V (upTo N r) + tA j + tB j) (((sAt kA kB s (upTo N r)).cnt (kA j) 1).cnt (kB j) 1) := by
                      have h := HL.out.1
                      rw [show upTo N (r + 1) = j :: upTo N r by rw [upTo, hj2]] at h
                      exact h
                    have C := Take7 g _ _ x wr hHL (((h1.cnt _ (HB5.out.1 j)).cnt _ (HB5.out.2.1 j)).ok (by rw [cnt_a, cnt_a]; omega)) HX.out.1
                    rw [← HX.out.2.2.2.1, ← HX.out.2.2.2.2.2, drop_ok _ _ _ _ (HB5.out.2.1 j) (h1.cnt _ (HB5.out.1 j)) (by omega) (by omega)] at C
                    exact C
                  clear hx hy
                  go_wp2_with fail
                  refine CT.out.mono ?_
                  rintro r2 u1 ⟨rfl, hA3, hbut⟩
                  have hbu : Below w.heap.size w u1 := But.below HL.out.2.2 hbut HL.out.2.2.size HA.out.2.2.2.2.2.2
                  have H3 := Aside.intro (And.intro hA3 (And.intro (HL.out.2.1.but hbut (Nat.ne_of_gt H4.out.2.2.1)) hbu))
                  obtain ⟨hc4, hc5⟩ := HC.out u1 hbu
                  clear hA3 hbut hbu hc2 hc3 CT
                  have CP : Hid (Calls Tryd.prog 20 #[.pointer (some ⟨g, 0, none⟩), .float .f64 y, .float .f64 x] u1.drew (Did g u1.drew (0, vAt tA tB V (upTo N r), sAt kA kB s (upTo N r)))) := by
                    obtain ⟨h1, h2, h3, h4⟩ := HS.out (upTo N r) (by rw [upTo_len]; have := HN.out.2.2; omega)
                    have h6 := QB_pos
                    have C := TakeProduct7 g _ _ y x u1.drew H3.out.1.drew ((h1.cnt _ (HB5.out.1 j)).ok (by rw [cnt_a]; omega)) HX.out.2.1 HX.out.1
                    rw [← HX.out.2.2.1, ← HX.out.2.2.2.2.1, drop_ok _ _ _ _ (HB5.out.1 j) h1 (by omega) (by omega)] at C
                    exact C
                  have kS : Aside (u1.drew.cell? ⟨b3, off3 + j, none⟩ = some (.float .f64 y) ∧ u1.drew.cell? ⟨b2, off2 + j, none⟩ = some (.float .f64 x)) := ⟨hc5, hc4⟩
                  go_wp2
                  go_region_held (fun w' => w'.cell? ⟨b3, off3 + j, none⟩ = some (.float .f64 y) ∧ w'.cell? ⟨b2, off2 + j, none⟩ = some (.float .f64 x)) (with_reducible exact kS.out) (first
                    | (go_at_call 20
                       with_reducible refine CP.out.mono ?_
                       rintro r u ⟨rfl, hA3, hbut⟩
                       have hbu : Below w.heap.size w u := But.below H3.out.2.2.drew hbut H3.out.2.2.size HA.out.2.2.2.2.2.2
                       have kS := Aside.intro (And.symm (HC.out u hbu))
                       have H5 := Aside.intro (And.intro hA3 (And.intro (H3.out.2.1.drew.but hbut (Nat.ne_of_gt H4.out.2.2.1)) hbu))
                       clear hA3 hbut hbu))
                  go_wp2
                  go_roundg r
                  case measure => omega
                  case rel => exact ⟨j + 1, by omega, by simp, H5.out⟩
                · obtain rfl : N = q := by omega
                  obtain rfl : gk = 0 := by omega
                  have H6 : Aside (Acc7 wr g V s ∧ Acc7 wr gb V s ∧ Below w.heap.size w wr) := HL.out
                  go_wp2_with fail
                  refine (Exact7 g V s wr H6.out.1 (HR.out.1.belows H6.out.2.2)).mono ?_
                  rintro r w5 ⟨v5, rfl, N5, hb5⟩
                  have H7 := Aside.intro (And.intro N5 (And.intro hb5 (H6.out.2.2.trans (hb5.mono H6.out.2.2.size))))
                  clear N5 hb5
                  go_wp2_with fail
                  refine (Exact7 gb V s w5 (H6.out.2.1.bel H7.out.2.1) (HR.out.1.belows H7.out.2.2)).mono ?_
                  rintro r w6 ⟨v6, rfl, N6, hb6⟩
                  have hVb : -(HB : Int) < V ∧ V < (HB : Int) := by obtain ⟨L, _, _, _, h1, h2, _⟩ := H6.out.1; exact ⟨h1, h2⟩
                  obtain ⟨d6, c6, rfl, A6⟩ := N6.arg (Nat.le_trans (dX_small hVb.1 hVb.2) (by decide))
                  obtain ⟨d5, c5, rfl, A5⟩ := (H7.out.1.below hb6).arg (Nat.le_trans (dX_small hVb.1 hVb.2) (by decide))
                  have HSm := hid (rSame3_any (dN (exV V)) (dE (exV V)) (ws (dX (exV V))) d5 d6 (ws (dX (exV V))).length c5 c6 w6 rfl (Nat.le_trans A6.big (by decide)) A5.rd A6.rd)
                  have H8 := Aside.intro (H7.out.2.2.trans (hb6.mono H7.out.2.2.size))
                  have H9 := Aside.intro (And.intro ((H6.out.1.bel H7.out.2.1).bel hb6) ((H6.out.2.1.bel H7.out.2.1).bel hb6))
                  clear N6 hb6 A5 A6 hVb
                  go_wp2_with fail
                  refine HSm.out.mono ?_
                  rintro r w7 ⟨rfl, hb7⟩
                  have H10 := Aside.intro (And.intro (H9.out.1.bel hb7) (And.intro (H9.out.2.bel hb7) (H8.out.trans (hb7.mono H8.out.size))))
                  clear hb7
                  obtain ⟨sn, su, sd, sm, sp, sa⟩ := s
                  go_wp2_with fail
                  have CS := Specials7 g V _ w7 H10.out.1
                  simp only [Sp.agg] at CS
                  refine CS.mono ?_
                  rintro r w8 ⟨rfl, hb8⟩
                  have H11 := Aside.intro (And.intro (H10.out.2.1.bel hb8) (H10.out.2.2.trans (hb8.mono H10.out.2.2.size)))
                  clear hb8 CS
                  go_wp2_with fail
                  have CS := Specials7 gb V _ w8 H11.out.1
                  simp only [Sp.agg] at CS
                  refine CS.mono ?_
                  rintro r w9 ⟨rfl, hb9⟩
                  have H12 := Aside.intro (H11.out.2.trans (hb9.mono H11.out.2.size))
                  clear hb9 CS
                  go_wp2
                  go_ret
                  exact ⟨rfl, H12.out⟩

            · go_wp2
              go_loopg [17] N (fun gk i wr => ∃ q : Nat, gk + q = N ∧ i = .int .i64 (q : Nat) ∧ Aside (Acc7 wr g (vAt tA tB V (down gk)) (sAt kA kB s (down gk)) ∧ Acc7 wr gb V s ∧ Below w.heap.size w wr))
              case atStart => exact ⟨0, by omega, by simp, HL2.out⟩
              case round =>
                obtain ⟨q, hgq, rfl, HL⟩ := hrel
                by_cases hq : q < N
                · obtain ⟨r, rfl⟩ : ∃ r, gk = r + 1 := ⟨gk - 1, by omega⟩
                  obtain ⟨j, hj⟩ : ∃ j, j = r := ⟨_, rfl⟩
                  have hji : (N : Int) - 1 - (q : Int) = (j : Int) := by omega
                  subst hj
                  obtain ⟨b2, off2, rfl, hc2⟩ := HR.out.2.2.1.2.1.at HL.out.2.2 j (by rw [← HR.out.2.2.1.1]; have := HN.out.1; omega)
                  obtain ⟨b3, off3, rfl, hc3⟩ := HR.out.2.2.2.2.1.at HL.out.2.2 j (by rw [← HR.out.2.2.2.1]; have := HN.out.2.1; omega)
                  obtain ⟨x, hx⟩ : ∃ x, x = xs.getD j 0 := ⟨_, rfl⟩
                  obtain ⟨y, hy⟩ : ∃ y, y = ys.getD j 0 := ⟨_, rfl⟩
                  rw [← hx] at hc2
                  rw [← hy] at hc3
                  have hq2 : j < n2 := by have := HN.out.1; omega
                  have hq3 : j < n3 := by have := HN.out.2.1; omega
                  have HX := Aside.intro (And.intro (show x < 18446744073709551616 by rw [hx]; exact HR.out.2.2.1.2.2.get j) (And.intro (show y < 18446744073709551616 by rw [hy]; exact HR.out.2.2.2.2.2.get j) (And.intro (show kA j = pK y x by rw [hx, hy, pK_comm]; exact HF.out.1 j) (And.intro (show kB j = pK x 4607182418800017408 by rw [hx]; exact HF.out.2.1 j) (And.intro (show tA j = pT y x by rw [hx, hy, pT_comm]; exact HF.out.2.2.1 j) (show tB j = pT x 4607182418800017408 by rw [hx]; exact HF.out.2.2.2 j))))))
                  have HC : Aside (∀ u : World, Below w.heap.size w u → u.cell? ⟨b2, off2 + j, none⟩ = some (.float .f64 x) ∧ u.cell? ⟨b3, off3 + j, none⟩ = some (.float .f64 y)) := fun u hu => by
                    obtain ⟨b, off, e1, h1⟩ := HR.out.2.2.1.2.1.at hu j (by rw [← HR.out.2.2.1.1]; exact hq2)
                    obtain ⟨b', off', e2, h2⟩ := HR.out.2.2.2.2.1.at hu j (by rw [← HR.out.2.2.2.1]; exact hq3)
                    cases e1
                    cases e2
                    exact ⟨by rw [hx]; exact h1, by rw [hy]; exact h2⟩
                  have CT : Hid (Calls Tryd.prog 19 #[.pointer (some ⟨g, 0, none⟩), .float .f64 x] wr (Did g wr (0, vAt tA tB V (down j) + tA j, (sAt kA kB s (down j)).cnt (kA j) 1))) := by
                    obtain ⟨h1, h2, h3, h4⟩ := HS.out (down j) (by rw [down_len]; have := HN.out.2.2; omega)
                    have h5 := HB5.out.2.2.1 j
                    have h5b := HB5.out.2.2.2 j
                    have h6 := QB_pos
                    have hHL : Acc7 wr g (vAt tA tB V (down j) + tA j + tB j) (((sAt kA kB s (down j)).cnt (kA j) 1).cnt (kB j) 1) := HL.out.1
                    have C := Take7 g _ _ x wr hHL (((h1.cnt _ (HB5.out.1 j)).cnt _ (HB5.out.2.1 j)).ok (by rw [cnt_a, cnt_a]; omega)) HX.out.1
                    rw [← HX.out.2.2.2.1, ← HX.out.2.2.2.2.2, drop_ok _ _ _ _ (HB5.out.2.1 j) (h1.cnt _ (HB5.out.1 j)) (by omega) (by omega)] at C
                    exact C
                  clear hx hy
                  go_wp2_with fail
                  refine CT.out.mono ?_
                  rintro r2 u1 ⟨rfl, hA3, hbut⟩
                  have hbu : Below w.heap.size w u1 := But.below HL.out.2.2 hbut HL.out.2.2.size HA.out.2.2.2.2.2.2
                  have H3 := Aside.intro (And.intro hA3 (And.intro (HL.out.2.1.but hbut (Nat.ne_of_gt H4.out.2.2.1)) hbu))
                  obtain ⟨hc4, hc5⟩ := HC.out u1 hbu
                  clear hA3 hbut hbu hc2 hc3 CT
                  have CP : Hid (Calls Tryd.prog 20 #[.pointer (some ⟨g, 0, none⟩), .float .f64 y, .float .f64 x] u1.drew (Did g u1.drew (0, vAt tA tB V (down j), sAt kA kB s (down j)))) := by
                    obtain ⟨h1, h2, h3, h4⟩ := HS.out (down j) (by rw [down_len]; have := HN.out.2.2; omega)
                    have h6 := QB_pos
                    have C := TakeProduct7 g _ _ y x u1.drew H3.out.1.drew ((h1.cnt _ (HB5.out.1 j)).ok (by rw [cnt_a]; omega)) HX.out.2.1 HX.out.1
                    rw [← HX.out.2.2.1, ← HX.out.2.2.2.2.1, drop_ok _ _ _ _ (HB5.out.1 j) h1 (by omega) (by omega)] at C
                    exact C
                  have kS : Aside (u1.drew.cell? ⟨b3, off3 + j, none⟩ = some (.float .f64 y) ∧ u1.drew.cell? ⟨b2, off2 + j, none⟩ = some (.float .f64 x)) := ⟨hc5, hc4⟩
                  go_wp2
                  go_region_held (fun w' => w'.cell? ⟨b3, off3 + j, none⟩ = some (.float .f64 y) ∧ w'.cell? ⟨b2, off2 + j, none⟩ = some (.float .f64 x)) (with_reducible exact kS.out) (first
                    | (go_at_call 20
                       with_reducible refine CP.out.mono ?_
                       rintro r u ⟨rfl, hA3, hbut⟩
                       have hbu : Below w.heap.size w u := But.below H3.out.2.2.drew hbut H3.out.2.2.size HA.out.2.2.2.2.2.2
                       have kS := Aside.intro (And.symm (HC.out u hbu))
                       have H5 := Aside.intro (And.intro hA3 (And.intro (H3.out.2.1.drew.but hbut (Nat.ne_of_gt H4.out.2.2.1)) hbu))
                       clear hA3 hbut hbu))
                  go_wp2
                  go_roundg j
                  case measure => omega
                  case rel => exact ⟨q + 1, by omega, by simp, H5.out⟩
                · obtain rfl : N = q := by omega
                  obtain rfl : gk = 0 := by omega
                  have H6 : Aside (Acc7 wr g V s ∧ Acc7 wr gb V s ∧ Below w.heap.size w wr) := HL.out
                  go_wp2_with fail
                  refine (Exact7 g V s wr H6.out.1 (HR.out.1.belows H6.out.2.2)).mono ?_
                  rintro r w5 ⟨v5, rfl, N5, hb5⟩
                  have H7 := Aside.intro (And.intro N5 (And.intro hb5 (H6.out.2.2.trans (hb5.mono H6.out.2.2.size))))
                  clear N5 hb5
                  go_wp2_with fail
                  refine (Exact7 gb V s w5 (H6.out.2.1.bel H7.out.2.1) (HR.out.1.belows H7.out.2.2)).mono ?_
                  rintro r w6 ⟨v6, rfl, N6, hb6⟩
                  have hVb : -(HB : Int) < V ∧ V < (HB : Int) := by obtain ⟨L, _, _, _, h1, h2, _⟩ := H6.out.1; exact ⟨h1, h2⟩
                  obtain ⟨d6, c6, rfl, A6⟩ := N6.arg (Nat.le_trans (dX_small hVb.1 hVb.2) (by decide))
                  obtain ⟨d5, c5, rfl, A5⟩ := (H7.out.1.below hb6).arg (Nat.le_trans (dX_small hVb.1 hVb.2) (by decide))
                  have HSm := hid (rSame3_any (dN (exV V)) (dE (exV V)) (ws (dX (exV V))) d5 d6 (ws (dX (exV V))).length c5 c6 w6 rfl (Nat.le_trans A6.big (by decide)) A5.rd A6.rd)
                  have H8 := Aside.intro (H7.out.2.2.trans (hb6.mono H7.out.2.2.size))
                  have H9 := Aside.intro (And.intro ((H6.out.1.bel H7.out.2.1).bel hb6) ((H6.out.2.1.bel H7.out.2.1).bel hb6))
                  clear N6 hb6 A5 A6 hVb
                  go_wp2_with fail
                  refine HSm.out.mono ?_
                  rintro r w7 ⟨rfl, hb7⟩
                  have H10 := Aside.intro (And.intro (H9.out.1.bel hb7) (And.intro (H9.out.2.bel hb7) (H8.out.trans (hb7.mono H8.out.size))))
                  clear hb7
                  obtain ⟨sn, su, sd, sm, sp, sa⟩ := s
                  go_wp2_with fail
                  have CS := Specials7 g V _ w7 H10.out.1
                  simp only [Sp.agg] at CS
                  refine CS.mono ?_
                  rintro r w8 ⟨rfl, hb8⟩
                  have H11 := Aside.intro (And.intro (H10.out.2.1.bel hb8) (H10.out.2.2.trans (hb8.mono H10.out.2.2.size)))
                  clear hb8 CS
                  go_wp2_with fail
                  have CS := Specials7 gb V _ w8 H11.out.1
                  simp only [Sp.agg] at CS
                  refine CS.mono ?_
                  rintro r w9 ⟨rfl, hb9⟩
                  have H12 := Aside.intro (H11.out.2.trans (hb9.mono H11.out.2.size))
                  clear hb9 CS
                  go_wp2
                  go_ret
                  exact ⟨rfl, H12.out⟩)
end Go.Proofs.YtmlmgfodkehenaaDoor

/- Products in any order and grouping: the law's loops. -/
namespace Go.Proofs.YtmlmgfodkehenaaDoor
open Go.RowKit
set_option linter.unusedVariables false
set_option maxRecDepth 20000
set_option linter.unusedSimpArgs false

/-- Where the law stands: the three accumulators, the row of what is left. -/
structure Ord7 (w : World) (g1 g2 g3 lo : Nat) (wr : World) (V1 V2 V3 : Int) (s1 s2 s3 : Sp) (v : Value) (R : List Nat) : Prop where
  a1 : Acc7 wr g1 V1 s1
  a2 : Acc7 wr g2 V2 s2
  a3 : Acc7 wr g3 V3 s3
  row : Ri lo wr v R
  bel : Below w.heap.size w wr
  rm : lo ≤ wr.heap.size
  o0 : w.heap.size ≤ g1
  o1 : g1 < g2
  o2 : g2 < g3
  o3 : g3 < lo
theorem Ord7.drew {w wr : World} {g1 g2 g3 lo : Nat} {V1 V2 V3 : Int} {s1 s2 s3 : Sp} {v : Value} {R : List Nat} (h : Ord7 w g1 g2 g3 lo wr V1 V2 V3 s1 s2 s3 v R) : Ord7 w g1 g2 g3 lo wr.drew V1 V2 V3 s1 s2 s3 v R :=
  ⟨h.a1.drew7, h.a2.drew7, h.a3.drew7, h.row.drew, h.bel.drew, h.rm, h.o0, h.o1, h.o2, h.o3⟩
theorem Ord7.row' {w wr u : World} {g1 g2 g3 lo : Nat} {V1 V2 V3 : Int} {s1 s2 s3 : Sp} {v v' : Value} {R R' : List Nat} {rw' : Option Nat} (h : Ord7 w g1 g2 g3 lo wr V1 V2 V3 s1 s2 s3 v R) (hg : wr.grownBy u rw') (hr : ∀ k, rw' = some k → lo ≤ k) (h' : Ri lo u v' R') : Ord7 w g1 g2 g3 lo u V1 V2 V3 s1 s2 s3 v' R' := by
  have n : ∀ g, g < lo → some g ≠ rw' := fun g hlt e => by have := hr g e.symm; omega
  have := h.o1; have := h.o2; have := h.o3; have := h.o0
  exact ⟨h.a1.grown hg (n _ (by omega)), h.a2.grown hg (n _ (by omega)), h.a3.grown hg (n _ h.o3), h', h.bel.grown hg (by have := h.rm; omega) (fun k e => by have := hr k e; omega), Nat.le_trans h.rm hg.size, h.o0, h.o1, h.o2, h.o3⟩
theorem Ord7.new1 {w wr u : World} {g1 g2 g3 lo : Nat} {V1 V2 V3 V : Int} {s1 s2 s3 s : Sp} {v : Value} {R : List Nat} (h : Ord7 w g1 g2 g3 lo wr V1 V2 V3 s1 s2 s3 v R) (hA : Acc7 u g1 V s) (hb : But g1 wr u) : Ord7 w g1 g2 g3 lo u V V2 V3 s s2 s3 v R := by
  have := h.o1; have := h.o2; have := h.o3; have := h.o0; have := h.rm
  exact ⟨hA, h.a2.but hb (by omega), h.a3.but hb (by omega), h.row.but hb (by omega), But.below h.bel hb (by omega) (by omega), Nat.le_trans h.rm hb.size, h.o0, h.o1, h.o2, h.o3⟩
theorem Ord7.new2 {w wr u : World} {g1 g2 g3 lo : Nat} {V1 V2 V3 V : Int} {s1 s2 s3 s : Sp} {v : Value} {R : List Nat} (h : Ord7 w g1 g2 g3 lo wr V1 V2 V3 s1 s2 s3 v R) (hA : Acc7 u g2 V s) (hb : But g2 wr u) : Ord7 w g1 g2 g3 lo u V1 V V3 s1 s s3 v R := by
  have := h.o1; have := h.o2; have := h.o3; have := h.o0; have := h.rm
  exact ⟨h.a1.but hb (by omega), hA, h.a3.but hb (by omega), h.row.but hb (by omega), But.below h.bel hb (by omega) (by omega), Nat.le_trans h.rm hb.size, h.o0, h.o1, h.o2, h.o3⟩
theorem Ord7.new3 {w wr u : World} {g1 g2 g3 lo : Nat} {V1 V2 V3 V : Int} {s1 s2 s3 s : Sp} {v : Value} {R : List Nat} (h : Ord7 w g1 g2 g3 lo wr V1 V2 V3 s1 s2 s3 v R) (hA : Acc7 u g3 V s) (hb : But g3 wr u) : Ord7 w g1 g2 g3 lo u V1 V2 V s1 s2 s v R := by
  have := h.o1; have := h.o2; have := h.o3; have := h.o0; have := h.rm
  exact ⟨h.a1.but hb (by omega), h.a2.but hb (by omega), hA, h.row.but hb (by omega), But.below h.bel hb (by omega) (by omega), Nat.le_trans h.rm hb.size, h.o0, h.o1, h.o2, h.o3⟩

theorem Ri.shape0 {lo : Nat} {w : World} {v : Value} (h : Ri lo w v []) : ∃ ao cap, v = .slice ao 0 cap := by
  rcases h.2 with ⟨h1, _⟩ | ⟨g, cap, cur, h1, _⟩
  · exact ⟨none, 0, h1⟩
  · exact ⟨_, cap, h1⟩

set_option maxHeartbeats 8000000 in
theorem walk_SuperOrder (xs ys : List Nat) (os : List Int) (a1 a2 a3 : Option Addr) (n1 n2 n3 c1 c2 c3 : Nat) (cut : Int) (w : World) (hT : Tab w)
    (e1 : n1 = xs.length) (e2 : n2 = ys.length) (e3 : n3 = os.length) (f1 : Fs w.heap.size w a1 xs) (f2 : Fs w.heap.size w a2 ys) (f3 : Is7 w.heap.size w a3 os) (k1 : W64 xs) (k2 : W64 ys) (k3 : I64 os)
    (m1 : n1 ≤ 4611686018427387904) (m2 : n2 ≤ 4611686018427387904) (m3 : n3 ≤ 4611686018427387904) (h0 : -9223372036854775808 ≤ cut) (h1 : cut ≤ 9223372036854775807) :
    Calls Tryd.prog 4 #[.slice a1 n1 c1, .slice a2 n2 c2, .slice a3 n3 c3, .int .i64 cut] w fun r w' => r = .returned (.bool true) ∧ Below w.heap.size w w' := by
  have HR := Aside.intro (And.intro hT (And.intro (And.intro e1 (And.intro f1 k1)) (And.intro (And.intro e2 (And.intro f2 k2)) (And.intro e3 (And.intro f3 k3)))))
  clear hT e1 e2 e3 f1 f2 f3 k1 k2 k3
  obtain ⟨M, hM⟩ : ∃ M : Nat, M = min n1 n2 := ⟨_, rfl⟩
  obtain ⟨N, hN⟩ : ∃ N : Nat, N = min M 200 := ⟨_, rfl⟩
  have eM : (if n2 < n1 then (n2 : Int) else (n1 : Int)) = (M : Int) := by split <;> omega
  have eN : (if (M : Int) ≤ 200 then (M : Int) else 200) = (N : Int) := by split <;> omega
  have eN2 : (if 200 < (M : Int) then 200 else (M : Int)) = (N : Int) := by split <;> omega
  have HN := Aside.intro (show N ≤ n1 ∧ N ≤ n2 ∧ N ≤ 200 by omega)
  have hN2 : N ≤ 200 := by omega
  clear hN hM
  obtain ⟨kA, hkA⟩ : ∃ f : Nat → Nat, ∀ j, f j = pK (xs.getD j 0) (ys.getD j 0) := ⟨_, fun _ => rfl⟩
  obtain ⟨tA, htA⟩ : ∃ f : Nat → Int, ∀ j, f j = pT (xs.getD j 0) (ys.getD j 0) := ⟨_, fun _ => rfl⟩
  have HF := Aside.intro (And.intro hkA htA)
  have hA5 : ∀ j, kA j ≤ 5 := fun j => by rw [hkA]; exact pk_le _ _ _
  have tAb : ∀ j, -(QB : Int) ≤ tA j ∧ tA j ≤ (QB : Int) := fun j => by rw [htA]; exact pT_small _ _ (HR.out.2.1.2.2.get j) (HR.out.2.2.1.2.2.get j)
  have HS : Aside (∀ L : List Nat, L.length ≤ 400 → (s1 kA L).pos ∧ (s1 kA L).a = L.length ∧ -(HB : Int) + 3 * QB < v1 tA L ∧ v1 tA L < (HB : Int) - 3 * QB) := fun L hL => by
    obtain ⟨h1, h2⟩ := s1_pos kA hA5 L
    obtain ⟨h3, h4⟩ := v1_bound tA QB tAb L
    have h8 : (L.length : Int) * QB ≤ 400 * QB := Int.mul_le_mul_of_nonneg_right (by omega) (by omega)
    have hq := QB_HB
    have hqp := QB_pos
    exact ⟨h1, h2, by omega, by omega⟩
  have HB5 := Aside.intro (And.intro hA5 tAb)
  clear hkA htA hA5 tAb
  go_enter Tryd.func4, Tryd.ntmps4
  go_wp2_with fail
  refine (live7 w HR.out.1).mono ?_
  rintro r w1 ⟨rfl, hb⟩
  have B1 := Aside.intro hb
  clear hb
  go_wp2_with fail
  refine (New7 w1).mono ?_
  rintro r w2 ⟨rfl, hA, hb⟩
  have B2 := Aside.intro (And.intro hA hb)
  clear hA hb
  go_wp2_with fail
  refine (New7 w2).mono ?_
  rintro r w3 ⟨rfl, hA, hb⟩
  have B3 := Aside.intro (And.intro hA hb)
  clear hA hb
  go_wp2_with fail
  refine (New7 w3).mono ?_
  rintro r w4 ⟨rfl, hA, hb⟩
  have B4 := Aside.intro (And.intro hA hb)
  clear hA hb
  obtain ⟨g1, hg1⟩ : ∃ g, g = w1.heap.size := ⟨_, rfl⟩
  obtain ⟨g2, hg2⟩ : ∃ g, g = w2.heap.size := ⟨_, rfl⟩
  obtain ⟨g3, hg3⟩ : ∃ g, g = w3.heap.size := ⟨_, rfl⟩
  rw [← hg1] at B2 ⊢
  rw [← hg2] at B3 ⊢
  rw [← hg3] at B4 ⊢
  have S0 : Aside (Ord7 w g1 g2 g3 w4.heap.size w4 0 0 0 Sp.nil7 Sp.nil7 Sp.nil7 (.slice none 0 0) []) := by
    have l2 := B2.out.1.lt
    have l3 := B3.out.1.lt
    have l4 := B4.out.1.lt
    have z1 := B1.out.size
    have b12 := B1.out.trans (B2.out.2.mono (by omega))
    have b13 := b12.trans (B3.out.2.mono (by omega))
    have b14 := b13.trans (B4.out.2.mono (by omega))
    exact ⟨(B2.out.1.below B3.out.2 (by omega)).below B4.out.2 (by have := B3.out.2.size; omega), B3.out.1.below B4.out.2 (by omega), B4.out.1, Ri.nil _ _, b14, Nat.le_refl _, by omega, by omega, by omega, by omega⟩
  clear hg1 hg2 hg3 B1 B2 B3 B4
  obtain ⟨lo, hlo⟩ : ∃ lo, lo = w4.heap.size := ⟨_, rfl⟩
  rw [← hlo] at S0
  clear hlo
  go_wp2
  go_loopg [14, 15] N (fun gk vr i wr => ∃ q : Nat, gk + q = N ∧ i = .int .i64 (q : Nat) ∧ Aside (Ord7 w g1 g2 g3 lo wr (v1 tA (down q)) 0 0 (s1 kA (down q)) Sp.nil7 Sp.nil7 vr (List.range q)))
  case atStart => exact ⟨0, by omega, by simp, S0.out⟩
  case round =>
    obtain ⟨q, hgq, rfl, HL⟩ := hrel
    by_cases hq : q < N
    · obtain ⟨va, wa, hrun, hRa, hga⟩ := append_ints (wr.alloc (Obj.cells #[.int .i64 (q : Nat)] 3)) lo u14 (List.range q) [q] (some ⟨wr.heap.size, 0, none⟩) 1 1 34 (HL.out.row.alloc _) rfl
        (fun _ => ⟨wr.heap.size, 0, rfl, fun i hi => by
          obtain rfl : i = 0 := by simp at hi; omega
          exact (Bl.new wr 3 [.int .i64 (q : Nat)]).cell 0 _ rfl⟩) (by simp) (by simp; omega) (by have := HL.out.rm; simp; omega)
      have HA1 : Aside (Ord7 w g1 g2 g3 lo wa (v1 tA (down q)) 0 0 (s1 kA (down q)) Sp.nil7 Sp.nil7 va (List.range (q + 1))) := by
        rw [List.range_succ]
        have h1 : wr.grownBy (wr.alloc (Obj.cells #[.int .i64 (q : Nat)] 3)) none := World.grownBy_alloc _ _ _
        have h2 := HL.out.row' h1 (fun k e => by cases e) (HL.out.row.alloc _)
        exact h2.row' hga (fun k e => (HL.out.row.lt k e).1) hRa
      clear hga hRa
      obtain ⟨b2, off2, rfl, hc2⟩ := HR.out.2.1.2.1.at HA1.out.bel q (by rw [← HR.out.2.1.1]; have := HN.out.1; omega)
      obtain ⟨b3, off3, rfl, hc3⟩ := HR.out.2.2.1.2.1.at HA1.out.bel q (by rw [← HR.out.2.2.1.1]; have := HN.out.2.1; omega)
      obtain ⟨x, hx⟩ : ∃ x, x = xs.getD q 0 := ⟨_, rfl⟩
      obtain ⟨y, hy⟩ : ∃ y, y = ys.getD q 0 := ⟨_, rfl⟩
      rw [← hx] at hc2
      rw [← hy] at hc3
      have hq2 : q < n1 := by have := HN.out.1; omega
      have hq3 : q < n2 := by have := HN.out.2.1; omega
      have CP : Hid (Calls Tryd.prog 11 #[.pointer (some ⟨g1, 0, none⟩), .float .f64 x, .float .f64 y] wa.drew (Did g1 wa.drew (0, v1 tA (down (q + 1)), s1 kA (down (q + 1))))) := by
        obtain ⟨h1, h2, h3, h4⟩ := HS.out (down q) (by rw [down_len]; omega)
        have h5 := HB5.out.2 q
        have h6 := QB_pos
        have C := AddProduct7 g1 _ _ x y wa.drew HA1.out.a1.drew7 (h1.ok (by rw [h2, down_len]; omega)) (by rw [hx]; exact HR.out.2.1.2.2.get q) (by rw [hy]; exact HR.out.2.2.1.2.2.get q)
        rw [hx, hy, ← HF.out.1, ← HF.out.2, put_ok _ _ _ _ (by omega) (by omega) (by rw [h2, down_len]; omega)] at C
        rw [hx, hy]
        exact C
      have HC : Aside (∀ u : World, Below w.heap.size w u → u.cell? ⟨b2, off2 + q, none⟩ = some (.float .f64 x) ∧ u.cell? ⟨b3, off3 + q, none⟩ = some (.float .f64 y)) := fun u hu => by
        obtain ⟨b, off, e1, h1⟩ := HR.out.2.1.2.1.at hu q (by rw [← HR.out.2.1.1]; exact hq2)
        obtain ⟨b', off', e2, h2⟩ := HR.out.2.2.1.2.1.at hu q (by rw [← HR.out.2.2.1.1]; exact hq3)
        cases e1
        cases e2
        exact ⟨by rw [hx]; exact h1, by rw [hy]; exact h2⟩
      have kS : Aside (wa.drew.cell? ⟨b2, off2 + q, none⟩ = some (.float .f64 x) ∧ wa.drew.cell? ⟨b3, off3 + q, none⟩ = some (.float .f64 y)) := ⟨hc2, hc3⟩
      clear hx hy
      have HRun := Aside.intro hrun
      clear hrun
      go_wp2_with (at_builtin; refine wpList_append_int rfl _ _ rfl _ _ rfl rfl va wa HRun.out ?_)
      go_region_held (fun w' => w'.cell? ⟨b2, off2 + q, none⟩ = some (.float .f64 x) ∧ w'.cell? ⟨b3, off3 + q, none⟩ = some (.float .f64 y)) (with_reducible exact kS.out) (first
        | (go_at_call 11
           with_reducible refine CP.out.mono ?_
           rintro r u ⟨rfl, hA3, hbut⟩
           have H3 := Aside.intro (HA1.out.drew.new1 hA3 hbut)
           have kS := Aside.intro (HC.out u H3.out.bel)
           clear hA3 hbut))
      go_wp2
      go_roundg (gk - 1)
      case measure => omega
      case rel => exact ⟨q + 1, by omega, by simp, H3.out⟩
    · obtain rfl : N = q := by omega
      clear eM eN eN2
      go_wp2
      go_loopg [14, 16] N (fun gk vr i wr => ∃ (q : Nat) (A C R : List Nat), gk = R.length ∧ q + R.length = N ∧ i = .int .i64 (q : Nat) ∧ Aside (Pm N A C R ∧ Ord7 w g1 g2 g3 lo wr (v1 tA (down N)) (v1 tA A) (v1 tA C) (s1 kA (down N)) (s1 kA A) (s1 kA C) vr R))
      case atStart => exact ⟨0, [], [], List.range N, by simp, by simp, by simp, Pm.start N, HL.out⟩
      case round =>
        clear HL
        obtain ⟨q, A, C, R, hgR, hqR, rfl, HL⟩ := hrel
        by_cases hR : 0 < R.length
        · obtain ⟨gR, cap, rfl, hgl, hgh, hcap, hmx, hcells⟩ := HL.out.2.row.shape hR
          have HPm := Aside.intro HL.out.1
          have hl200 : R.length ≤ 200 := by omega
          have hcmax : cap ≤ 9223372036854775807 := by unfold maxLen at hmx; omega
          by_cases ho : q < n3
          · obtain ⟨b4, off4, rfl, hc4⟩ := HR.out.2.2.2.2.1.at HL.out.2.bel q (by rw [← HR.out.2.2.2.1]; exact ho)
            have hob := HR.out.2.2.2.2.2 q
            obtain ⟨oq, hoq⟩ : ∃ z, z = os.getD q 0 := ⟨_, rfl⟩
            rw [← hoq] at hc4 hob
            clear hoq
            have HCE := Aside.intro hcells
            clear hcells
            go_wp2_with fail
            refine (pick7 oq R.length wr hob.1 hob.2 hR (by omega)).mono ?_
            rintro r u ⟨p, rfl, hp, rfl⟩
            have hcells := HCE.out
            obtain ⟨j, hj⟩ : ∃ j, j = R.getD p 0 := ⟨_, rfl⟩
            have hcj : u.cell? ⟨gR, p, none⟩ = some (.int .i64 (j : Nat)) := by rw [hj]; exact hcells p hp
            obtain ⟨v2, W2, hrun1, hR2, hgr1⟩ := append_ints (u.drew.alloc (Obj.cells #[] 3)) lo (.slice (some ⟨u.heap.size, 0, none⟩) 0 0) [] (R.take p) (some ⟨gR, 0, none⟩) p cap 34 (World.ownsRow_made u.drew #[] 0 HL.out.2.rm (Nat.zero_le _) (by simp)) (by simp; omega)
              (fun _ => ⟨gR, 0, rfl, fun i hi => by
                have hi2 : i < p := by simp at hi; omega
                rw [Nat.zero_add, show (R.take p).getD i 0 = R.getD i 0 by rw [List.getD_eq_getElem?_getD, List.getD_eq_getElem?_getD, List.getElem?_take, if_pos hi2]]
                exact Lib.cell?_alloc_some _ (hcells i (by omega))⟩) (by simp) (by simp; have := HPm.out.len; omega) (by have := HL.out.2.rm; simp; omega)
            have hWc : ∀ i, i < R.length → W2.cell? ⟨gR, i, none⟩ = some (.int .i64 ((R.getD i 0 : Nat) : Int)) := fun i hi => hgr1.cell (Lib.cell?_alloc_some _ (hcells i hi)) (by simp [Value.ownBlock]; omega)
            obtain ⟨ao2, hao2⟩ : ∃ a : Option Addr, a = if cap = p + 1 then some ⟨gR, 0, none⟩ else some ⟨gR, p + 1, none⟩ := ⟨_, rfl⟩
            obtain ⟨v3, W3, hrun2, hR3, hgr2⟩ := append_ints W2 lo v2 ([] ++ R.take p) (R.drop (p + 1)) ao2 (R.length - (p + 1)) (cap - (p + 1)) 34 hR2 (by simp)
              (fun hne => ⟨gR, p + 1, by rw [hao2, if_neg (fun e => hne (List.drop_eq_nil_of_le (by omega)))], fun i hi => by
                have hi2 : p + 1 + i < R.length := by simp at hi; omega
                rw [show (R.drop (p + 1)).getD i 0 = R.getD (p + 1 + i) 0 by rw [List.getD_eq_getElem?_getD, List.getD_eq_getElem?_getD, List.getElem?_drop]]
                exact hWc _ hi2⟩) (by rw [hao2]; split <;> simp) (by simp; have := HPm.out.len; omega) (Nat.le_trans (Nat.le_trans HL.out.2.rm (by simp)) hgr1.size)
            have HW3 : Aside (Ord7 w g1 g2 g3 lo W3 (v1 tA (down N)) (v1 tA A) (v1 tA C) (s1 kA (down N)) (s1 kA A) (s1 kA C) v3 (R.take p ++ R.drop (p + 1))) := by
              have q1 := HL.out.2.drew.row' (World.grownBy_alloc u.drew (Obj.cells #[] 3) none) (fun k e => by cases e) ((HL.out.2.row.drew).alloc _)
              have q2 := q1.row' hgr1 (fun k e => by simp [Value.ownBlock] at e; have := HL.out.2.rm; omega) hR2
              have q3 := q2.row' hgr2 (fun k e => (hR2.lt k e).1) hR3
              rw [List.nil_append] at q3
              exact q3
            have HJ := Aside.intro (And.intro hj (And.intro hrun1 hrun2))
            have hu : IntKind.i64.wrap ((p : Int) + 1) = ((p + 1 : Nat) : Int) := by rw [IntKind.wrap_i64]; omega
            have hif : (if cap = p + 1 then (some ⟨gR, 0, none⟩ : Option Addr) else some ⟨gR, p + 1, none⟩) = ao2 := hao2.symm
            have hpc : p ≤ cap := by omega
            have hp1 : p + 1 ≤ R.length := by omega
            have hb0 : (0 : Int) ≤ (p : Int) + 1 := by omega
            have hb1 : (p : Int) + 1 ≤ (R.length : Int) := by omega
            have hjN : j < N := by rw [hj]; exact HPm.out.lt p hp
            clear hj hrun1 hrun2 hR2 hR3 hgr1 hgr2 hWc hcells hao2
            go_wp2
            refine until_region (fun _ => True) 11 (by kernel_rfl) ?_
            refine until_take (i := 1) [] (v := ?_) rfl (by kernel_rfl) (by kernel_rfl) (by kernel_rfl) (by kernel_rfl) (by kernel_rfl) (fun _ _ _ h => h) (Or.inl ⟨by rfl, ?_⟩) trivial ?_
            rotate_left
            · intro u hSu
              first | (go_simp; done) | (go_simp; with_reducible rfl)
            try simp only [Act.put, List.setIfInBounds_toArray, List.set_cons_zero, List.set_cons_succ]
            refine until_take (i := 2) [] (v := ?_) rfl (by kernel_rfl) (by kernel_rfl) (by kernel_rfl) (by kernel_rfl) (by kernel_rfl) (fun _ _ _ h => h) (Or.inl ⟨by rfl, ?_⟩) trivial ?_
            rotate_left
            · intro u hSu
              first | (go_simp; done) | (go_simp; with_reducible rfl)
            try simp only [Act.put, List.setIfInBounds_toArray, List.set_cons_zero, List.set_cons_succ]
            refine until_take (i := 3) [] (v := ?_) rfl (by kernel_rfl) (by kernel_rfl) (by kernel_rfl) (by kernel_rfl) (by kernel_rfl) (fun _ _ _ h => h) (Or.inl ⟨by rfl, ?_⟩) trivial ?_
            rotate_left
            · intro u hSu
              first | (go_simp; done) | (go_simp; with_reducible rfl)
            try simp only [Act.put, List.setIfInBounds_toArray, List.set_cons_zero, List.set_cons_succ]
            refine until_take (i := 5) [] (v := ?_) rfl (by kernel_rfl) (by kernel_rfl) (by kernel_rfl) (by kernel_rfl) (by kernel_rfl) (fun _ _ _ h => h) (Or.inl ⟨by rfl, ?_⟩) trivial ?_
            rotate_left
            · intro u hSu
              first | (go_simp; done) | (go_simp; with_reducible rfl)
            try simp only [Act.put, List.setIfInBounds_toArray, List.set_cons_zero, List.set_cons_succ]
            refine until_take (i := 6) [] (v := ?_) rfl (by kernel_rfl) (by kernel_rfl) (by kernel_rfl) (by kernel_rfl) (by kernel_rfl) (fun _ _ _ h => h) (Or.inl ⟨by rfl, ?_⟩) trivial ?_
            rotate_left
            · intro u hSu
              first | (go_simp; done) | (go_simp; with_reducible rfl)
            try simp only [Act.put, List.setIfInBounds_toArray, List.set_cons_zero, List.set_cons_succ]
            refine until_take (i := 7) [] (v := ?_) rfl (by kernel_rfl) (by kernel_rfl) (by kernel_rfl) (by kernel_rfl) (by kernel_rfl) (fun _ _ _ h => h) (Or.inl ⟨by rfl, ?_⟩) trivial ?_
            rotate_left
            · intro u hSu
              first | (go_simp; done) | (go_simp; with_reducible rfl)
            try simp only [Act.put, List.setIfInBounds_toArray, List.set_cons_zero, List.set_cons_succ]
            refine until_take (i := 8) [] (v := ?_) rfl (by kernel_rfl) (by kernel_rfl) (by kernel_rfl) (by kernel_rfl) (by kernel_rfl) (fun _ _ _ h => h) (Or.inl ⟨by rfl, ?_⟩) trivial ?_
            rotate_left
            · intro u hSu
              first | (go_simp; done) | (go_simp; with_reducible rfl)
            try simp only [Act.put, List.setIfInBounds_toArray, List.set_cons_zero, List.set_cons_succ]
            refine until_one (i := 0) (by kernel_rfl) rfl (fun K' hK => ?_)
            go_simp
            refine hK.out _ _ (fun _ => trivial) ?_
            clear hK K'
            try simp only [Act.put, List.setIfInBounds_toArray, List.set_cons_zero, List.set_cons_succ]
            refine until_one (i := 4) (by kernel_rfl) rfl (fun K' hK => ?_)
            rw [if_pos (by rfl)]
            refine wp_append_int _ _ rfl _ _ rfl rfl v2 W2 HJ.out.2.1 ?_
            refine hK.out _ _ (fun _ => trivial) ?_
            clear hK K'
            try simp only [Act.put, List.setIfInBounds_toArray, List.set_cons_zero, List.set_cons_succ]
            refine until_one (i := 9) (by kernel_rfl) rfl (fun K' hK => ?_)
            rw [if_pos (by rfl)]
            refine wp_append_int _ _ rfl _ _ rfl rfl v3 W3 HJ.out.2.2 ?_
            refine hK.out _ _ (fun _ => trivial) ?_
            clear hK K'
            try simp only [Act.put, List.setIfInBounds_toArray, List.set_cons_zero, List.set_cons_succ]
            refine until_one (i := 10) (by kernel_rfl) rfl (fun K' hK => ?_)
            go_simp
            refine hK.out _ _ (fun _ => trivial) ?_
            clear hK K'
            refine until_done (by kernel_rfl) ?_ _
            obtain ⟨b2, off2, rfl, hc2⟩ := HR.out.2.1.2.1.at HW3.out.bel j (by rw [← HR.out.2.1.1]; have := HN.out.1; omega)
            obtain ⟨b3, off3, rfl, hc3⟩ := HR.out.2.2.1.2.1.at HW3.out.bel j (by rw [← HR.out.2.2.1.1]; have := HN.out.2.1; omega)
            obtain ⟨x, hx⟩ : ∃ x, x = xs.getD j 0 := ⟨_, rfl⟩
            obtain ⟨y, hy⟩ : ∃ y, y = ys.getD j 0 := ⟨_, rfl⟩
            have HX := Aside.intro (And.intro hx hy)
            have hq2 : j < n1 := by have := HN.out.1; omega
            have hq3 : j < n2 := by have := HN.out.2.1; omega
            have HC : Aside (∀ u : World, Below w.heap.size w u → u.cell? ⟨b2, off2 + j, none⟩ = some (.float .f64 x) ∧ u.cell? ⟨b3, off3 + j, none⟩ = some (.float .f64 y)) := fun u hu => by
              obtain ⟨b, off, e1, h1⟩ := HR.out.2.1.2.1.at hu j (by rw [← HR.out.2.1.1]; exact hq2)
              obtain ⟨b', off', e2, h2⟩ := HR.out.2.2.1.2.1.at hu j (by rw [← HR.out.2.2.1.1]; exact hq3)
              cases e1
              cases e2
              exact ⟨by rw [hx]; exact h1, by rw [hy]; exact h2⟩
            clear hx hy
            go_wp2_with fail
            rw [show (N : Int) + 1 = ((N + 1 : Nat) : Int) by simp]
            refine (pick7 cut (N + 1) W3 h0 h1 (by omega) (by omega)).mono ?_
            rintro r W4 ⟨p2, rfl, hp2, rfl⟩
            by_cases hcut : q < p2
            · have CP : Hid (Calls Tryd.prog 11 #[.pointer (some ⟨g2, 0, none⟩), .float .f64 y, .float .f64 x] W4.drew (Did g2 W4.drew (0, v1 tA (j :: A), s1 kA (j :: A)))) := by
                obtain ⟨h1, h2, h3, h4⟩ := HS.out A (by have := HPm.out.len; omega)
                have h5 := HB5.out.2 j
                have h6 := QB_pos
                have C := AddProduct7 g2 _ _ y x W4.drew HW3.out.a2.drew7 (h1.ok (by rw [h2]; have := HPm.out.len; omega)) (by rw [HX.out.2]; exact HR.out.2.2.1.2.2.get j) (by rw [HX.out.1]; exact HR.out.2.1.2.2.get j)
                rw [pK_comm, pT_comm] at C
                rw [HX.out.1, HX.out.2, ← HF.out.1, ← HF.out.2, put_ok _ _ _ _ (by omega) (by omega) (by rw [h2]; have := HPm.out.len; omega)] at C
                rw [HX.out.1, HX.out.2]
                exact C
              have kS : Aside (W4.drew.cell? ⟨b3, off3 + j, none⟩ = some (.float .f64 y) ∧ W4.drew.cell? ⟨b2, off2 + j, none⟩ = some (.float .f64 x)) := And.symm (HC.out W4 HW3.out.bel)
              clear hc2 hc3
              go_wp2
              go_region_held (fun w' => w'.cell? ⟨b3, off3 + j, none⟩ = some (.float .f64 y) ∧ w'.cell? ⟨b2, off2 + j, none⟩ = some (.float .f64 x)) (with_reducible exact kS.out) (first
                | (go_at_call 11
                   with_reducible refine CP.out.mono ?_
                   rintro r u ⟨rfl, hA3, hbut⟩
                   have H3 := Aside.intro (HW3.out.drew.new2 hA3 hbut)
                   have kS := Aside.intro (And.symm (HC.out u H3.out.bel))
                   clear hA3 hbut))
              go_wp2
              go_roundg (gk - 1)
              case measure => omega
              case rel => exact ⟨q + 1, _, _, _, by simp only [List.length_append, List.length_take, List.length_drop]; omega, by simp only [List.length_append, List.length_take, List.length_drop]; omega, by simp, HJ.out.1 ▸ HPm.out.left p hp, H3.out⟩
            · have CP : Hid (Calls Tryd.prog 11 #[.pointer (some ⟨g3, 0, none⟩), .float .f64 x, .float .f64 y] W4.drew (Did g3 W4.drew (0, v1 tA (j :: C), s1 kA (j :: C)))) := by
                obtain ⟨h1, h2, h3, h4⟩ := HS.out C (by have := HPm.out.len; omega)
                have h5 := HB5.out.2 j
                have h6 := QB_pos
                have C := AddProduct7 g3 _ _ x y W4.drew HW3.out.a3.drew7 (h1.ok (by rw [h2]; have := HPm.out.len; omega)) (by rw [HX.out.1]; exact HR.out.2.1.2.2.get j) (by rw [HX.out.2]; exact HR.out.2.2.1.2.2.get j)
                rw [HX.out.1, HX.out.2, ← HF.out.1, ← HF.out.2, put_ok _ _ _ _ (by omega) (by omega) (by rw [h2]; have := HPm.out.len; omega)] at C
                rw [HX.out.1, HX.out.2]
                exact C
              have kS : Aside (W4.drew.cell? ⟨b2, off2 + j, none⟩ = some (.float .f64 x) ∧ W4.drew.cell? ⟨b3, off3 + j, none⟩ = some (.float .f64 y)) := HC.out W4 HW3.out.bel
              clear hc2 hc3
              go_wp2
              go_region_held (fun w' => w'.cell? ⟨b2, off2 + j, none⟩ = some (.float .f64 x) ∧ w'.cell? ⟨b3, off3 + j, none⟩ = some (.float .f64 y)) (with_reducible exact kS.out) (first
                | (go_at_call 11
                   with_reducible refine CP.out.mono ?_
                   rintro r u ⟨rfl, hA3, hbut⟩
                   have H3 := Aside.intro (HW3.out.drew.new3 hA3 hbut)
                   have kS := Aside.intro (HC.out u H3.out.bel)
                   clear hA3 hbut))
              go_wp2
              go_roundg (gk - 1)
              case measure => omega
              case rel => exact ⟨q + 1, _, _, _, by simp only [List.length_append, List.length_take, List.length_drop]; omega, by simp only [List.length_append, List.length_take, List.length_drop]; omega, by simp, HJ.out.1 ▸ HPm.out.right p hp, H3.out⟩
          · have hp : 0 < R.length := hR
            obtain ⟨j, hj⟩ : ∃ j, j = R.getD 0 0 := ⟨_, rfl⟩
            have hcj : wr.cell? ⟨gR, 0, none⟩ = some (.int .i64 (j : Nat)) := by rw [hj]; exact hcells 0 hp
            obtain ⟨v2, W2, hrun1, hR2, hgr1⟩ := append_ints (wr.drew.alloc (Obj.cells #[] 3)) lo (.slice (some ⟨wr.heap.size, 0, none⟩) 0 0) [] (R.take 0) (some ⟨gR, 0, none⟩) 0 cap 34 (World.ownsRow_made wr.drew #[] 0 HL.out.2.rm (Nat.zero_le _) (by simp)) (by simp)
              (fun hne => absurd (by simp) hne) (by simp) (by simp) (by have := HL.out.2.rm; simp; omega)
            have hWc : ∀ i, i < R.length → W2.cell? ⟨gR, i, none⟩ = some (.int .i64 ((R.getD i 0 : Nat) : Int)) := fun i hi => hgr1.cell (Lib.cell?_alloc_some _ (hcells i hi)) (by simp [Value.ownBlock]; omega)
            obtain ⟨ao2, hao2⟩ : ∃ a : Option Addr, a = if cap = 1 then some ⟨gR, 0, none⟩ else some ⟨gR, 1, none⟩ := ⟨_, rfl⟩
            obtain ⟨v3, W3, hrun2, hR3, hgr2⟩ := append_ints W2 lo v2 ([] ++ R.take 0) (R.drop 1) ao2 (R.length - 1) (cap - 1) 34 hR2 (by simp)
              (fun hne => ⟨gR, 1, by rw [hao2, if_neg (fun e => hne (List.drop_eq_nil_of_le (by omega)))], fun i hi => by
                have hi2 : 1 + i < R.length := by simp at hi; omega
                rw [show (R.drop 1).getD i 0 = R.getD (1 + i) 0 by rw [List.getD_eq_getElem?_getD, List.getD_eq_getElem?_getD, List.getElem?_drop]]
                exact hWc _ hi2⟩) (by rw [hao2]; split <;> simp) (by simp; have := HPm.out.len; omega) (Nat.le_trans (Nat.le_trans HL.out.2.rm (by simp)) hgr1.size)
            have HW3 : Aside (Ord7 w g1 g2 g3 lo W3 (v1 tA (down N)) (v1 tA A) (v1 tA C) (s1 kA (down N)) (s1 kA A) (s1 kA C) v3 (R.take 0 ++ R.drop 1)) := by
              have q1 := HL.out.2.drew.row' (World.grownBy_alloc wr.drew (Obj.cells #[] 3) none) (fun k e => by cases e) ((HL.out.2.row.drew).alloc _)
              have q2 := q1.row' hgr1 (fun k e => by simp [Value.ownBlock] at e; have := HL.out.2.rm; omega) hR2
              have q3 := q2.row' hgr2 (fun k e => (hR2.lt k e).1) hR3
              rw [List.nil_append] at q3
              exact q3
            have HJ := Aside.intro (And.intro hj (And.intro hrun1 hrun2))
            have hwr : IntKind.i64.wrap 1 = 1 := by rw [IntKind.wrap_i64]; omega
            have hif : (if cap = 1 then (some ⟨gR, 0, none⟩ : Option Addr) else some ⟨gR, 1, none⟩) = ao2 := hao2.symm
            have hpc : 0 ≤ cap := by omega
            have hp1 : 1 ≤ R.length := by omega
            have hb0 : (0 : Int) ≤ 1 := by omega
            have hb1 : (1 : Int) ≤ (R.length : Int) := by omega
            have hjN : j < N := by rw [hj]; exact HPm.out.lt 0 hp
            clear hj hrun1 hrun2 hR2 hR3 hgr1 hgr2 hWc hcells hao2
            go_wp2
            refine until_region (fun _ => True) 11 (by kernel_rfl) ?_
            refine until_take (i := 1) [] (v := ?_) rfl (by kernel_rfl) (by kernel_rfl) (by kernel_rfl) (by kernel_rfl) (by kernel_rfl) (fun _ _ _ h => h) (Or.inl ⟨by rfl, ?_⟩) trivial ?_
            rotate_left
            · intro u hSu
              first | (go_simp; done) | (go_simp; with_reducible rfl)
            try simp only [Act.put, List.setIfInBounds_toArray, List.set_cons_zero, List.set_cons_succ]
            refine until_take (i := 2) [] (v := ?_) rfl (by kernel_rfl) (by kernel_rfl) (by kernel_rfl) (by kernel_rfl) (by kernel_rfl) (fun _ _ _ h => h) (Or.inl ⟨by rfl, ?_⟩) trivial ?_
            rotate_left
            · intro u hSu
              first | (go_simp; done) | (go_simp; with_reducible rfl)
            try simp only [Act.put, List.setIfInBounds_toArray, List.set_cons_zero, List.set_cons_succ]
            refine until_take (i := 3) [] (v := ?_) rfl (by kernel_rfl) (by kernel_rfl) (by kernel_rfl) (by kernel_rfl) (by kernel_rfl) (fun _ _ _ h => h) (Or.inl ⟨by rfl, ?_⟩) trivial ?_
            rotate_left
            · intro u hSu
              first | (go_simp; done) | (go_simp; with_reducible rfl)
            try simp only [Act.put, List.setIfInBounds_toArray, List.set_cons_zero, List.set_cons_succ]
            refine until_take (i := 5) [] (v := ?_) rfl (by kernel_rfl) (by kernel_rfl) (by kernel_rfl) (by kernel_rfl) (by kernel_rfl) (fun _ _ _ h => h) (Or.inl ⟨by rfl, ?_⟩) trivial ?_
            rotate_left
            · intro u hSu
              first | (go_simp; done) | (go_simp; with_reducible rfl)
            try simp only [Act.put, List.setIfInBounds_toArray, List.set_cons_zero, List.set_cons_succ]
            refine until_take (i := 6) [] (v := ?_) rfl (by kernel_rfl) (by kernel_rfl) (by kernel_rfl) (by kernel_rfl) (by kernel_rfl) (fun _ _ _ h => h) (Or.inl ⟨by rfl, ?_⟩) trivial ?_
            rotate_left
            · intro u hSu
              first | (go_simp; done) | (go_simp; with_reducible rfl)
            try simp only [Act.put, List.setIfInBounds_toArray, List.set_cons_zero, List.set_cons_succ]
            refine until_take (i := 7) [] (v := ?_) rfl (by kernel_rfl) (by kernel_rfl) (by kernel_rfl) (by kernel_rfl) (by kernel_rfl) (fun _ _ _ h => h) (Or.inl ⟨by rfl, ?_⟩) trivial ?_
            rotate_left
            · intro u hSu
              first | (go_simp; done) | (go_simp; with_reducible rfl)
            try simp only [Act.put, List.setIfInBounds_toArray, List.set_cons_zero, List.set_cons_succ]
            refine until_take (i := 8) [] (v := ?_) rfl (by kernel_rfl) (by kernel_rfl) (by kernel_rfl) (by kernel_rfl) (by kernel_rfl) (fun _ _ _ h => h) (Or.inl ⟨by rfl, ?_⟩) trivial ?_
            rotate_left
            · intro u hSu
              first | (go_simp; done) | (go_simp; with_reducible rfl)
            try simp only [Act.put, List.setIfInBounds_toArray, List.set_cons_zero, List.set_cons_succ]
            refine until_one (i := 0) (by kernel_rfl) rfl (fun K' hK => ?_)
            go_simp
            refine hK.out _ _ (fun _ => trivial) ?_
            clear hK K'
            try simp only [Act.put, List.setIfInBounds_toArray, List.set_cons_zero, List.set_cons_succ]
            refine until_one (i := 4) (by kernel_rfl) rfl (fun K' hK => ?_)
            rw [if_pos (by rfl)]
            refine wp_append_int _ _ rfl _ _ rfl rfl v2 W2 HJ.out.2.1 ?_
            refine hK.out _ _ (fun _ => trivial) ?_
            clear hK K'
            try simp only [Act.put, List.setIfInBounds_toArray, List.set_cons_zero, List.set_cons_succ]
            refine until_one (i := 9) (by kernel_rfl) rfl (fun K' hK => ?_)
            rw [if_pos (by rfl)]
            refine wp_append_int _ _ rfl _ _ rfl rfl v3 W3 HJ.out.2.2 ?_
            refine hK.out _ _ (fun _ => trivial) ?_
            clear hK K'
            try simp only [Act.put, List.setIfInBounds_toArray, List.set_cons_zero, List.set_cons_succ]
            refine until_one (i := 10) (by kernel_rfl) rfl (fun K' hK => ?_)
            go_simp
            refine hK.out _ _ (fun _ => trivial) ?_
            clear hK K'
            refine until_done (by kernel_rfl) ?_ _
            obtain ⟨b2, off2, rfl, hc2⟩ := HR.out.2.1.2.1.at HW3.out.bel j (by rw [← HR.out.2.1.1]; have := HN.out.1; omega)
            obtain ⟨b3, off3, rfl, hc3⟩ := HR.out.2.2.1.2.1.at HW3.out.bel j (by rw [← HR.out.2.2.1.1]; have := HN.out.2.1; omega)
            obtain ⟨x, hx⟩ : ∃ x, x = xs.getD j 0 := ⟨_, rfl⟩
            obtain ⟨y, hy⟩ : ∃ y, y = ys.getD j 0 := ⟨_, rfl⟩
            have HX := Aside.intro (And.intro hx hy)
            have hq2 : j < n1 := by have := HN.out.1; omega
            have hq3 : j < n2 := by have := HN.out.2.1; omega
            have HC : Aside (∀ u : World, Below w.heap.size w u → u.cell? ⟨b2, off2 + j, none⟩ = some (.float .f64 x) ∧ u.cell? ⟨b3, off3 + j, none⟩ = some (.float .f64 y)) := fun u hu => by
              obtain ⟨b, off, e1, h1⟩ := HR.out.2.1.2.1.at hu j (by rw [← HR.out.2.1.1]; exact hq2)
              obtain ⟨b', off', e2, h2⟩ := HR.out.2.2.1.2.1.at hu j (by rw [← HR.out.2.2.1.1]; exact hq3)
              cases e1
              cases e2
              exact ⟨by rw [hx]; exact h1, by rw [hy]; exact h2⟩
            clear hx hy
            go_wp2_with fail
            rw [show (N : Int) + 1 = ((N + 1 : Nat) : Int) by simp]
            refine (pick7 cut (N + 1) W3 h0 h1 (by omega) (by omega)).mono ?_
            rintro r W4 ⟨p2, rfl, hp2, rfl⟩
            by_cases hcut : q < p2
            · have CP : Hid (Calls Tryd.prog 11 #[.pointer (some ⟨g2, 0, none⟩), .float .f64 y, .float .f64 x] W4.drew (Did g2 W4.drew (0, v1 tA (j :: A), s1 kA (j :: A)))) := by
                obtain ⟨h1, h2, h3, h4⟩ := HS.out A (by have := HPm.out.len; omega)
                have h5 := HB5.out.2 j
                have h6 := QB_pos
                have C := AddProduct7 g2 _ _ y x W4.drew HW3.out.a2.drew7 (h1.ok (by rw [h2]; have := HPm.out.len; omega)) (by rw [HX.out.2]; exact HR.out.2.2.1.2.2.get j) (by rw [HX.out.1]; exact HR.out.2.1.2.2.get j)
                rw [pK_comm, pT_comm] at C
                rw [HX.out.1, HX.out.2, ← HF.out.1, ← HF.out.2, put_ok _ _ _ _ (by omega) (by omega) (by rw [h2]; have := HPm.out.len; omega)] at C
                rw [HX.out.1, HX.out.2]
                exact C
              have kS : Aside (W4.drew.cell? ⟨b3, off3 + j, none⟩ = some (.float .f64 y) ∧ W4.drew.cell? ⟨b2, off2 + j, none⟩ = some (.float .f64 x)) := And.symm (HC.out W4 HW3.out.bel)
              clear hc2 hc3
              go_wp2
              go_region_held (fun w' => w'.cell? ⟨b3, off3 + j, none⟩ = some (.float .f64 y) ∧ w'.cell? ⟨b2, off2 + j, none⟩ = some (.float .f64 x)) (with_reducible exact kS.out) (first
                | (go_at_call 11
                   with_reducible refine CP.out.mono ?_
                   rintro r u ⟨rfl, hA3, hbut⟩
                   have H3 := Aside.intro (HW3.out.drew.new2 hA3 hbut)
                   have kS := Aside.intro (And.symm (HC.out u H3.out.bel))
                   clear hA3 hbut))
              go_wp2
              go_roundg (gk - 1)
              case measure => omega
              case rel => exact ⟨q + 1, _, _, _, by simp only [List.length_append, List.length_take, List.length_drop]; omega, by simp only [List.length_append, List.length_take, List.length_drop]; omega, by simp, HJ.out.1 ▸ HPm.out.left 0 hp, H3.out⟩
            · have CP : Hid (Calls Tryd.prog 11 #[.pointer (some ⟨g3, 0, none⟩), .float .f64 x, .float .f64 y] W4.drew (Did g3 W4.drew (0, v1 tA (j :: C), s1 kA (j :: C)))) := by
                obtain ⟨h1, h2, h3, h4⟩ := HS.out C (by have := HPm.out.len; omega)
                have h5 := HB5.out.2 j
                have h6 := QB_pos
                have C := AddProduct7 g3 _ _ x y W4.drew HW3.out.a3.drew7 (h1.ok (by rw [h2]; have := HPm.out.len; omega)) (by rw [HX.out.1]; exact HR.out.2.1.2.2.get j) (by rw [HX.out.2]; exact HR.out.2.2.1.2.2.get j)
                rw [HX.out.1, HX.out.2, ← HF.out.1, ← HF.out.2, put_ok _ _ _ _ (by omega) (by omega) (by rw [h2]; have := HPm.out.len; omega)] at C
                rw [HX.out.1, HX.out.2]
                exact C
              have kS : Aside (W4.drew.cell? ⟨b2, off2 + j, none⟩ = some (.float .f64 x) ∧ W4.drew.cell? ⟨b3, off3 + j, none⟩ = some (.float .f64 y)) := HC.out W4 HW3.out.bel
              clear hc2 hc3
              go_wp2
              go_region_held (fun w' => w'.cell? ⟨b2, off2 + j, none⟩ = some (.float .f64 x) ∧ w'.cell? ⟨b3, off3 + j, none⟩ = some (.float .f64 y)) (with_reducible exact kS.out) (first
                | (go_at_call 11
                   with_reducible refine CP.out.mono ?_
                   rintro r u ⟨rfl, hA3, hbut⟩
                   have H3 := Aside.intro (HW3.out.drew.new3 hA3 hbut)
                   have kS := Aside.intro (HC.out u H3.out.bel)
                   clear hA3 hbut))
              go_wp2
              go_roundg (gk - 1)
              case measure => omega
              case rel => exact ⟨q + 1, _, _, _, by simp only [List.length_append, List.length_take, List.length_drop]; omega, by simp only [List.length_append, List.length_take, List.length_drop]; omega, by simp, HJ.out.1 ▸ HPm.out.right 0 hp, H3.out⟩
        · obtain rfl : R = [] := List.eq_nil_of_length_eq_zero (by omega)
          obtain ⟨ao, cap, rfl⟩ := HL.out.2.row.shape0
          have CM : Hid (Calls Tryd.prog 13 #[.pointer (some ⟨g3, 0, none⟩), .pointer (some ⟨g2, 0, none⟩)] wr (Did g3 wr (0, v1 tA (down N), s1 kA (down N)))) := by
            have hl := HL.out.1.len
            simp only [List.length_nil] at hl
            obtain ⟨p1, p2, p3, p4⟩ := HS.out A (by omega)
            obtain ⟨q1, q2, q3, q4⟩ := HS.out C (by omega)
            obtain ⟨r1, r2, r3, r4⟩ := HS.out (A ++ C) (by simp; omega)
            have hpm := HL.out.1.perm
            rw [List.append_nil] at hpm
            have eV : v1 tA C + v1 tA A = v1 tA (down N) := by rw [← v1_perm tA hpm, v1_append]; omega
            have eS : (s1 kA C).add (s1 kA A) = s1 kA (down N) := by rw [← s1_perm kA hpm, s1_append, add_comm7]
            rw [v1_append] at r3 r4
            have h6 := QB_pos
            have Cm := Merge7 g3 g2 (v1 tA C) (v1 tA A) (s1 kA C) (s1 kA A) wr HL.out.2.a3 HL.out.2.a2 (q1.ok (by rw [q2]; omega)) (p1.ok (by rw [p2]; omega))
            rw [merge_ok _ _ _ _ (by omega) (by omega) (by rw [p2, q2]; omega), eV, eS] at Cm
            exact Cm
          go_wp2_with fail
          refine CM.out.mono ?_
          rintro r w5 ⟨rfl, hA, hbut⟩
          obtain ⟨h1', h2', h3', h4'⟩ := HS.out (down N) (by rw [down_len]; omega)
          have H5 := Aside.intro (And.intro (HL.out.2.new3 hA hbut).a1 (And.intro (HL.out.2.new3 hA hbut).a3 (And.intro (HL.out.2.new3 hA hbut).bel (h1'.ok (by rw [h2', down_len]; omega)))))
          clear hA hbut h1' h2' h3' h4'
          obtain ⟨V, hV⟩ : ∃ V, V = v1 tA (down N) := ⟨_, rfl⟩
          obtain ⟨s, hs⟩ : ∃ s, s = s1 kA (down N) := ⟨_, rfl⟩
          rw [← hV, ← hs] at H5
          clear hV hs CM HL
          go_wp2_with fail
          refine (Exact7 g1 V s w5 H5.out.1 (HR.out.1.belows H5.out.2.2.1)).mono ?_
          rintro r w6 ⟨v6, rfl, N6, hb6⟩
          have H6 := Aside.intro (And.intro N6 (And.intro hb6 (H5.out.2.2.1.trans (hb6.mono H5.out.2.2.1.size))))
          clear N6 hb6
          go_wp2_with fail
          refine (Exact7 g3 V s w6 (H5.out.2.1.bel H6.out.2.1) (HR.out.1.belows H6.out.2.2)).mono ?_
          rintro r w7 ⟨v7, rfl, N7, hb7⟩
          have hVb : -(HB : Int) < V ∧ V < (HB : Int) := by obtain ⟨L, _, _, _, h1, h2, _⟩ := H5.out.1; exact ⟨h1, h2⟩
          obtain ⟨d7, c7, rfl, A7⟩ := N7.arg (Nat.le_trans (dX_small hVb.1 hVb.2) (by decide))
          obtain ⟨d6, c6, rfl, A6⟩ := (H6.out.1.below hb7).arg (Nat.le_trans (dX_small hVb.1 hVb.2) (by decide))
          have HSm := hid (rSame3_any (dN (exV V)) (dE (exV V)) (ws (dX (exV V))) d6 d7 (ws (dX (exV V))).length c6 c7 w7 rfl (Nat.le_trans A7.big (by decide)) A6.rd A7.rd)
          have H7 := Aside.intro (And.intro ((H5.out.1.bel H6.out.2.1).bel hb7) (And.intro ((H5.out.2.1.bel H6.out.2.1).bel hb7) (H6.out.2.2.trans (hb7.mono H6.out.2.2.size))))
          clear N7 hb7 A6 A7 hVb
          go_wp2_with fail
          refine HSm.out.mono ?_
          rintro r w8 ⟨rfl, hb8⟩
          have H8 := Aside.intro (And.intro (H7.out.1.bel hb8) (And.intro (H7.out.2.1.bel hb8) (H7.out.2.2.trans (hb8.mono H7.out.2.2.size))))
          clear hb8
          obtain ⟨⟨X, er⟩, hX⟩ : ∃ X, X = rd7 V s 0 0 0 := ⟨_, rfl⟩
          go_wp2_with fail
          have CR := Round7 g1 V s 0 0 0 w8 H8.out.1 H5.out.2.2.2 (HR.out.1.belows H8.out.2.2) (by decide) (by decide) (by decide) (by decide) (by decide)
          rw [← hX] at CR
          simp only at CR
          refine CR.mono ?_
          rintro r w9 ⟨rfl, hb9⟩
          have H9 := Aside.intro (And.intro (H8.out.1.bel hb9) (And.intro (H8.out.2.1.bel hb9) (H8.out.2.2.trans (hb9.mono H8.out.2.2.size))))
          have HX := Aside.intro hX
          clear hb9 CR hX
          go_wp2_with fail
          have CR := Round7 g3 V s 0 0 0 w9 H9.out.2.1 H5.out.2.2.2 (HR.out.1.belows H9.out.2.2) (by decide) (by decide) (by decide) (by decide) (by decide)
          rw [← HX.out] at CR
          simp only at CR
          refine CR.mono ?_
          rintro r w10 ⟨rfl, hb10⟩
          have H10 := Aside.intro (And.intro (H9.out.1.bel hb10) (And.intro (H9.out.2.1.bel hb10) (H9.out.2.2.trans (hb10.mono H9.out.2.2.size))))
          clear hb10 CR HX H5 H7 H8
          obtain ⟨sn, su, sd, sm, sp, sa⟩ := s
          go_wp2_with fail
          have CS := Specials7 g1 V _ w10 H10.out.1
          simp only [Sp.agg] at CS
          refine CS.mono ?_
          rintro r w11 ⟨rfl, hb11⟩
          have H11 := Aside.intro (And.intro (H10.out.2.1.bel hb11) (H10.out.2.2.trans (hb11.mono H10.out.2.2.size)))
          clear hb11 CS
          go_wp2_with fail
          have CS := Specials7 g3 V _ w11 H11.out.1
          simp only [Sp.agg] at CS
          refine CS.mono ?_
          rintro r w12 ⟨rfl, hb12⟩
          have H12 := Aside.intro (H11.out.2.trans (hb12.mono H11.out.2.size))
          clear hb12 CS
          go_wp2_with fail
          refine (exact7 X w12).mono ?_
          rintro r w13 ⟨rfl, rfl⟩
          go_wp2
          go_ret
          exact ⟨rfl, H12.out⟩
end Go.Proofs.YtmlmgfodkehenaaDoor

/- Lists of numbers that came in. -/
namespace Go.Proofs.YtmlmgfodkehenaaDoor
open Go.ChangeShapes Go.WideShapes Go.ChangeAt Go.RowKit
set_option linter.unusedVariables false
set_option maxRecDepth 20000
set_option linter.unusedSimpArgs false

theorem trodF {H : Type} {enc : TypeId × Value → H} {P : Program} {w : World} {base : Nat} {spare : Nat → Bool} {held : Bool} {fuel : Nat} {t : TypeId} {cs : List Value} {x : DataW H × List MemPlace} {k : FloatKind} (ht : P.underlying t = some (.float k)) (h : DataW.trod enc P w base spare held fuel t cs = some x) : ∃ n, cs = [.float k n] ∧ x = (.lit (.float k n), []) ∧ (Lit.float k n).wf = true := by
  cases fuel with
  | zero => simp [DataW.trod] at h
  | succ m =>
    simp only [DataW.trod, ht] at h
    split at h <;> simp_all

/-- A list that came in: its numbers, its room. -/
structure CameF (w : World) (a : Option Addr) (n c : Nat) (xs : List Nat) : Prop where
  len : n = xs.length
  cap : n ≤ c
  wf : W64 xs
  rd : Fs w.heap.size w a xs
  nil : a = none → c = 0

theorem add_noneF (b off i : Nat) : (⟨b, off, none⟩ : Addr).add i = ⟨b, off + i, none⟩ := by unfold Addr.add; split <;> simp_all

def numF {H : Type} (y : DataW H × List MemPlace) : Nat := match y.1 with | .lit (.float _ n) => n | _ => 0

theorem Tryd.cellsF : Tryd.prog.cellsOf 37 = 1 := by kernel_rfl
theorem Tryd.bytesF : Tryd.prog.bytesOf 37 = 8 := by kernel_rfl

theorem cameF_of {H : Type} {enc : TypeId × Value → H} {W : World} {a : Option Addr} {n c : Nat} {d : DataW H} {p : List MemPlace} (h : DataW.Trod enc Tryd.prog W 0 (fun _ => true) true 33 (.slice a n c) d p) :
    ∃ xs, CameF W a n c xs ∧ ((d = .nil ∧ c = 0) ∨ ∃ elems spare : List (DataW H), d = .slice elems spare ∧ elems.length + spare.length = c) := by
  obtain ⟨fuel, hf⟩ := h
  rcases DataW.trod_slice Tryd.underlying33 hf with ⟨hcs, hx⟩ | ⟨x, l, cp, elems, rest, m, _, hcs, hx, hb, hl, hm, hlen, hel, hsp, hns⟩
  · simp [Value.cells] at hcs
    obtain ⟨rfl, rfl, rfl⟩ := hcs
    exact ⟨[], ⟨rfl, Nat.le_refl _, (fun x hx => by cases hx), (fun h => absurd rfl h), fun _ => rfl⟩, .inl ⟨(Prod.mk.inj hx).1, rfl⟩⟩
  · simp [Value.cells] at hcs
    obtain ⟨rfl, rfl, rfl⟩ := hcs
    have each : ∀ i y, i < n → elems[i]? = some y → y = (.lit (.float .f64 (numF y)), []) ∧ (Lit.float .f64 (numF y)).wf = true ∧ W.cell? (x.add i) = some (.float .f64 (numF y)) := by
      intro i y hi hy
      have hb' := hel i hi
      rw [hy, Tryd.cellsF, Nat.mul_one, Option.bind_eq_some_iff] at hb'
      obtain ⟨cs', hcs, hy'⟩ := hb'
      obtain ⟨k, rfl, rfl, hw⟩ := trodF Tryd.underlying37 hy'
      exact ⟨rfl, hw, cell_of_cells?_one hcs⟩
    refine ⟨elems.map numF, ⟨by simp [hlen], hl, ?_, ?_, fun e => by cases e⟩, .inr ⟨_, _, (Prod.mk.inj hx).1, ?_⟩⟩
    · intro y hy
      obtain ⟨z, hz, rfl⟩ := List.mem_map.1 hy
      obtain ⟨i, hi⟩ := List.getElem?_of_mem hz
      have hil := (List.getElem?_eq_some_iff.1 hi).1
      have := (each i z (by omega) hi).2.1
      exact of_decide_eq_true this
    · intro hne
      obtain ⟨b, off, spot⟩ := x
      have hn0 : 0 < n := by
        rcases Nat.eq_zero_or_pos n with h0 | h0
        · rw [h0] at hlen; have := List.eq_nil_of_length_eq_zero hlen; subst this; simp at hne
        · exact h0
      have hc0 := (each 0 (elems[0]'(by omega)) hn0 (List.getElem?_eq_getElem _)).2.2
      have hspot : spot = none := by simpa [Addr.add] using World.cell?_spot hc0
      subst hspot
      refine ⟨b, off, World.block_lt_of_cell? W _ (by simpa [Addr.add] using hc0), rfl, fun i hi => ?_⟩
      rw [List.length_map] at hi
      have hadd := add_noneF b off i
      have := (each i (elems[i]'hi) (by omega) (List.getElem?_eq_getElem _)).2.2
      rw [hadd] at this
      rw [this]
      simp [List.getD_eq_getElem?_getD, hi]
    · have hr := (hsp rfl).1
      simp only [List.length_map]
      omega

/-- The form's own reach. -/
theorem cameF_reach {H : Type} {ts : List TypeId} {ds : List (DataW H)} (h : (DataW.weightsEach Tryd.prog ts ds).all (· ≤ reachBytes) = true) {j : Nat} {d : DataW H} {c n : Nat} (ht : ts[j]? = some 33) (hd : ds[j]? = some d) (hn : n ≤ c)
    (hc : (d = .nil ∧ c = 0) ∨ ∃ elems spare : List (DataW H), d = .slice elems spare ∧ elems.length + spare.length = c) : n ≤ 17592186043904 := by
  rcases hc with ⟨_, rfl⟩ | ⟨elems, spare, rfl, hl⟩
  · omega
  · have := sized_slice h ht hd Tryd.underlying33
    rw [Tryd.bytesF, hl] at this
    simp only [reachBytes] at this
    omega

theorem walk2_SuperUndone (o1 : Option Addr) (n1 c1 : Nat) (x1 : List Nat) (o2 : Option Addr) (n2 c2 : Nat) (x2 : List Nat) (o3 : Option Addr) (n3 c3 : Nat) (x3 : List Nat) (back : Bool) (w : World) (hT : Tab w) (w1 : CameF w o1 n1 c1 x1) (w2 : CameF w o2 n2 c2 x2) (w3 : CameF w o3 n3 c3 x3)
    (b1 : n1 ≤ 17592186043904) (b2 : n2 ≤ 17592186043904) (b3 : n3 ≤ 17592186043904) :
    Calls Tryd.prog 5 #[.slice o1 n1 c1, .slice o2 n2 c2, .slice o3 n3 c3, .bool back] w fun r w' => r = .returned (.bool true) ∧ Below w.heap.size w w' :=
  walk_SuperUndone x1 x2 x3 o1 o2 o3 n1 n2 n3 c1 c2 c3 back w hT w1.len w2.len w3.len w1.rd w2.rd w3.rd w1.wf w2.wf w3.wf (by omega) (by omega) (by omega)
end Go.Proofs.YtmlmgfodkehenaaDoor

/- Products in any order and grouping: what came in. -/
namespace Go.Proofs.YtmlmgfodkehenaaDoor
open Go.ChangeShapes Go.WideShapes Go.ChangeAt Go.RowKit
set_option linter.unusedVariables false
set_option maxRecDepth 20000
set_option linter.unusedSimpArgs false

/-- A list of whole numbers that came in. -/
structure CameI (w : World) (a : Option Addr) (n c : Nat) (xs : List Int) : Prop where
  len : n = xs.length
  cap : n ≤ c
  wf : I64 xs
  rd : Is7 w.heap.size w a xs
  nil : a = none → c = 0

def numI {H : Type} (y : DataW H × List MemPlace) : Int := match y.1 with | .lit (.int _ n) => n | _ => 0

theorem Tryd.cellsI7 : Tryd.prog.cellsOf 3 = 1 := by kernel_rfl
theorem Tryd.bytesI7 : Tryd.prog.bytesOf 3 = 8 := by kernel_rfl

theorem cameI_of {H : Type} {enc : TypeId × Value → H} {W : World} {a : Option Addr} {n c : Nat} {d : DataW H} {p : List MemPlace} (h : DataW.Trod enc Tryd.prog W 0 (fun _ => true) true 34 (.slice a n c) d p) :
    ∃ xs, CameI W a n c xs ∧ ((d = .nil ∧ c = 0) ∨ ∃ elems spare : List (DataW H), d = .slice elems spare ∧ elems.length + spare.length = c) := by
  obtain ⟨fuel, hf⟩ := h
  rcases DataW.trod_slice Tryd.underlying34 hf with ⟨hcs, hx⟩ | ⟨x, l, cp, elems, rest, m, _, hcs, hx, hb, hl, hm, hlen, hel, hsp, hns⟩
  · simp [Value.cells] at hcs
    obtain ⟨rfl, rfl, rfl⟩ := hcs
    exact ⟨[], ⟨rfl, Nat.le_refl _, (fun i => by simp), (fun h => absurd rfl h), fun _ => rfl⟩, .inl ⟨(Prod.mk.inj hx).1, rfl⟩⟩
  · simp [Value.cells] at hcs
    obtain ⟨rfl, rfl, rfl⟩ := hcs
    have each : ∀ i y, i < n → elems[i]? = some y → y = (.lit (.int .i64 (numI y)), []) ∧ (-9223372036854775808 ≤ numI y ∧ numI y ≤ 9223372036854775807) ∧ W.cell? (x.add i) = some (.int .i64 (numI y)) := by
      intro i y hi hy
      have hb' := hel i hi
      rw [hy, Tryd.cellsI7, Nat.mul_one, Option.bind_eq_some_iff] at hb'
      obtain ⟨cs', hcs, hy'⟩ := hb'
      obtain ⟨e, e2, rfl, hw⟩ := DataW.trod_int Tryd.underlying3 hy'
      subst e2
      have hw' : -9223372036854775808 ≤ e ∧ e ≤ 9223372036854775807 := by
        simp [Lit.wf, IntKind.min, IntKind.max, IntKind.signed, IntKind.bits] at hw
        omega
      exact ⟨rfl, hw', cell_of_cells?_one hcs⟩
    refine ⟨elems.map numI, ⟨by simp [hlen], hl, ?_, ?_, fun e => by cases e⟩, .inr ⟨_, _, (Prod.mk.inj hx).1, ?_⟩⟩
    · intro i
      by_cases hi : i < elems.length
      · have := (each i (elems[i]'hi) (by omega) (List.getElem?_eq_getElem _)).2.1
        simpa [List.getD_eq_getElem?_getD, hi] using this
      · simp [List.getD_eq_getElem?_getD, hi]
    · intro hne
      obtain ⟨b, off, spot⟩ := x
      have hn0 : 0 < n := by
        rcases Nat.eq_zero_or_pos n with h0 | h0
        · rw [h0] at hlen; have := List.eq_nil_of_length_eq_zero hlen; subst this; simp at hne
        · exact h0
      have hc0 := (each 0 (elems[0]'(by omega)) hn0 (List.getElem?_eq_getElem _)).2.2
      have hspot : spot = none := by simpa [Addr.add] using World.cell?_spot hc0
      subst hspot
      refine ⟨b, off, World.block_lt_of_cell? W _ (by simpa [Addr.add] using hc0), rfl, fun i hi => ?_⟩
      rw [List.length_map] at hi
      have hadd := add_noneF b off i
      have := (each i (elems[i]'hi) (by omega) (List.getElem?_eq_getElem _)).2.2
      rw [hadd] at this
      rw [this]
      simp [List.getD_eq_getElem?_getD, hi]
    · have hr := (hsp rfl).1
      simp only [List.length_map]
      omega

/-- The form's own reach. -/
theorem cameI_reach {H : Type} {ts : List TypeId} {ds : List (DataW H)} (h : (DataW.weightsEach Tryd.prog ts ds).all (· ≤ reachBytes) = true) {j : Nat} {d : DataW H} {c n : Nat} (ht : ts[j]? = some 34) (hd : ds[j]? = some d) (hn : n ≤ c)
    (hc : (d = .nil ∧ c = 0) ∨ ∃ elems spare : List (DataW H), d = .slice elems spare ∧ elems.length + spare.length = c) : n ≤ 17592186043904 := by
  rcases hc with ⟨_, rfl⟩ | ⟨elems, spare, rfl, hl⟩
  · omega
  · have := sized_slice h ht hd Tryd.underlying34
    rw [Tryd.bytesI7, hl] at this
    simp only [reachBytes] at this
    omega


theorem walk2_SuperOrder (o1 : Option Addr) (n1 c1 : Nat) (x1 : List Nat) (o2 : Option Addr) (n2 c2 : Nat) (x2 : List Nat) (o3 : Option Addr) (n3 c3 : Nat) (x3 : List Int) (cut : Int) (w : World) (hT : Tab w) (w1 : CameF w o1 n1 c1 x1) (w2 : CameF w o2 n2 c2 x2) (w3 : CameI w o3 n3 c3 x3) (w4 : (Lit.int IntKind.i64 cut).wf = true)
    (b1 : n1 ≤ 17592186043904) (b2 : n2 ≤ 17592186043904) (b3 : n3 ≤ 17592186043904) :
    Calls Tryd.prog 4 #[.slice o1 n1 c1, .slice o2 n2 c2, .slice o3 n3 c3, .int .i64 cut] w fun r w' => r = .returned (.bool true) ∧ Below w.heap.size w w' := by
  have hw' : -9223372036854775808 ≤ cut ∧ cut ≤ 9223372036854775807 := by
    simp [Lit.wf, IntKind.min, IntKind.max, IntKind.signed, IntKind.bits] at w4
    omega
  exact walk_SuperOrder x1 x2 x3 o1 o2 o3 n1 n2 n3 c1 c2 c3 cut w hT w1.len w2.len w3.len w1.rd w2.rd w3.rd w1.wf w2.wf w3.wf (by omega) (by omega) (by omega) hw'.1 hw'.2
end Go.Proofs.YtmlmgfodkehenaaDoor

