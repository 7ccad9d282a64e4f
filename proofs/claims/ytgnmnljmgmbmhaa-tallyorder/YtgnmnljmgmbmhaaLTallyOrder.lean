/- TallyOrder: the law walked. -/
import Derived.Test.YtgnmnljmgmbmhaaTA13
import Derived.Deep.Cut
import Derived.Deep.CutRange
namespace Go.Proofs.Ytgnmnljmgmbmhaa
open Go.RowKit
set_option linter.unusedVariables false
set_option maxRecDepth 20000
set_option linter.unusedSimpArgs false
attribute [local go_sem] B.f64bits B.f64frombits st_float

theorem rev_getD {xs : List Nat} {k : Nat} (hk : k < xs.length) : xs.reverse.getD k 0 = xs.getD (xs.length - 1 - k) 0 := by
  rw [List.getD_eq_getElem?_getD, List.getElem?_reverse hk, List.getD_eq_getElem?_getD]

theorem sum_step {E : List (Nat × Nat)} {k : Nat} (hk : k < E.length) : ((E.take (k + 1)).map (·.2)).sum = ((E.take k).map (·.2)).sum + (E.getD k (0, 0)).2 := by
  rw [List.take_add_one, List.map_append, List.sum_append, List.getElem?_eq_getElem hk, List.getD_eq_getElem?_getD, List.getElem?_eq_getElem hk]
  simp
theorem sum_take (E : List (Nat × Nat)) (k : Nat) : ((E.take k).map (·.2)).sum ≤ (E.map (·.2)).sum := by
  have h : (E.map (·.2)).sum = ((E.take k).map (·.2)).sum + ((E.drop k).map (·.2)).sum := by
    rw [← List.sum_append, ← List.map_append, List.take_append_drop]
  omega
theorem count_step {j : Bool} {xs : List Nat} {m x : Nat} (hm : m < xs.length) : ((xs.map (vW j)).take (m + 1)).count x = ((xs.map (vW j)).take m).count x + (if vW j (xs.getD m 0) = x then 1 else 0) := by
  rw [List.take_add_one, List.count_append, List.getElem?_map, List.getElem?_eq_getElem hm, List.getD_eq_getElem?_getD, List.getElem?_eq_getElem hm]
  simp [List.count_singleton]

set_option maxHeartbeats 8000000 in
theorem main_TallyOrder (j : Bool) (a1 : Option Addr) (n1 c1 : Nat) (xs : List Nat) (a2 : Option Addr) (n2 c2 : Nat) (ys : List Nat) (z : Int) (w : World) (h1 : CameF w a1 n1 c1 xs) (h2 : CameF w a2 n2 c2 ys) (hn1 : n1 ≤ 4000) (hn2 : n2 ≤ 4000) (hz : -9223372036854775808 ≤ z ∧ z ≤ 9223372036854775807) :
    Calls Try.prog 4 #[.bool j, .slice a1 n1 c1, .slice a2 n2 c2, .int .i64 z] w fun r w' => r = .returned (.bool true) ∧ Below w.heap.size w w' := by
  have HA := hid (awake18 w)
  have X1 := Aside.intro h1
  have X2 := Aside.intro h2
  have L1 : xs.length = n1 := h1.len.symm
  have L2 : ys.length = n2 := h2.len.symm
  have dl1 : decide ((4000 : Int) < (n1 : Int)) = false := by simp; omega
  have dl2 : decide ((4000 : Int) < (n2 : Int)) = false := by simp; omega
  have XL := (Aside.intro (And.intro L1 (And.intro L2 (And.intro hn1 hn2))))
  clear h1 h2 L1 L2
  go_enter Try.func4, Try.ntmps4
  go_wp2_with fail
  refine HA.out.mono ?_
  rintro r w1 ⟨rfl, hb1⟩
  have HB1 := Aside.intro hb1
  clear HA hb1
  go_wp2_with fail
  refine (new18 j w1).mono ?_
  rintro r w2 ⟨rfl, ta, hb2⟩
  obtain ⟨ga, hga⟩ : ∃ g, g = w1.heap.size + 1 := ⟨_, rfl⟩
  obtain ⟨ba, hba⟩ : ∃ b, b = w1.heap.size := ⟨_, rfl⟩
  rw [← hga, ← hba] at ta
  rw [← hga]
  have TA := (Aside.intro (And.intro ta (And.intro hb2 (And.intro hga hba))))
  clear ta hb2 hga hba
  go_wp2_with fail
  refine (new18 j w2).mono ?_
  rintro r w3 ⟨rfl, ta, hb2⟩
  obtain ⟨gb, hga⟩ : ∃ g, g = w2.heap.size + 1 := ⟨_, rfl⟩
  obtain ⟨bb, hba⟩ : ∃ b, b = w2.heap.size := ⟨_, rfl⟩
  rw [← hga, ← hba] at ta
  rw [← hga]
  have TB := (Aside.intro (And.intro ta (And.intro hb2 (And.intro hga hba))))
  clear ta hb2 hga hba
  go_wp2_with fail
  refine (new18 j w3).mono ?_
  rintro r w4 ⟨rfl, ta, hb2⟩
  obtain ⟨gc, hga⟩ : ∃ g, g = w3.heap.size + 1 := ⟨_, rfl⟩
  obtain ⟨bc, hba⟩ : ∃ b, b = w3.heap.size := ⟨_, rfl⟩
  rw [← hga, ← hba] at ta
  rw [← hga]
  have TC := (Aside.intro (And.intro ta (And.intro hb2 (And.intro hga hba))))
  clear ta hb2 hga hba
  have T0 : Aside (To w w4 ga ba gb bb gc bc j [] [] []) := by
    have l1 := TA.out.1.lt
    have l2 := TA.out.1.lt2
    have l3 := TB.out.1.lt
    have l4 := TB.out.1.lt2
    have e1 := TA.out.2.2
    have e2 := TB.out.2.2
    have e3 := TC.out.2.2
    have s1 := HB1.out.size
    have s2 := TA.out.2.1.size
    have s3 := TB.out.2.1.size
    have s4 := TC.out.2.1.size
    exact ⟨(TA.out.1.below TB.out.2.1).below TC.out.2.1, TB.out.1.below TC.out.2.1, TC.out.1, by omega, by omega, ((HB1.out.trans (Ch.below (Ch.of_below (s := fun _ => False) TA.out.2.1) s1 (fun k e => e.elim))).trans (Ch.below (Ch.of_below (s := fun _ => False) TB.out.2.1) (by omega) (fun k e => e.elim))).trans (Ch.below (Ch.of_below (s := fun _ => False) TC.out.2.1) (by omega) (fun k e => e.elim))⟩
  clear TA TB TC HB1
  go_upto_region 7 with fail
  go_cut [52] from 47 to 51 (fun v wx => v = .bool (decide (z < 1 ∨ 64 < z)) ∧ wx = w4)
  case first =>
    by_cases hs : z < 1
    · have d1 : decide (z < 1) = true := by simp [hs]
      go_wp2
      go_meet
      case rel => exact ⟨by simp [hs], rfl⟩
    · have d1 : decide (z < 1) = false := by simp [hs]
      go_wp2
      go_meet
      case rel => exact ⟨by rw [show decide (z < 1 ∨ 64 < z) = decide (64 < z) from decide_eq_decide.2 (or_iff_right (by omega))], rfl⟩
  obtain ⟨rfl, rfl⟩ := hcut
  rename_i hK
  refine hK _ _ ?_
  clear hK
  go_cut [3] from 52 to 56 (fun v wx => ∃ s : Nat, v = .int .i64 s ∧ Aside (1 ≤ s ∧ s ≤ 64) ∧ wx = wc)
  case first =>
    have e5 : (n1 : Int).tmod 5 = (n1 : Int) % 5 := Int.tmod_eq_emod_of_nonneg (by omega)
    by_cases hs : z < 1 ∨ 64 < z
    · have d1 : decide (z < 1 ∨ 64 < z) = true := by simp [hs]
      rw [d1]
      clear d1
      go_wp2
      go_meet
      case rel => exact ⟨1 + n1 % 5, by first | rfl | (congr 1; omega) | (simp; omega), Aside.intro (by omega), rfl⟩
    · have d1 : decide (z < 1 ∨ 64 < z) = false := by simp only [hs, decide_false]
      rw [d1]
      clear d1
      go_wp2
      go_meet
      case rel => exact ⟨z.toNat, by congr 1; omega, Aside.intro (by omega), rfl⟩
  obtain ⟨s, rfl, HS, rfl⟩ := hcut
  clear hz
  go_wp2
  go_loopw [13, 78] (fun i _ wr => ∃ k : Nat, k ≤ n1 ∧ i = .int .i64 k ∧ Aside (To w wr ga ba gb bb gc bc j (addL j xs k) (addL j xs.reverse k) [])) (fun i _ _ => n1 - (intOf i).toNat)
  case atStart => exact ⟨0, Nat.zero_le _, rfl, by rw [addL_zero, addL_zero]; exact T0⟩
  case round =>
    obtain ⟨k, hk, rfl, HR⟩ := hrel
    clear T0
    by_cases hkn : k < n1
    · have d1 : decide ((k : Int) < (n1 : Int)) = true := by simp; omega
      have hki : k < xs.length := by have := XL.out.1; omega
      obtain ⟨b0, off, rfl, c0⟩ := X1.out.rd.at HR.out.bel k hki
      obtain ⟨m, hm⟩ : ∃ m, m = n1 - 1 - k := ⟨_, rfl⟩
      have hmi : m < xs.length := by have := XL.out.1; omega
      have i0 : (0 : Int) ≤ (k : Int) := by omega
      have i1 : (k : Int) < (n1 : Int) := by omega
      have i2 : (0 : Int) ≤ (m : Int) := by omega
      have i3 : (m : Int) < (n1 : Int) := by omega
      have em : (n1 : Int) - 1 - (k : Int) = (m : Int) := by omega
      have hst1 := addL_step (j := j) (xs := xs) (k := k) hki
      have hst2 := addL_step (j := j) (xs := xs.reverse) (k := k) (by simpa using hki)
      have hrv := rev_getD hki
      rw [XL.out.1, ← hm] at hrv
      rw [hrv] at hst2
      have x0 := X1.out.wf.get k
      have y0 := X1.out.wf.get m
      obtain ⟨x, hx⟩ : ∃ x, x = xs.getD k 0 := ⟨_, rfl⟩
      obtain ⟨y, hy⟩ : ∃ y, y = xs.getD m 0 := ⟨_, rfl⟩
      rw [← hx] at c0 hst1 x0
      rw [← hy] at hst2 y0
      have Y := (Aside.intro (And.intro hst1 (And.intro hst2 (And.intro x0 (And.intro y0 (And.intro hx (And.intro hy hmi)))))))
      have C1 := hid (add18 x0 HR.out.a (by have := addL_len j xs k; omega))
      clear hst1 hst2 x0 y0 hx hy hmi hrv hki hm
      go_wp2_with fail
      refine C1.out.mono ?_
      rintro r v1 ⟨rfl, t1, ch1⟩
      have HR1 := Aside.intro (HR.out.setA t1 ch1)
      obtain ⟨b0', off', e, c3⟩ := X1.out.rd.at HR1.out.bel m Y.out.2.2.2.2.2.2
      cases e
      rw [← Y.out.2.2.2.2.2.1] at c3
      have C2 := hid (add18 Y.out.2.2.2.1 HR1.out.b (by have := addL_len j xs.reverse k; omega))
      clear C1 t1 ch1 c0
      go_wp2_with fail
      refine C2.out.mono ?_
      rintro r v2 ⟨rfl, t2, ch2⟩
      have HR2 := Aside.intro (HR1.out.setB t2 ch2)
      clear C2 t2 ch2 c3
      go_wp2
      go_roundw
      case rel => exact ⟨k + 1, by omega, by first | rfl | simp, Aside.intro (by rw [Y.out.1, Y.out.2.1]; exact HR2.out)⟩
      case measure => first | (simp [intOf]; omega) | omega
    · have d1 : decide ((k : Int) < (n1 : Int)) = false := by simp; omega
      have ek : n1 = k := by omega
      subst ek
      have HR0 : Aside (To w wr ga ba gb bb gc bc j (xs.map (vW j)) (xs.map (vW j)) (at18 j xs (fun m => decide (m % s < 0)))) := by
        refine HR.out.re ?_ ?_ ?_
        · unfold addL; rw [← XL.out.1, List.take_length]; exact List.reverse_perm _
        · unfold addL; rw [← XL.out.1, ← List.length_reverse, List.take_length, List.map_reverse, List.reverse_reverse]
        · rw [at_none (fun m hm => by simp)]
      clear HR hkn hk d1
      go_wp2
      go_loopw [14, 104] (fun i _ wr => ∃ q : Nat, q ≤ s ∧ i = .int .i64 q ∧ Aside (To w wr ga ba gb bb gc bc j (xs.map (vW j)) (xs.map (vW j)) (at18 j xs (fun m => decide (m % s < q))))) (fun i _ _ => s - (intOf i).toNat)
      case atStart => exact ⟨0, Nat.zero_le _, rfl, HR0⟩
      case round =>
        obtain ⟨q, hq, rfl, HQ⟩ := hrel
        clear HR0
        by_cases hqs : q < s
        · have d1 : decide ((q : Int) < (s : Int)) = true := by simp; omega
          have hsl : s ≤ 64 := HS.out.2
          have hs1 : 1 ≤ s := HS.out.1
          have CN := hid (fun w => new18 j w)
          go_wp2_with fail
          refine (CN.out _).mono ?_
          rintro r v0 ⟨rfl, td, hbd⟩
          obtain ⟨gd, hgd⟩ : ∃ g, g = wr.heap.size + 1 := ⟨_, rfl⟩
          obtain ⟨bd, hbb⟩ : ∃ b, b = wr.heap.size := ⟨_, rfl⟩
          rw [← hgd, ← hbb] at td
          rw [← hgd]
          have HD : Aside (Tq w v0 ga ba gb bb gc bc gd bd j (xs.map (vW j)) (xs.map (vW j)) (at18 j xs (fun m => decide (m % s < q))) (at18 j xs (fun m => decide (m % s = q ∧ m < q)))) := by
            have l := HQ.out.lts
            have sz := HQ.out.bel.size
            refine ⟨HQ.out.below hbd, ?_, by omega, by omega⟩
            rw [at_none (fun m hm => by
              simp only [decide_eq_false_iff_not]
              intro h
              have := Nat.mod_le m s
              omega)]
            exact td
          clear td hbd hgd hbb CN HQ
          go_wp2
          go_loopw [16, 99] (fun i _ wr => ∃ k : Nat, k % s = q ∧ k < n1 + s + 64 ∧ i = .int .i64 k ∧ Aside (Tq w wr ga ba gb bb gc bc gd bd j (xs.map (vW j)) (xs.map (vW j)) (at18 j xs (fun m => decide (m % s < q))) (at18 j xs (fun m => decide (m % s = q ∧ m < k))))) (fun i _ _ => n1 + s + 64 - (intOf i).toNat)
          case atStart => exact ⟨q, Nat.mod_eq_of_lt hqs, by omega, rfl, HD⟩
          case round =>
            obtain ⟨k, hkm, hkb, rfl, HK⟩ := hrel
            clear HD
            by_cases hkn : k < n1
            · have d2 : decide ((k : Int) < (n1 : Int)) = true := by simp; omega
              have hki : k < xs.length := by have := XL.out.1; omega
              obtain ⟨b0, off, rfl, c0⟩ := X1.out.rd.at HK.out.to.bel k hki
              have i0 : (0 : Int) ≤ (k : Int) := by omega
              have i1 : (k : Int) < (n1 : Int) := by omega
              have x0 := X1.out.wf.get k
              have hpm : (at18 j xs (fun m => decide (m % s = q ∧ m < k + s))).Perm (vW j (xs.getD k 0) :: at18 j xs (fun m => decide (m % s = q ∧ m < k))) := by
                refine at_one hki (by simp) (fun m hm => ?_)
                have hmk : (m % s = q ∧ m < k + s) ↔ ((m % s = q ∧ m < k) ∨ m = k) := by
                  constructor
                  · rintro ⟨h1, h2⟩
                    by_cases h3 : m < k
                    · exact Or.inl ⟨h1, h3⟩
                    · refine Or.inr ?_
                      have e1 := Nat.div_add_mod m s
                      have e2 := Nat.div_add_mod k s
                      rw [h1] at e1
                      rw [hkm] at e2
                      have h4 : m / s = k / s := by
                        have h5 : s * (m / s) < s * (k / s) + s := by omega
                        have h6 : s * (k / s) ≤ s * (m / s) := by omega
                        have h7 : m / s < k / s + 1 := by
                          apply Nat.lt_of_mul_lt_mul_left (a := s)
                          rw [Nat.mul_add, Nat.mul_one]; exact h5
                        have h8 : k / s ≤ m / s := Nat.le_of_mul_le_mul_left h6 (by omega)
                        omega
                      rw [h4] at e1
                      omega
                  · rintro (⟨h1, h2⟩ | rfl)
                    · exact ⟨h1, by omega⟩
                    · exact ⟨hkm, by omega⟩
                by_cases h9 : m % s = q ∧ m < k + s
                · rw [decide_eq_true h9]
                  rcases hmk.1 h9 with h | h
                  · rw [decide_eq_true h]; rfl
                  · subst h; simp
                · rw [decide_eq_false h9]
                  have h10 : ¬ (m % s = q ∧ m < k) := fun h => h9 (hmk.2 (Or.inl h))
                  have h11 : ¬ m = k := fun h => h9 (hmk.2 (Or.inr h))
                  rw [decide_eq_false h10]
                  simp [h11]
              obtain ⟨x, hx⟩ : ∃ x, x = xs.getD k 0 := ⟨_, rfl⟩
              rw [← hx] at c0 hpm x0
              have C1 := hid (add18 x0 HK.out.d (by have := at_len j xs (fun m => decide (m % s = q ∧ m < k)); have := XL.out.1; omega))
              have Y := (Aside.intro (And.intro hpm hkm))
              have hkm2 : (k + s) % s = q := by rw [Nat.add_mod_right]; exact hkm
              clear hpm x0 hx hki hkm
              go_wp2_with fail
              refine C1.out.mono ?_
              rintro r v1 ⟨rfl, t1, ch1⟩
              have HK1 := Aside.intro ((HK.out.set t1 ch1).re Y.out.1.symm)
              clear C1 t1 ch1 c0
              go_wp2
              go_roundw
              case rel => exact ⟨k + s, hkm2, by omega, by first | rfl | simp, HK1⟩
              case measure => first | (simp [intOf]; omega) | omega
            · have d2 : decide ((k : Int) < (n1 : Int)) = false := by simp; omega
              have eD : at18 j xs (fun m => decide (m % s = q ∧ m < k)) = at18 j xs (fun m => decide (m % s = q)) := at_congr (fun m hm => by
                have : m < k := by have := XL.out.1; omega
                simp [this])
              rw [eD] at HK
              have hp : (at18 j xs (fun m => decide (m % s < q + 1))).Perm (at18 j xs (fun m => decide (m % s < q)) ++ at18 j xs (fun m => decide (m % s = q))) := at_two (fun m hm => by
                by_cases h1 : m % s < q
                · have : m % s < q + 1 := by omega
                  simp [h1, this]
                · by_cases h2 : m % s = q
                  · simp [h2]
                  · have : ¬ m % s < q + 1 := by omega
                    simp [h1, h2, this]) (fun m hm h => by simp at h; simp; omega)
              have CM := hid (merge18 HK.out.to.c HK.out.d (by have := HK.out.ne; omega) (by have := HK.out.ne; omega) (by have := HK.out.ne; omega) (by have := HK.out.ne; omega) (by
                have l1 := at_len j xs (fun m => decide (m % s < q))
                have l2 := at_len j xs (fun m => decide (m % s = q))
                have := XL.out.1
                omega))
              rw [map_vW HK.out.d.v] at CM
              have Y := (Aside.intro (And.intro hp hsl))
              clear hp eD
              go_wp2_with fail
              refine CM.out.mono ?_
              rintro r v1 ⟨rfl, t1, ch1⟩
              have HQ1 := Aside.intro ((HK.out.to.setC t1 ch1).re (List.Perm.refl _) (List.Perm.refl _) Y.out.1.symm)
              clear CM t1 ch1
              go_wp2
              go_roundw
              case rel => exact ⟨q + 1, by omega, by first | rfl | simp, HQ1⟩
              case measure => first | (simp [intOf]; omega) | omega
        · have d1 : decide ((q : Int) < (s : Int)) = false := by simp; omega
          have eq : s = q := by omega
          subst eq
          have HV : Aside (To w wr ga ba gb bb gc bc j ((ys.take 0).map (vW j) ++ xs.map (vW j)) (xs.map (vW j)) (xs.map (vW j))) := by
            have h := HQ.out
            rw [at_all (fun m hm => by simp only [decide_eq_true_eq]; exact Nat.mod_lt _ HS.out.1)] at h
            exact Aside.intro (by simpa using h)
          clear HQ d1 hq hqs
          go_wp2
          go_loopw [18, 116] (fun i _ wr => ∃ k : Nat, k ≤ n2 ∧ i = .int .i64 k ∧ Aside (To w wr ga ba gb bb gc bc j ((ys.take k).map (vW j) ++ xs.map (vW j)) (xs.map (vW j)) (xs.map (vW j)))) (fun i _ _ => n2 - (intOf i).toNat)
          case atStart => exact ⟨0, Nat.zero_le _, rfl, HV⟩
          case round =>
            obtain ⟨k, hk, rfl, HK⟩ := hrel
            clear HV
            by_cases hkn : k < n2
            · have d2 : decide ((k : Int) < (n2 : Int)) = true := by simp; omega
              have hki : k < ys.length := by have := XL.out.2.1; omega
              obtain ⟨b0, off, rfl, c0⟩ := X2.out.rd.at HK.out.bel k hki
              have i0 : (0 : Int) ≤ (k : Int) := by omega
              have i1 : (k : Int) < (n2 : Int) := by omega
              have x0 := X2.out.wf.get k
              have hpm : (vW j (ys.getD k 0) :: ((ys.take k).map (vW j) ++ xs.map (vW j))).Perm ((ys.take (k + 1)).map (vW j) ++ xs.map (vW j)) := by
                have e : ys.take (k + 1) = ys.take k ++ [ys.getD k 0] := by rw [List.take_add_one, List.getElem?_eq_getElem hki, List.getD_eq_getElem?_getD, List.getElem?_eq_getElem hki]; rfl
                rw [e, List.map_append, List.append_assoc]
                exact List.perm_middle.symm
              obtain ⟨x, hx⟩ : ∃ x, x = ys.getD k 0 := ⟨_, rfl⟩
              rw [← hx] at c0 hpm x0
              have C1 := hid (add18 x0 HK.out.a (by have := XL.out; simp only [List.length_append, List.length_map, List.length_take]; omega))
              have Y := Aside.intro hpm
              clear hpm x0 hx hki
              go_wp2_with fail
              refine C1.out.mono ?_
              rintro r v1 ⟨rfl, t1, ch1⟩
              have HK1 := Aside.intro ((HK.out.setA t1 ch1).re Y.out (List.Perm.refl _) (List.Perm.refl _))
              clear C1 t1 ch1 c0
              go_wp2
              go_roundw
              case rel => exact ⟨k + 1, by omega, by first | rfl | simp, HK1⟩
              case measure => first | (simp [intOf]; omega) | omega
            · have d2 : decide ((k : Int) < (n2 : Int)) = false := by simp; omega
              have HV : Aside (To w wr ga ba gb bb gc bc j ((ys.drop 0).map (vW j) ++ xs.map (vW j)) (xs.map (vW j)) (xs.map (vW j))) := by
                have h := HK.out
                rw [List.take_of_length_le (by have := XL.out; omega)] at h
                exact Aside.intro (by simpa using h)
              have ek : n2 = k := by omega
              subst ek
              clear HK hk hkn d2
              go_wp2
              go_loopw [19, 130] (fun i _ wr => ∃ k : Nat, k ≤ n2 ∧ i = .int .i64 k ∧ Aside (To w wr ga ba gb bb gc bc j ((ys.drop k).map (vW j) ++ xs.map (vW j)) (xs.map (vW j)) (xs.map (vW j)))) (fun i _ _ => n2 - (intOf i).toNat)
              case atStart => exact ⟨0, Nat.zero_le _, rfl, HV⟩
              case round =>
                obtain ⟨k, hk, rfl, HK⟩ := hrel
                clear HV
                by_cases hkn : k < n2
                · have d2 : decide ((k : Int) < (n2 : Int)) = true := by simp; omega
                  have hki : k < ys.length := by have := XL.out.2.1; omega
                  obtain ⟨b0, off, rfl, c0⟩ := X2.out.rd.at HK.out.bel k hki
                  have i0 : (0 : Int) ≤ (k : Int) := by omega
                  have i1 : (k : Int) < (n2 : Int) := by omega
                  have x0 := X2.out.wf.get k
                  have e : ys.drop k = ys.getD k 0 :: ys.drop (k + 1) := by rw [List.drop_eq_getElem_cons hki, List.getD_eq_getElem?_getD, List.getElem?_eq_getElem hki]; rfl
                  obtain ⟨x, hx⟩ : ∃ x, x = ys.getD k 0 := ⟨_, rfl⟩
                  rw [← hx] at c0 e x0
                  have hA := HK.out.a
                  rw [e, List.map_cons, List.cons_append] at hA
                  have C1 := hid (take18 x0 hA (by have := XL.out; simp only [List.length_append, List.length_map, List.length_cons, List.length_drop]; omega))
                  rw [List.erase_cons_head, decide_eq_true (List.mem_cons_self ..)] at C1
                  clear e x0 hx hki hA
                  go_wp2_with fail
                  refine C1.out.mono ?_
                  rintro r v1 ⟨rfl, t1, ch1⟩
                  have HK1 := Aside.intro (HK.out.setA t1 ch1)
                  clear C1 t1 ch1 c0
                  go_wp2
                  go_roundw
                  case rel => exact ⟨k + 1, by omega, by first | rfl | simp, HK1⟩
                  case measure => first | (simp [intOf]; omega) | omega
                · have d2 : decide ((k : Int) < (n2 : Int)) = false := by simp; omega
                  obtain ⟨V, hV⟩ : ∃ V, V = xs.map (vW j) := ⟨_, rfl⟩
                  have hVl : V.length = n1 := by rw [hV, List.length_map]; exact XL.out.1
                  have HW : Aside (To w wr ga ba gb bb gc bc j V V V) := by
                    have h := HK.out
                    rw [List.drop_of_length_le (by have := XL.out; omega), ← hV] at h
                    exact Aside.intro (by simpa using h)
                  have ek : n2 = k := by omega
                  subst ek
                  have XV := (Aside.intro (And.intro hV hVl))
                  clear HK hk hkn d2 hV hVl
                  have C1 := hid (entries18 HW.out.a (by have := XV.out.2; omega))
                  go_wp2_with fail
                  refine C1.out.mono ?_
                  rintro r v1 ⟨⟨e1, E, rfl, hO1, hE⟩, hb1⟩
                  obtain ⟨aE, cE, rfl, hcE, erE⟩ := Er.of hO1
                  have HW1 := Aside.intro (HW.out.below hb1)
                  have Er1 := Aside.intro erE
                  have HE := Aside.intro hE
                  have C2 := hid (entries18 HW1.out.b (by have := XV.out.2; omega))
                  clear C1 hO1 hb1 erE HW hE hcE
                  go_wp2_with fail
                  refine C2.out.mono ?_
                  rintro r v2 ⟨⟨e2, E2, rfl, hO2, hE2⟩, hb2⟩
                  obtain ⟨a2', c2', rfl, hc2', er2⟩ := Er.of hO2
                  have ee : E2 = E := hE2.uniq HE.out (List.Perm.refl _)
                  subst ee
                  have HW2 := Aside.intro (HW1.out.below hb2)
                  have Er2 := Aside.intro (Er1.out.below hb2)
                  have hEl : E2.length ≤ 1099511627776 := by
                    have h := len_sub (E2.map (·.1)) V HE.out.nodup (fun x hx => (HE.out.keys x).1 hx)
                    have := XV.out
                    simp at h; omega
                  have CS := hid (same18 (c := cE) (d := c2') Er2.out er2 hEl)
                  clear C2 hO2 hb2 er2 HW1 hE2 Er1 hc2'
                  go_wp2_with fail
                  refine CS.out.mono ?_
                  rintro r v3 ⟨rfl, hb3⟩
                  have HW3 := Aside.intro (HW2.out.below hb3)
                  have Er3 := Aside.intro (Er2.out.below hb3)
                  have C3 := hid (entries18 HW3.out.c (by have := XV.out.2; omega))
                  clear CS hb3 HW2 Er2
                  go_wp2_with fail
                  refine C3.out.mono ?_
                  rintro r v4 ⟨⟨e4, E4, rfl, hO4, hE4⟩, hb4⟩
                  obtain ⟨a4', c4', rfl, hc4', er4⟩ := Er.of hO4
                  have ee : E4 = E2 := hE4.uniq HE.out (List.Perm.refl _)
                  subst ee
                  have HW4 := Aside.intro (HW3.out.below hb4)
                  have Er4 := Aside.intro (Er3.out.below hb4)
                  have CS := hid (same18 (c := cE) (d := c4') Er4.out er4 hEl)
                  clear C3 hO4 hb4 er4 HW3 hE4 Er3 hc4'
                  go_wp2_with fail
                  refine CS.out.mono ?_
                  rintro r v5 ⟨rfl, hb5⟩
                  have HW5 := Aside.intro (HW4.out.below hb5)
                  have Er5 := Aside.intro (Er4.out.below hb5)
                  have CA := hid (all18 HW5.out.a)
                  rw [XV.out.2] at CA
                  clear CS hb5 HW4 Er4
                  go_wp2_with fail
                  refine CA.out.mono ?_
                  rintro r v6 ⟨rfl, hv6⟩
                  subst hv6
                  clear CA
                  obtain ⟨n, hn⟩ : ∃ n, n = E4.length := ⟨_, rfl⟩
                  rw [← hn] at hEl ⊢
                  have HN := Aside.intro hn
                  clear hn
                  go_wp2
                  go_loopw [22, 23] (fun sv i wr => ∃ k : Nat, k ≤ n ∧ i = .int .i64 k ∧ sv = .int .i64 (((E4.take k).map (·.2)).sum : Nat) ∧ Aside (To w wr ga ba gb bb gc bc j V V V ∧ Er wr aE E4)) (fun _ i _ => n - (intOf i).toNat)
                  case atStart => exact ⟨0, Nat.zero_le _, rfl, rfl, Aside.intro ⟨HW5.out, Er5.out⟩⟩
                  case round =>
                    obtain ⟨k, hk, rfl, rfl, HR⟩ := hrel
                    clear HW5 Er5
                    have hsm : ((E4.take k).map (·.2)).sum ≤ 4000 := by
                      have h1 := HE.out.sum
                      have h2 := sum_take E4 k
                      have := XV.out.2
                      omega
                    by_cases hkn : k < n
                    · have d1 : decide ((k : Int) < (n : Int)) = true := by simp; omega
                      have hki : k < E4.length := by have := HN.out; omega
                      have hne : E4 ≠ [] := by rintro rfl; simp at hki
                      obtain ⟨g, rfl, hg, hc⟩ := HR.out.2 hne
                      obtain ⟨c0, c1⟩ := hc k hki
                      have hst : ((E4.take (k + 1)).map (·.2)).sum = ((E4.take k).map (·.2)).sum + (E4.getD k (0, 0)).2 := sum_step hki
                      obtain ⟨x, c, hxc⟩ : ∃ x c, E4.getD k (0, 0) = (x, c) := ⟨_, _, rfl⟩
                      have hmem : (x, c) ∈ E4 := by rw [← hxc, List.getD_eq_getElem?_getD, List.getElem?_eq_getElem hki]; exact List.getElem_mem hki
                      have hxV := (HE.out.mem x c).1 hmem
                      have hvx := HR.out.1.a.v x hxV.1
                      have hc1 : 1 ≤ c := by rw [hxV.2]; exact List.count_pos_iff.2 hxV.1
                      rw [hxc] at c0 c1 hst
                      simp only at c0 c1 hst
                      have hcl : c ≤ 4000 := by rw [hxV.2]; have := XV.out.2; exact Nat.le_trans List.count_le_length (by omega)
                      obtain ⟨S, hS⟩ : ∃ S, S = ((E4.take k).map (·.2)).sum := ⟨_, rfl⟩
                      rw [← hS] at hsm hst ⊢
                      have dc : decide ((c : Int) < 1) = false := by simp; omega
                      have i0 : (0 : Int) ≤ (k : Int) := by omega
                      have i1 : (k : Int) < (n : Int) := by omega
                      have Z := (Aside.intro (And.intro hxV (And.intro hvx (And.intro hst (And.intro hxc (And.intro hki (And.intro hc (And.intro hg hne))))))))
                      clear hxV hvx hst hmem hS
                      go_upto_region 42 with fail
                      go_cut [182] from 158 to 181 (fun v wx => v = .bool false ∧ ∃ q, wx = wr.drewN q)
                      case first =>
                        by_cases hk0 : k = 0
                        · have c1z : wr.cell? ⟨g, 1, none⟩ = some (.int .i64 c) := by rw [hk0] at c1; simpa using c1
                          have hnp : (0 : Int) < (n : Int) := by omega
                          clear hc hxc c0 c1 i0 i1 d1
                          subst hk0
                          go_quiet (fail)
                          go_wp2
                          go_meet
                          case rel => exact ⟨rfl, _, rfl⟩
                        · have dk : decide ((0 : Int) < (k : Int)) = true := by simp; omega
                          obtain ⟨m, hm⟩ : ∃ m, m = k - 1 := ⟨_, rfl⟩
                          have em : (k : Int) - 1 = (m : Int) := by omega
                          have ew : IntKind.i64.wrap ((k : Int) - 1) = (m : Int) := by rw [em, IntKind.wrap_i64]; omega
                          have kp : (0 : Int) < (k : Int) := by omega
                          have kn : 0 < k := by omega
                          have kd : decide (0 < k) = true := by simp; omega
                          have hmi : m < E4.length := by omega
                          obtain ⟨p0, p1⟩ := hc m hmi
                          have j0 : (0 : Int) ≤ (m : Int) := by omega
                          have j1 : (m : Int) < (n : Int) := by omega
                          obtain ⟨y, d, hyd⟩ : ∃ y d, E4.getD m (0, 0) = (y, d) := ⟨_, _, rfl⟩
                          have hmy : (y, d) ∈ E4 := by rw [← hyd, List.getD_eq_getElem?_getD, List.getElem?_eq_getElem hmi]; exact List.getElem_mem hmi
                          have hyV := HR.out.1.a.v y ((HE.out.mem y d).1 hmy).1
                          rw [hyd] at p0 p1
                          simp only at p0 p1
                          have hlt : tk y < tk x := by
                            have h := List.pairwise_iff_getElem.1 HE.out.up m k hmi hki (by omega)
                            rw [List.getD_eq_getElem?_getD, List.getElem?_eq_getElem hmi] at hyd
                            rw [List.getD_eq_getElem?_getD, List.getElem?_eq_getElem hki] at hxc
                            simp only [Option.getD_some] at hyd hxc
                            rw [hyd, hxc] at h
                            exact h
                          have CO := hid (fun w => rOrder18 hyV.1 Z.out.2.1.1 w)
                          have eo : B.oc (tk y) (tk x) = -1 := by unfold B.oc; rw [if_pos hlt]
                          rw [eo] at CO
                          clear hc hxc hyd hmy hyV hlt eo hm
                          go_quiet (first | (go_at_call 16; exact Calls.quiet_of_same (CO.out _)))
                          go_wp2
                          go_meet
                          case rel => exact ⟨rfl, _, rfl⟩
                      obtain ⟨rfl, q1, rfl⟩ := hcut
                      clear hc hxc
                      have HR1 : Aside (To w (wr.drewN q1) ga ba gb bb gc bc j V V V ∧ Er (wr.drewN q1) (some ⟨g, 0, none⟩) E4) := ⟨HR.out.1.drewN _, HR.out.2.drewN _⟩
                      have k1 : (wr.drewN q1).cell? ⟨g, k * 2 + 1, none⟩ = some (.int .i64 c) := c1
                      obtain ⟨W1, hW1⟩ : ∃ W, W = wr.drewN q1 := ⟨_, rfl⟩
                      rw [← hW1] at HR1 k1 ⊢
                      clear hW1 HR c0 c1
                      go_wp2
                      go_loopw [24, 25] (fun nv i wr => ∃ m : Nat, m ≤ n1 ∧ i = .int .i64 m ∧ nv = .int .i64 ((V.take m).count x : Nat) ∧ Aside (To w wr ga ba gb bb gc bc j V V V ∧ Er wr (some ⟨g, 0, none⟩) E4)) (fun _ i _ => n1 - (intOf i).toNat)
                      case atStart => exact ⟨0, Nat.zero_le _, rfl, by simp, HR1⟩
                      case round =>
                        obtain ⟨m, hm, rfl, rfl, HM⟩ := hrel
                        clear HR1 k1
                        have hcm : (V.take m).count x ≤ 4000 := by have h1 : (V.take m).count x ≤ (V.take m).length := List.count_le_length; simp at h1; omega
                        obtain ⟨g', eg, hg', hc'⟩ := HM.out.2 Z.out.2.2.2.2.2.2.2
                        cases eg
                        obtain ⟨c0, c1⟩ := hc' k Z.out.2.2.2.2.1
                        rw [Z.out.2.2.2.1] at c0 c1
                        simp only at c0 c1
                        by_cases hmn : m < n1
                        · have d2 : decide ((m : Int) < (n1 : Int)) = true := by simp; omega
                          have hmi : m < xs.length := by have := XL.out.1; omega
                          obtain ⟨b0, off, rfl, e0⟩ := X1.out.rd.at HM.out.1.bel m hmi
                          have y0 := X1.out.wf.get m
                          have j0 : (0 : Int) ≤ (m : Int) := by omega
                          have j1 : (m : Int) < (n1 : Int) := by omega
                          have hst : (V.take (m + 1)).count x = (V.take m).count x + (if vW j (xs.getD m 0) = x then 1 else 0) := by
                            rw [XV.out.1]; exact count_step hmi
                          obtain ⟨y, hy⟩ : ∃ y, y = xs.getD m 0 := ⟨_, rfl⟩
                          rw [← hy] at e0 y0 hst
                          obtain ⟨N, hN⟩ : ∃ N, N = (V.take m).count x := ⟨_, rfl⟩
                          rw [← hN] at hcm hst ⊢
                          have CS := hid (fun w => rSame18 y0 Z.out.2.1.1 w)
                          have HL := Aside.intro (alike_v (j := j) y0 Z.out.2.1)
                          have zy := eqz18 y0
                          have zx := eqz18 Z.out.2.1.1
                          have Y := (Aside.intro (And.intro hst (And.intro hN hy)))
                          clear hst hN hy hmi hc' hg'
                          go_upto_region 49 with fail
                          go_cut [26] from 196 to 223 (fun v wx => v = .bool (decide (vW j y = x)) ∧ ∃ q, wx = wr.drewN q)
                          case first =>
                            by_cases q1 : nrm y = nrm x
                            · rw [decide_eq_true q1] at CS
                              clear zy zx
                              go_quiet (first | (go_at_call 17; exact Calls.quiet_of_same (CS.out _)))
                              go_wp2
                              go_meet
                              case rel => exact ⟨by rw [← HL.out]; simp [q1], _, rfl⟩
                            · rw [decide_eq_false q1] at CS
                              cases j
                              · clear zy zx
                                go_quiet (first | (go_at_call 17; exact Calls.quiet_of_same (CS.out _)))
                                go_wp2
                                go_meet
                                case rel => exact ⟨by rw [← HL.out]; simp [q1], _, rfl⟩
                              · by_cases q2 : magW y = 0
                                · rw [decide_eq_true q2] at zy
                                  by_cases q3 : magW x = 0
                                  · rw [decide_eq_true q3] at zx
                                    go_quiet (first | (go_at_call 17; exact Calls.quiet_of_same (CS.out _)))
                                    go_wp2
                                    go_meet
                                    case rel => exact ⟨by rw [← HL.out]; simp [q1, q2, q3], _, rfl⟩
                                  · rw [decide_eq_false q3] at zx
                                    go_quiet (first | (go_at_call 17; exact Calls.quiet_of_same (CS.out _)))
                                    go_wp2
                                    go_meet
                                    case rel => exact ⟨by rw [← HL.out]; simp [q1, q2, q3], _, rfl⟩
                                · rw [decide_eq_false q2] at zy
                                  clear zx
                                  go_quiet (first | (go_at_call 17; exact Calls.quiet_of_same (CS.out _)))
                                  go_wp2
                                  go_meet
                                  case rel => exact ⟨by rw [← HL.out]; simp [q1, q2], _, rfl⟩
                          obtain ⟨rfl, q2, rfl⟩ := hcut
                          have HM1 : Aside (To w (wr.drewN q2) ga ba gb bb gc bc j V V V ∧ Er (wr.drewN q2) (some ⟨g, 0, none⟩) E4) := ⟨HM.out.1.drewN _, HM.out.2.drewN _⟩
                          clear CS HL zy zx c0 c1 e0
                          by_cases q4 : vW j y = x
                          · rw [decide_eq_true q4]
                            have e1 := Y.out.1
                            rw [if_pos q4] at e1
                            go_wp2
                            go_roundw
                            case rel => exact ⟨m + 1, by omega, by first | rfl | simp, by rw [e1]; first | rfl | simp, HM1⟩
                            case measure => first | (simp [intOf]; omega) | omega
                          · rw [decide_eq_false q4]
                            have e1 := Y.out.1
                            rw [if_neg q4] at e1
                            go_wp2
                            go_roundw
                            case rel => exact ⟨m + 1, by omega, by first | rfl | simp, by rw [e1]; first | rfl | simp, HM1⟩
                            case measure => first | (simp [intOf]; omega) | omega
                        · have d2 : decide ((m : Int) < (n1 : Int)) = false := by simp; omega
                          have ecn : (V.take m).count x = c := by
                            rw [List.take_of_length_le (by have := XV.out.2; omega), Z.out.1.2]
                          rw [ecn]
                          have CC := hid (count18 Z.out.2.1.1 HM.out.1.a)
                          rw [Z.out.2.1.2, ← Z.out.1.2] at CC
                          clear hcm ecn hc' hg'
                          go_wp2_with fail
                          refine CC.out.mono ?_
                          rintro r v9 ⟨rfl, hb9⟩
                          have HR9 : Aside (To w v9 ga ba gb bb gc bc j V V V ∧ Er v9 (some ⟨g, 0, none⟩) E4) := ⟨HM.out.1.below hb9, HM.out.2.below hb9⟩
                          have hst := Z.out.2.2.1
                          clear CC hb9 c0 c1
                          go_wp2
                          go_roundw
                          case rel => exact ⟨k + 1, by omega, by first | rfl | simp, by rw [hst]; first | rfl | simp, HR9⟩
                          case measure => first | (simp [intOf]; omega) | omega
                    · have d1 : decide ((k : Int) < (n : Int)) = false := by simp; omega
                      have es : ((E4.take k).map (·.2)).sum = n1 := by
                        rw [List.take_of_length_le (by have := HN.out; omega), HE.out.sum]; exact XV.out.2
                      rw [es]
                      have CU := hid (unlike18 HR.out.1.a HE.out.nodup (fun x => HE.out.keys x))
                      rw [List.length_map, ← HN.out] at CU
                      go_wp2_with fail
                      refine CU.out.mono ?_
                      rintro r v9 ⟨rfl, hv9⟩
                      subst hv9
                      go_wp2
                      go_ret
                      exact ⟨rfl, HR.out.1.bel⟩
end Go.Proofs.Ytgnmnljmgmbmhaa
