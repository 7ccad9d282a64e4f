/- Bins: Merge. -/
import Derived.Test.YtjpaocgimdinmaaGreatDoorJ13x
import Derived.LoopN
import Derived.ArgAppend
import Derived.Maps.AppendAt
import Derived.WalkMore
import Derived.OwnWalk
import Derived.Test.YtjpaocgimdinmaaGreatDoorD16x
import Derived.Test.YtjpaocgimdinmaaGreatDoorD3x
import Derived.Test.YtjpaocgimdinmaaGreatDoorD32x
namespace Go.Proofs.YtjpaocgimdinmaaGreatDoor
open Go Go.RowKit
set_option linter.unusedVariables false
set_option maxRecDepth 20000
set_option linter.unusedSimpArgs false

/-- What bins count when so many of another one's were put in. -/
def mD (D : Int → Int) (To : Int) (Ko : Nat → Int) : Nat → Int → Int
  | 0 => D
  | n + 1 => upd (mD D To Ko n) (To - n) (Ko n)
theorem mD_eq (D : Int → Int) (To : Int) (Ko : Nat → Int) (n : Nat) (t : Int) : mD D To Ko n t = D t + (if To - n < t ∧ t ≤ To then Ko (To - t).toNat else 0) := by
  induction n with
  | zero => rw [if_neg (by omega), Int.add_zero]; rfl
  | succ n ih =>
    show upd (mD D To Ko n) (To - n) (Ko n) t = _
    unfold upd
    rw [ih]
    by_cases h : t = To - n
    · rw [if_pos h, if_neg (by omega), if_pos (by omega), Int.add_zero, show (To - t).toNat = n by omega]
    · rw [if_neg h]
      by_cases h2 : To - n < t ∧ t ≤ To
      · rw [if_pos h2, if_pos (by omega)]
      · rw [if_neg h2, if_neg (by omega)]
theorem mD_kf (f : Nat) (T T' To : Int) (D Do : Int → Int) (hf : f ≤ 8) (hT : To ≤ T') (ho : ∀ t, To < t → Do t = 0) : kf f T' (mD D To (kf f To Do) 8) = kf f T' (fun t => D t + Do t) := by
  funext k
  unfold kf
  by_cases h : k < f
  · rw [if_pos h, if_pos h, mD_eq]
    by_cases h2 : T' - k ≤ To
    · rw [if_pos (by omega), if_pos (by omega)]
      congr 2; omega
    · rw [if_neg (by omega)]; show _ = D (T' - k) + Do (T' - k); rw [ho (T' - k) (by omega)]
  · rw [if_neg h, if_neg h]
theorem mD_abs (f : Nat) (To : Int) (D Do : Int → Int) (n : Nat) (h1 : ∀ t, (D t).natAbs ≤ 2 ^ 73) (h2 : ∀ t, (Do t).natAbs ≤ 2 ^ 73) (t : Int) : (mD D To (kf f To Do) n t).natAbs ≤ 2 ^ 74 := by
  rw [mD_eq]
  have := h1 t
  split
  · unfold kf
    split
    · have := h2 (To - ((To - t).toNat : Int)); omega
    · omega
  · omega
set_option maxHeartbeats 400000 in
theorem Merge_arg (g g2 f f2 : Nat) (c c2 T T2 : Int) (D D2 : Int → Int) (w : World) (hB : Bs w g f c T D) (hB2 : Bs w g2 f2 c2 T2 D2) (hf : f ≠ f2) :
    Calls Tryz.prog 27 #[.pointer (some ⟨g, 0, none⟩), .pointer (some ⟨g2, 0, none⟩)] w fun r w' => r = .returned (.int .i64 1) ∧ Below w.heap.size w w' := by
  have k0 := hB.fold
  have k1 := hB2.fold
  have d0 : ((f : Int) == (f2 : Int)) = false := by simp; omega
  have d0' : ¬ ((f : Int) = (f2 : Int)) := by omega
  clear hB hB2 hf
  go_enter Tryz.func27, Tryz.ntmps27
  go_wp2_with fail
  go_region
  go_wp2
  go_ret
  exact ⟨rfl, (Below.refl _ _).drew⟩
set_option maxHeartbeats 400000 in
theorem Merge_long (g g2 f : Nat) (c c2 T T2 : Int) (D D2 : Int → Int) (w : World) (hB : Bs w g f c T D) (hB2 : Bs w g2 f c2 T2 D2) (hc : 1099511627776 < c + c2) (h0 : 0 ≤ c ∧ c ≤ 1099511627776) (h1 : 0 ≤ c2 ∧ c2 ≤ 1099511627776) :
    Calls Tryz.prog 27 #[.pointer (some ⟨g, 0, none⟩), .pointer (some ⟨g2, 0, none⟩)] w fun r w' => r = .returned (.int .i64 2) ∧ Below w.heap.size w w' := by
  have k0 := hB.fold
  have k1 := hB2.fold
  have k2 := hB.cnt
  have k3 := hB2.cnt
  have d1 : decide (1099511627776 < c + c2) = true := by simp; omega
  clear hB hB2
  go_enter Tryz.func27, Tryz.ntmps27
  go_wp2_with fail
  go_region
  go_wp2_with fail
  go_region
  go_wp2
  go_ret
  exact ⟨rfl, ((Below.refl _ _).drew).drew⟩
attribute [local go_sem] idx9_0 idx9_1 idx9_2 idx9_3 idx9_4 idx9_5 idx9_6 idx9_7 in
set_option maxHeartbeats 2000000 in
theorem Merge_core (g g2 f : Nat) (c c2 T To : Int) (D : Int → Int) (Ko : Nat → Int) (w : World) (hB : Bs w g f c T D) (hf : f ≤ 8) (hT : -1 ≤ To ∧ To ≤ 66) (hc : c + c2 ≤ 1099511627776) (h0 : 0 ≤ c ∧ c ≤ 1099511627776) (h1 : 0 ≤ c2 ∧ c2 ≤ 1099511627776)
    (hlt2 : g2 < w.heap.size)
    (HO : Hid (∀ u T' D', Bs u g f c T' D' → (T' = T ∨ T' = max T To) → But g w u → u.cell? ⟨g2, 0, none⟩ = some (.int .i64 f) ∧ u.cell? ⟨g2, 1, none⟩ = some (.int .i64 c2) ∧ u.cell? ⟨g2, 2, none⟩ = some (.int .i64 (To - 34))))
    (HK : Hid (∀ u, Bs u g f c (max T To) D → But g w u → u.rangeAt g2 3 [.int .i64 (Ko 0 / 4294967296), .int .i64 (Ko 0 % 4294967296), .int .i64 (Ko 1 / 4294967296), .int .i64 (Ko 1 % 4294967296), .int .i64 (Ko 2 / 4294967296), .int .i64 (Ko 2 % 4294967296), .int .i64 (Ko 3 / 4294967296), .int .i64 (Ko 3 % 4294967296), .int .i64 (Ko 4 / 4294967296), .int .i64 (Ko 4 % 4294967296), .int .i64 (Ko 5 / 4294967296), .int .i64 (Ko 5 % 4294967296), .int .i64 (Ko 6 / 4294967296), .int .i64 (Ko 6 % 4294967296), .int .i64 (Ko 7 / 4294967296), .int .i64 (Ko 7 % 4294967296)]))
    (HR : Hid (∀ u, Bs u g f c T D → Calls Tryz.prog 83 #[.pointer (some ⟨g, 0, none⟩), .int .i64 (To - 34)] u fun r w' => r = .returned (.tuple #[]) ∧ Bs w' g f c (max T To) D ∧ But g u w'))
    (HP : ∀ n : Nat, n < 8 → Hid (∀ u, Bs u g f c (max T To) (mD D To Ko n) → Calls Tryz.prog 84 #[.pointer (some ⟨g, 0, none⟩), .int .i64 (To - 34 - n), .agg #[.int .i64 (Ko n / 4294967296), .int .i64 (Ko n % 4294967296)]] u fun r w' => r = .returned (.tuple #[]) ∧ Bs w' g f c (max T To) (mD D To Ko (n + 1)) ∧ But g u w')) :
    Calls Tryz.prog 27 #[.pointer (some ⟨g, 0, none⟩), .pointer (some ⟨g2, 0, none⟩)] w fun r w' => r = .returned (.int .i64 0) ∧ Bs w' g f (c + c2) (max T To) (mD D To Ko 8) ∧ But g w w' := by
  have P0 : Hid (∀ u, Bs u g f c (max T To) (mD D To Ko 0) → Calls Tryz.prog 84 #[.pointer (some ⟨g, 0, none⟩), .int .i64 (To - 34), .agg #[.int .i64 (Ko 0 / 4294967296), .int .i64 (Ko 0 % 4294967296)]] u fun r w' => r = .returned (.tuple #[]) ∧ Bs w' g f c (max T To) (mD D To Ko 1) ∧ But g u w') := by
    have := HP 0 (by omega)
    rw [show To - 34 - ((0 : Nat) : Int) = To - 34 by omega] at this
    exact this
  have P1 : Hid (∀ u, Bs u g f c (max T To) (mD D To Ko 1) → Calls Tryz.prog 84 #[.pointer (some ⟨g, 0, none⟩), .int .i64 (To - 34 - 1), .agg #[.int .i64 (Ko 1 / 4294967296), .int .i64 (Ko 1 % 4294967296)]] u fun r w' => r = .returned (.tuple #[]) ∧ Bs w' g f c (max T To) (mD D To Ko 2) ∧ But g u w') := HP 1 (by omega)
  have P2 : Hid (∀ u, Bs u g f c (max T To) (mD D To Ko 2) → Calls Tryz.prog 84 #[.pointer (some ⟨g, 0, none⟩), .int .i64 (To - 34 - 2), .agg #[.int .i64 (Ko 2 / 4294967296), .int .i64 (Ko 2 % 4294967296)]] u fun r w' => r = .returned (.tuple #[]) ∧ Bs w' g f c (max T To) (mD D To Ko 3) ∧ But g u w') := HP 2 (by omega)
  have P3 : Hid (∀ u, Bs u g f c (max T To) (mD D To Ko 3) → Calls Tryz.prog 84 #[.pointer (some ⟨g, 0, none⟩), .int .i64 (To - 34 - 3), .agg #[.int .i64 (Ko 3 / 4294967296), .int .i64 (Ko 3 % 4294967296)]] u fun r w' => r = .returned (.tuple #[]) ∧ Bs w' g f c (max T To) (mD D To Ko 4) ∧ But g u w') := HP 3 (by omega)
  have P4 : Hid (∀ u, Bs u g f c (max T To) (mD D To Ko 4) → Calls Tryz.prog 84 #[.pointer (some ⟨g, 0, none⟩), .int .i64 (To - 34 - 4), .agg #[.int .i64 (Ko 4 / 4294967296), .int .i64 (Ko 4 % 4294967296)]] u fun r w' => r = .returned (.tuple #[]) ∧ Bs w' g f c (max T To) (mD D To Ko 5) ∧ But g u w') := HP 4 (by omega)
  have P5 : Hid (∀ u, Bs u g f c (max T To) (mD D To Ko 5) → Calls Tryz.prog 84 #[.pointer (some ⟨g, 0, none⟩), .int .i64 (To - 34 - 5), .agg #[.int .i64 (Ko 5 / 4294967296), .int .i64 (Ko 5 % 4294967296)]] u fun r w' => r = .returned (.tuple #[]) ∧ Bs w' g f c (max T To) (mD D To Ko 6) ∧ But g u w') := HP 5 (by omega)
  have P6 : Hid (∀ u, Bs u g f c (max T To) (mD D To Ko 6) → Calls Tryz.prog 84 #[.pointer (some ⟨g, 0, none⟩), .int .i64 (To - 34 - 6), .agg #[.int .i64 (Ko 6 / 4294967296), .int .i64 (Ko 6 % 4294967296)]] u fun r w' => r = .returned (.tuple #[]) ∧ Bs w' g f c (max T To) (mD D To Ko 7) ∧ But g u w') := HP 6 (by omega)
  have P7 : Hid (∀ u, Bs u g f c (max T To) (mD D To Ko 7) → Calls Tryz.prog 84 #[.pointer (some ⟨g, 0, none⟩), .int .i64 (To - 34 - 7), .agg #[.int .i64 (Ko 7 / 4294967296), .int .i64 (Ko 7 % 4294967296)]] u fun r w' => r = .returned (.tuple #[]) ∧ Bs w' g f c (max T To) (mD D To Ko 8) ∧ But g u w') := HP 7 (by omega)
  clear HP
  have hl := hB.lt
  obtain ⟨da, hda⟩ := Tryz.row_arr9
  have HE := Aside.intro hda
  clear hda
  have HS4 : Aside ((Tryz.prog.info? 141).map (·.size) = some ([.int .i64 (Ko 0 / 4294967296), .int .i64 (Ko 0 % 4294967296), .int .i64 (Ko 1 / 4294967296), .int .i64 (Ko 1 % 4294967296), .int .i64 (Ko 2 / 4294967296), .int .i64 (Ko 2 % 4294967296), .int .i64 (Ko 3 / 4294967296), .int .i64 (Ko 3 % 4294967296), .int .i64 (Ko 4 / 4294967296), .int .i64 (Ko 4 % 4294967296), .int .i64 (Ko 5 / 4294967296), .int .i64 (Ko 5 % 4294967296), .int .i64 (Ko 6 / 4294967296), .int .i64 (Ko 6 % 4294967296), .int .i64 (Ko 7 / 4294967296), .int .i64 (Ko 7 % 4294967296)] : List Value).length) := Tryz.size_arr9
  have HA := Aside.intro (And.intro hB (But.refl g w))
  have q0 := hB.fold
  have q1 := hB.cnt
  obtain ⟨y0, y1, y2⟩ := HO.out w T D hB (.inl rfl) (But.refl g w)
  have d1 : decide (1099511627776 < c + c2) = false := by simp; omega
  have HBw := Aside.intro hB
  clear hB
  go_enter Tryz.func27, Tryz.ntmps27
  go_wp2_with fail
  go_region
  go_wp2_with fail
  go_region
  go_wp2_with fail
  have HB2 : Aside (Bs w.drew.drew g f c T D ∧ But g w w.drew.drew) := ⟨HBw.out.drew.drew, (But.refl g w).drew.drew⟩
  with_reducible refine (HR.out _ HB2.out.1).mono ?_
  rintro r u0 ⟨rfl, hB0, hbt0⟩
  have HAz0 : Aside (Bs u0 g f c (max T To) (mD D To Ko 0) ∧ But g w u0) := ⟨hB0, HB2.out.2.trans hbt0⟩
  have HR2 := Aside.intro (HK.out u0 hB0 HAz0.out.2)
  clear hB0 hbt0 HB2 HBw HR y0 y1 y2 q0 q1 HA HK
  go_wp2_with (first
    | ((with_reducible refine wpList_load_mid (P := Tryz.prog) rfl 141 (.tmp 36) rfl g2 3 rfl [.int .i64 (Ko 0 / 4294967296), .int .i64 (Ko 0 % 4294967296), .int .i64 (Ko 1 / 4294967296), .int .i64 (Ko 1 % 4294967296), .int .i64 (Ko 2 / 4294967296), .int .i64 (Ko 2 % 4294967296), .int .i64 (Ko 3 / 4294967296), .int .i64 (Ko 3 % 4294967296), .int .i64 (Ko 4 / 4294967296), .int .i64 (Ko 4 % 4294967296), .int .i64 (Ko 5 / 4294967296), .int .i64 (Ko 5 % 4294967296), .int .i64 (Ko 6 / 4294967296), .int .i64 (Ko 6 % 4294967296), .int .i64 (Ko 7 / 4294967296), .int .i64 (Ko 7 % 4294967296)] da HR2.out HE.out.1 HE.out.2 HS4.out ?_)))
  clear HR2
  refine wp_loop_rounds 9 ?_
  obtain ⟨U, hU⟩ : ∃ U, U = u0.alloc (.cells #[.int .i64 (Ko 0 / 4294967296), .int .i64 (Ko 0 % 4294967296)] 140) := ⟨_, rfl⟩
  have HV : Aside (Bs U.drew g f c (max T To) (mD D To Ko 0) ∧ But g w U.drew ∧ Bl U.drew u0.heap.size 140 [.int .i64 (Ko 0 / 4294967296), .int .i64 (Ko 0 % 4294967296)] ∧ g < u0.heap.size) := by
    subst hU
    exact ⟨(HAz0.out.1.alloc _).drew, (HAz0.out.2.alloc _).drew, (Bl.new u0 140 [_, _]).drew, HAz0.out.1.lt⟩
  have HU := Aside.intro hU
  clear hU
  have kS := Aside.intro (And.intro (HO.out _ _ _ HV.out.1 (.inr rfl) HV.out.2.1).2.2 (And.intro (HV.out.2.2.1.cell 0 _ rfl) (HV.out.2.2.1.cell 1 _ rfl)))
  have hw : IntKind.i64.wrap (To - 34) = To - 34 := by rw [IntKind.wrap_i64]; omega
  rw [rounds_succ]
  go_wp2_with fail
  rw [← HU.out]
  go_region_held (fun v => v.cell? ⟨g2, 2, none⟩ = some (.int .i64 (To - 34)) ∧ v.cell? ⟨u0.heap.size, 0, none⟩ = some (.int .i64 (Ko 0 / 4294967296)) ∧ v.cell? ⟨u0.heap.size, 1, none⟩ = some (.int .i64 (Ko 0 % 4294967296))) (first | with_reducible exact kT.out | with_reducible exact kS.out) (first
    | (go_at_call 84
       with_reducible refine (P0.out _ HV.out.1).mono ?_
       rintro r u1 ⟨rfl, hBu, hbt⟩
       have HAz1 : Aside (Bs u1 g f c (max T To) (mD D To Ko 1) ∧ But g w u1) := ⟨hBu, HV.out.2.1.trans hbt⟩
       have bb := HV.out.2.2.1.but hbt (by have := HV.out.2.2.2; omega)
       have kT := Aside.intro (And.intro (HO.out _ _ _ HAz1.out.1 (.inr rfl) HAz1.out.2).2.2 (And.intro (bb.cell 0 _ rfl) (bb.cell 1 _ rfl)))
       clear bb hBu hbt))
  clear kS kT hw HV HU HAz0 P0 U
  go_wp2_with fail
  obtain ⟨U, hU⟩ : ∃ U, U = u1.alloc (.cells #[.int .i64 (Ko 1 / 4294967296), .int .i64 (Ko 1 % 4294967296)] 140) := ⟨_, rfl⟩
  have HV : Aside (Bs U.drew g f c (max T To) (mD D To Ko 1) ∧ But g w U.drew ∧ Bl U.drew u1.heap.size 140 [.int .i64 (Ko 1 / 4294967296), .int .i64 (Ko 1 % 4294967296)] ∧ g < u1.heap.size) := by
    subst hU
    exact ⟨(HAz1.out.1.alloc _).drew, (HAz1.out.2.alloc _).drew, (Bl.new u1 140 [_, _]).drew, HAz1.out.1.lt⟩
  have HU := Aside.intro hU
  clear hU
  have kS := Aside.intro (And.intro (HO.out _ _ _ HV.out.1 (.inr rfl) HV.out.2.1).2.2 (And.intro (HV.out.2.2.1.cell 0 _ rfl) (HV.out.2.2.1.cell 1 _ rfl)))
  have hw : IntKind.i64.wrap (To - 34 - 1) = To - 34 - 1 := by rw [IntKind.wrap_i64]; omega
  rw [rounds_succ]
  go_wp2_with fail
  rw [← HU.out]
  go_region_held (fun v => v.cell? ⟨g2, 2, none⟩ = some (.int .i64 (To - 34)) ∧ v.cell? ⟨u1.heap.size, 0, none⟩ = some (.int .i64 (Ko 1 / 4294967296)) ∧ v.cell? ⟨u1.heap.size, 1, none⟩ = some (.int .i64 (Ko 1 % 4294967296))) (first | with_reducible exact kT.out | with_reducible exact kS.out) (first
    | (go_at_call 84
       with_reducible refine (P1.out _ HV.out.1).mono ?_
       rintro r u2 ⟨rfl, hBu, hbt⟩
       have HAz2 : Aside (Bs u2 g f c (max T To) (mD D To Ko 2) ∧ But g w u2) := ⟨hBu, HV.out.2.1.trans hbt⟩
       have bb := HV.out.2.2.1.but hbt (by have := HV.out.2.2.2; omega)
       have kT := Aside.intro (And.intro (HO.out _ _ _ HAz2.out.1 (.inr rfl) HAz2.out.2).2.2 (And.intro (bb.cell 0 _ rfl) (bb.cell 1 _ rfl)))
       clear bb hBu hbt))
  clear kS kT hw HV HU HAz1 P1 U
  go_wp2_with fail
  obtain ⟨U, hU⟩ : ∃ U, U = u2.alloc (.cells #[.int .i64 (Ko 2 / 4294967296), .int .i64 (Ko 2 % 4294967296)] 140) := ⟨_, rfl⟩
  have HV : Aside (Bs U.drew g f c (max T To) (mD D To Ko 2) ∧ But g w U.drew ∧ Bl U.drew u2.heap.size 140 [.int .i64 (Ko 2 / 4294967296), .int .i64 (Ko 2 % 4294967296)] ∧ g < u2.heap.size) := by
    subst hU
    exact ⟨(HAz2.out.1.alloc _).drew, (HAz2.out.2.alloc _).drew, (Bl.new u2 140 [_, _]).drew, HAz2.out.1.lt⟩
  have HU := Aside.intro hU
  clear hU
  have kS := Aside.intro (And.intro (HO.out _ _ _ HV.out.1 (.inr rfl) HV.out.2.1).2.2 (And.intro (HV.out.2.2.1.cell 0 _ rfl) (HV.out.2.2.1.cell 1 _ rfl)))
  have hw : IntKind.i64.wrap (To - 34 - 2) = To - 34 - 2 := by rw [IntKind.wrap_i64]; omega
  rw [rounds_succ]
  go_wp2_with fail
  rw [← HU.out]
  go_region_held (fun v => v.cell? ⟨g2, 2, none⟩ = some (.int .i64 (To - 34)) ∧ v.cell? ⟨u2.heap.size, 0, none⟩ = some (.int .i64 (Ko 2 / 4294967296)) ∧ v.cell? ⟨u2.heap.size, 1, none⟩ = some (.int .i64 (Ko 2 % 4294967296))) (first | with_reducible exact kT.out | with_reducible exact kS.out) (first
    | (go_at_call 84
       with_reducible refine (P2.out _ HV.out.1).mono ?_
       rintro r u3 ⟨rfl, hBu, hbt⟩
       have HAz3 : Aside (Bs u3 g f c (max T To) (mD D To Ko 3) ∧ But g w u3) := ⟨hBu, HV.out.2.1.trans hbt⟩
       have bb := HV.out.2.2.1.but hbt (by have := HV.out.2.2.2; omega)
       have kT := Aside.intro (And.intro (HO.out _ _ _ HAz3.out.1 (.inr rfl) HAz3.out.2).2.2 (And.intro (bb.cell 0 _ rfl) (bb.cell 1 _ rfl)))
       clear bb hBu hbt))
  clear kS kT hw HV HU HAz2 P2 U
  go_wp2_with fail
  obtain ⟨U, hU⟩ : ∃ U, U = u3.alloc (.cells #[.int .i64 (Ko 3 / 4294967296), .int .i64 (Ko 3 % 4294967296)] 140) := ⟨_, rfl⟩
  have HV : Aside (Bs U.drew g f c (max T To) (mD D To Ko 3) ∧ But g w U.drew ∧ Bl U.drew u3.heap.size 140 [.int .i64 (Ko 3 / 4294967296), .int .i64 (Ko 3 % 4294967296)] ∧ g < u3.heap.size) := by
    subst hU
    exact ⟨(HAz3.out.1.alloc _).drew, (HAz3.out.2.alloc _).drew, (Bl.new u3 140 [_, _]).drew, HAz3.out.1.lt⟩
  have HU := Aside.intro hU
  clear hU
  have kS := Aside.intro (And.intro (HO.out _ _ _ HV.out.1 (.inr rfl) HV.out.2.1).2.2 (And.intro (HV.out.2.2.1.cell 0 _ rfl) (HV.out.2.2.1.cell 1 _ rfl)))
  have hw : IntKind.i64.wrap (To - 34 - 3) = To - 34 - 3 := by rw [IntKind.wrap_i64]; omega
  rw [rounds_succ]
  go_wp2_with fail
  rw [← HU.out]
  go_region_held (fun v => v.cell? ⟨g2, 2, none⟩ = some (.int .i64 (To - 34)) ∧ v.cell? ⟨u3.heap.size, 0, none⟩ = some (.int .i64 (Ko 3 / 4294967296)) ∧ v.cell? ⟨u3.heap.size, 1, none⟩ = some (.int .i64 (Ko 3 % 4294967296))) (first | with_reducible exact kT.out | with_reducible exact kS.out) (first
    | (go_at_call 84
       with_reducible refine (P3.out _ HV.out.1).mono ?_
       rintro r u4 ⟨rfl, hBu, hbt⟩
       have HAz4 : Aside (Bs u4 g f c (max T To) (mD D To Ko 4) ∧ But g w u4) := ⟨hBu, HV.out.2.1.trans hbt⟩
       have bb := HV.out.2.2.1.but hbt (by have := HV.out.2.2.2; omega)
       have kT := Aside.intro (And.intro (HO.out _ _ _ HAz4.out.1 (.inr rfl) HAz4.out.2).2.2 (And.intro (bb.cell 0 _ rfl) (bb.cell 1 _ rfl)))
       clear bb hBu hbt))
  clear kS kT hw HV HU HAz3 P3 U
  go_wp2_with fail
  obtain ⟨U, hU⟩ : ∃ U, U = u4.alloc (.cells #[.int .i64 (Ko 4 / 4294967296), .int .i64 (Ko 4 % 4294967296)] 140) := ⟨_, rfl⟩
  have HV : Aside (Bs U.drew g f c (max T To) (mD D To Ko 4) ∧ But g w U.drew ∧ Bl U.drew u4.heap.size 140 [.int .i64 (Ko 4 / 4294967296), .int .i64 (Ko 4 % 4294967296)] ∧ g < u4.heap.size) := by
    subst hU
    exact ⟨(HAz4.out.1.alloc _).drew, (HAz4.out.2.alloc _).drew, (Bl.new u4 140 [_, _]).drew, HAz4.out.1.lt⟩
  have HU := Aside.intro hU
  clear hU
  have kS := Aside.intro (And.intro (HO.out _ _ _ HV.out.1 (.inr rfl) HV.out.2.1).2.2 (And.intro (HV.out.2.2.1.cell 0 _ rfl) (HV.out.2.2.1.cell 1 _ rfl)))
  have hw : IntKind.i64.wrap (To - 34 - 4) = To - 34 - 4 := by rw [IntKind.wrap_i64]; omega
  rw [rounds_succ]
  go_wp2_with fail
  rw [← HU.out]
  go_region_held (fun v => v.cell? ⟨g2, 2, none⟩ = some (.int .i64 (To - 34)) ∧ v.cell? ⟨u4.heap.size, 0, none⟩ = some (.int .i64 (Ko 4 / 4294967296)) ∧ v.cell? ⟨u4.heap.size, 1, none⟩ = some (.int .i64 (Ko 4 % 4294967296))) (first | with_reducible exact kT.out | with_reducible exact kS.out) (first
    | (go_at_call 84
       with_reducible refine (P4.out _ HV.out.1).mono ?_
       rintro r u5 ⟨rfl, hBu, hbt⟩
       have HAz5 : Aside (Bs u5 g f c (max T To) (mD D To Ko 5) ∧ But g w u5) := ⟨hBu, HV.out.2.1.trans hbt⟩
       have bb := HV.out.2.2.1.but hbt (by have := HV.out.2.2.2; omega)
       have kT := Aside.intro (And.intro (HO.out _ _ _ HAz5.out.1 (.inr rfl) HAz5.out.2).2.2 (And.intro (bb.cell 0 _ rfl) (bb.cell 1 _ rfl)))
       clear bb hBu hbt))
  clear kS kT hw HV HU HAz4 P4 U
  go_wp2_with fail
  obtain ⟨U, hU⟩ : ∃ U, U = u5.alloc (.cells #[.int .i64 (Ko 5 / 4294967296), .int .i64 (Ko 5 % 4294967296)] 140) := ⟨_, rfl⟩
  have HV : Aside (Bs U.drew g f c (max T To) (mD D To Ko 5) ∧ But g w U.drew ∧ Bl U.drew u5.heap.size 140 [.int .i64 (Ko 5 / 4294967296), .int .i64 (Ko 5 % 4294967296)] ∧ g < u5.heap.size) := by
    subst hU
    exact ⟨(HAz5.out.1.alloc _).drew, (HAz5.out.2.alloc _).drew, (Bl.new u5 140 [_, _]).drew, HAz5.out.1.lt⟩
  have HU := Aside.intro hU
  clear hU
  have kS := Aside.intro (And.intro (HO.out _ _ _ HV.out.1 (.inr rfl) HV.out.2.1).2.2 (And.intro (HV.out.2.2.1.cell 0 _ rfl) (HV.out.2.2.1.cell 1 _ rfl)))
  have hw : IntKind.i64.wrap (To - 34 - 5) = To - 34 - 5 := by rw [IntKind.wrap_i64]; omega
  rw [rounds_succ]
  go_wp2_with fail
  rw [← HU.out]
  go_region_held (fun v => v.cell? ⟨g2, 2, none⟩ = some (.int .i64 (To - 34)) ∧ v.cell? ⟨u5.heap.size, 0, none⟩ = some (.int .i64 (Ko 5 / 4294967296)) ∧ v.cell? ⟨u5.heap.size, 1, none⟩ = some (.int .i64 (Ko 5 % 4294967296))) (first | with_reducible exact kT.out | with_reducible exact kS.out) (first
    | (go_at_call 84
       with_reducible refine (P5.out _ HV.out.1).mono ?_
       rintro r u6 ⟨rfl, hBu, hbt⟩
       have HAz6 : Aside (Bs u6 g f c (max T To) (mD D To Ko 6) ∧ But g w u6) := ⟨hBu, HV.out.2.1.trans hbt⟩
       have bb := HV.out.2.2.1.but hbt (by have := HV.out.2.2.2; omega)
       have kT := Aside.intro (And.intro (HO.out _ _ _ HAz6.out.1 (.inr rfl) HAz6.out.2).2.2 (And.intro (bb.cell 0 _ rfl) (bb.cell 1 _ rfl)))
       clear bb hBu hbt))
  clear kS kT hw HV HU HAz5 P5 U
  go_wp2_with fail
  obtain ⟨U, hU⟩ : ∃ U, U = u6.alloc (.cells #[.int .i64 (Ko 6 / 4294967296), .int .i64 (Ko 6 % 4294967296)] 140) := ⟨_, rfl⟩
  have HV : Aside (Bs U.drew g f c (max T To) (mD D To Ko 6) ∧ But g w U.drew ∧ Bl U.drew u6.heap.size 140 [.int .i64 (Ko 6 / 4294967296), .int .i64 (Ko 6 % 4294967296)] ∧ g < u6.heap.size) := by
    subst hU
    exact ⟨(HAz6.out.1.alloc _).drew, (HAz6.out.2.alloc _).drew, (Bl.new u6 140 [_, _]).drew, HAz6.out.1.lt⟩
  have HU := Aside.intro hU
  clear hU
  have kS := Aside.intro (And.intro (HO.out _ _ _ HV.out.1 (.inr rfl) HV.out.2.1).2.2 (And.intro (HV.out.2.2.1.cell 0 _ rfl) (HV.out.2.2.1.cell 1 _ rfl)))
  have hw : IntKind.i64.wrap (To - 34 - 6) = To - 34 - 6 := by rw [IntKind.wrap_i64]; omega
  rw [rounds_succ]
  go_wp2_with fail
  rw [← HU.out]
  go_region_held (fun v => v.cell? ⟨g2, 2, none⟩ = some (.int .i64 (To - 34)) ∧ v.cell? ⟨u6.heap.size, 0, none⟩ = some (.int .i64 (Ko 6 / 4294967296)) ∧ v.cell? ⟨u6.heap.size, 1, none⟩ = some (.int .i64 (Ko 6 % 4294967296))) (first | with_reducible exact kT.out | with_reducible exact kS.out) (first
    | (go_at_call 84
       with_reducible refine (P6.out _ HV.out.1).mono ?_
       rintro r u7 ⟨rfl, hBu, hbt⟩
       have HAz7 : Aside (Bs u7 g f c (max T To) (mD D To Ko 7) ∧ But g w u7) := ⟨hBu, HV.out.2.1.trans hbt⟩
       have bb := HV.out.2.2.1.but hbt (by have := HV.out.2.2.2; omega)
       have kT := Aside.intro (And.intro (HO.out _ _ _ HAz7.out.1 (.inr rfl) HAz7.out.2).2.2 (And.intro (bb.cell 0 _ rfl) (bb.cell 1 _ rfl)))
       clear bb hBu hbt))
  clear kS kT hw HV HU HAz6 P6 U
  go_wp2_with fail
  obtain ⟨U, hU⟩ : ∃ U, U = u7.alloc (.cells #[.int .i64 (Ko 7 / 4294967296), .int .i64 (Ko 7 % 4294967296)] 140) := ⟨_, rfl⟩
  have HV : Aside (Bs U.drew g f c (max T To) (mD D To Ko 7) ∧ But g w U.drew ∧ Bl U.drew u7.heap.size 140 [.int .i64 (Ko 7 / 4294967296), .int .i64 (Ko 7 % 4294967296)] ∧ g < u7.heap.size) := by
    subst hU
    exact ⟨(HAz7.out.1.alloc _).drew, (HAz7.out.2.alloc _).drew, (Bl.new u7 140 [_, _]).drew, HAz7.out.1.lt⟩
  have HU := Aside.intro hU
  clear hU
  have kS := Aside.intro (And.intro (HO.out _ _ _ HV.out.1 (.inr rfl) HV.out.2.1).2.2 (And.intro (HV.out.2.2.1.cell 0 _ rfl) (HV.out.2.2.1.cell 1 _ rfl)))
  have hw : IntKind.i64.wrap (To - 34 - 7) = To - 34 - 7 := by rw [IntKind.wrap_i64]; omega
  rw [rounds_succ]
  go_wp2_with fail
  rw [← HU.out]
  go_region_held (fun v => v.cell? ⟨g2, 2, none⟩ = some (.int .i64 (To - 34)) ∧ v.cell? ⟨u7.heap.size, 0, none⟩ = some (.int .i64 (Ko 7 / 4294967296)) ∧ v.cell? ⟨u7.heap.size, 1, none⟩ = some (.int .i64 (Ko 7 % 4294967296))) (first | with_reducible exact kT.out | with_reducible exact kS.out) (first
    | (go_at_call 84
       with_reducible refine (P7.out _ HV.out.1).mono ?_
       rintro r u8 ⟨rfl, hBu, hbt⟩
       have HAz8 : Aside (Bs u8 g f c (max T To) (mD D To Ko 8) ∧ But g w u8) := ⟨hBu, HV.out.2.1.trans hbt⟩
       have bb := HV.out.2.2.1.but hbt (by have := HV.out.2.2.2; omega)
       have kT := Aside.intro (And.intro (HO.out _ _ _ HAz8.out.1 (.inr rfl) HAz8.out.2).2.2 (And.intro (bb.cell 0 _ rfl) (bb.cell 1 _ rfl)))
       clear bb hBu hbt))
  clear kS kT hw HV HU HAz7 P7 U
  go_wp2_with fail
  rw [rounds_succ]
  obtain ⟨y0, y1, y2⟩ := HO.out u8 _ _ HAz8.out.1 (.inr rfl) HAz8.out.2
  have q1 := HAz8.out.1.cnt
  have q2 := HAz8.out.1.froz 1
  go_wp2_with fail
  go_region
  go_wp2
  go_ret
  exact ⟨rfl, (HAz8.out.1.inc (c + c2)).drew, (HAz8.out.2.set 1 _).drew⟩
end Go.Proofs.YtjpaocgimdinmaaGreatDoor

/- Bins by the numbers that were added. -/
namespace Go.Proofs.YtjpaocgimdinmaaGreatDoor
open Go Go.RowKit
set_option linter.unusedVariables false
set_option maxRecDepth 20000
set_option linter.unusedSimpArgs false

def Fin9 (L : List Nat) : Prop := ∀ x ∈ L, Wd x ∧ finW x
def ZL (L : List Nat) : List Int := L.map zW
/-- Bins to which a list was added. -/
def Bz (w : World) (g f : Nat) (L : List Nat) : Prop := Bs w g f (L.length : Nat) (tL (ZL L)) (SL (ZL L))
theorem Bz.lt {w : World} {g f : Nat} {L : List Nat} (h : Bz w g f L) : g < w.heap.size := Bl.lt h
theorem Bz.below {w w' : World} {g B f : Nat} {L : List Nat} (h : Bz w g f L) (hb : Below B w w') (hg : g < B) : Bz w' g f L := Bs.below h hb hg
theorem Bz.but {w w' : World} {g g' f : Nat} {L : List Nat} (h : Bz w g f L) (hb : But g' w w') (hg : g ≠ g') : Bz w' g f L := Bs.but h hb hg
theorem ZL_append (L M : List Nat) : ZL (L ++ M) = ZL L ++ ZL M := List.map_append
theorem zW_tp (x : Nat) (hx : Wd x ∧ finW x) : tp (zW x).natAbs ≤ 66 := by
  obtain ⟨t0, u, F, hu, hF, ht0, _, _, _, hz, _⟩ := zW_parts x hx
  have hp : 2 ^ u ≤ 2 ^ 31 := Nat.pow_le_pow_right (by decide) hu
  have hN : F * 2 ^ u < 2 ^ 84 := by
    have h1 : F * 2 ^ u ≤ F * 2 ^ 31 := Nat.mul_le_mul_left _ hp
    omega
  have ha : (zW x).natAbs = F * 2 ^ u * 2 ^ (32 * t0) := by rw [hz]; unfold sgv; split <;> omega
  have h3 : (zW x).natAbs < 2 ^ (32 * (t0 + 3)) := by
    rw [ha, show 32 * (t0 + 3) = 96 + 32 * t0 by omega, Nat.pow_add]
    exact Nat.mul_lt_mul_of_pos_right (Nat.lt_of_lt_of_le hN (by decide)) (Nat.two_pow_pos _)
  have h4 := (tp_lt _ (t0 + 3)).2 h3
  omega
theorem tL_hi (L : List Nat) (h : Fin9 L) : tL (ZL L) ≤ 66 := by
  induction L with
  | nil => decide
  | cons x L ih =>
    have h1 := zW_tp x (h x (List.mem_cons_self ..))
    have h2 := ih (fun y hy => h y (List.mem_cons_of_mem _ hy))
    show max (tp (zW x).natAbs) (tL (ZL L)) ≤ 66
    omega
theorem SL_hi (L : List Nat) (h : L.length ≤ 1099511627776) (t : Int) : (SL (ZL L) t).natAbs ≤ 2 ^ 73 := by
  have := SL_abs (ZL L) t
  have e : (ZL L).length = L.length := List.length_map ..
  rw [e] at this
  omega
theorem Fin9.app {L M : List Nat} (h1 : Fin9 L) (h2 : Fin9 M) : Fin9 (L ++ M) := fun x hx => by
  rcases List.mem_append.1 hx with q | q
  · exact h1 x q
  · exact h2 x q
theorem Fin9.dq {L : List Nat} (h : Fin9 L) (hl : L.length ≤ 1099511627776) : Dq (tL (ZL L)) (SL (ZL L)) :=
  ⟨fun t ht => SL_above _ t ht, fun t => by have := SL_hi L hl t; omega, tL_ge _, by have := tL_hi L h; omega⟩
theorem Add9 (x : Nat) (hx : Wd x ∧ finW x) (g f : Nat) (L : List Nat) (w : World) (hB : Bz w g f L) (hF : Fin9 L) (hl : L.length < 1099511627776) (hf : f ≤ 8) :
    Calls Tryz.prog 68 #[.pointer (some ⟨g, 0, none⟩), .float .f64 x] w fun r w' => r = .returned (.int .i64 0) ∧ Bz w' g f (L ++ [x]) ∧ But g w w' := by
  have hm : magW x < 9218868437227405312 := hx.2
  obtain ⟨n, e, f', h1, h2, h3, _⟩ := split9 x hx.1 w
  have hn : n = negW x := by rw [h3]; unfold B.ng; rw [if_neg (by omega)]
  have hS : Hid (∀ u, Calls Tryz.prog 143 #[.float .f64 x] u fun r w' => r = .returned (.agg #[.bool (negW x), .int .i64 (B.cls e f'), .int .i64 (B.xp e), .int .u64 (B.fr e f')]) ∧ Below u.heap.size u w') := by
    refine hid (fun u => ?_)
    obtain ⟨n', e', f'', k1, k2, k3, k4⟩ := split9 x hx.1 u
    obtain rfl : e' = e := k1.symm.trans h1
    obtain rfl : f'' = f' := k2.symm.trans h2
    rw [← hn, h3, ← k3]; exact k4
  have hc := Add_core g f x (L.length : Nat) 0 (tL (ZL L)) _ (SL (ZL L)) _ (negW x) (B.cls e f') (B.xp e) (B.fr e f') w hB (by omega) (by omega) (by unfold B.cls; rw [if_neg (by omega)]; constructor <;> split <;> (try split) <;> decide) hS
    (hid (fun u hBu hlu hcu => by
      have := each_any x hx g w.heap.size f (L.length : Nat) (tL (ZL L)) (SL (ZL L)) u hBu hf ⟨tL_ge _, tL_hi L hF⟩ (fun t ht => SL_above _ t ht) (SL_hi L (by omega)) hlu (by have := hB.lt; omega) hcu (B.cls e f')
      rw [h1, h2] at this
      exact this))
  refine hc.mono ?_
  rintro r w' ⟨rfl, h4, h5⟩
  refine ⟨rfl, ?_, h5⟩
  unfold Bz
  have e1 : tL (ZL (L ++ [x])) = max (tL (ZL L)) (tp (zW x).natAbs) := by
    have := tL_ge (ZL L)
    have h6 := tp_ge (zW x).natAbs
    rw [ZL_append, tL_append]
    show max (tL (ZL L)) (max (tp (zW x).natAbs) (-1)) = _
    omega
  have e2 : SL (ZL (L ++ [x])) = fun t => SL (ZL L) t + ss (zW x) t := by
    funext t
    rw [ZL_append, SL_append]
    show SL (ZL L) t + (ss (zW x) t + 0) = _
    omega
  rw [e1, e2, List.length_append, show ((L.length + [x].length : Nat) : Int) = (L.length : Int) + 1 by simp]
  exact h4
theorem Add9_odd (x : Nat) (hx : Wd x ∧ ¬ finW x) (g f : Nat) (L : List Nat) (w : World) (hB : Bz w g f L) (hl : L.length < 1099511627776) :
    Calls Tryz.prog 68 #[.pointer (some ⟨g, 0, none⟩), .float .f64 x] w fun r w' => r = .returned (.int .i64 30) ∧ Below w.heap.size w w' := by
  have hm : ¬ magW x < 9218868437227405312 := hx.2
  have hm2 : magW x < 9223372036854775808 := by unfold magW; omega
  obtain ⟨n, e, f', h1, h2, h3, _⟩ := split9 x hx.1 w
  refine Add_odd g f x (L.length : Nat) _ _ n (B.cls e f') (B.xp e) (B.fr e f') w hB (by omega) (by unfold B.cls; rw [if_pos (by omega)]; split <;> simp) (hid (fun u => ?_))
  obtain ⟨n', e', f'', k1, k2, k3, k4⟩ := split9 x hx.1 u
  obtain rfl : e' = e := k1.symm.trans h1
  obtain rfl : f'' = f' := k2.symm.trans h2
  rw [h3, ← k3]; exact k4
theorem Add9_long (x g f : Nat) (L : List Nat) (w : World) (hB : Bz w g f L) (hl : 1099511627776 ≤ L.length) :
    Calls Tryz.prog 68 #[.pointer (some ⟨g, 0, none⟩), .float .f64 x] w fun r w' => r = .returned (.int .i64 2) ∧ Below w.heap.size w w' := Add_long g f x _ _ _ w hB (by omega)
theorem Bz_app (w : World) (g f : Nat) (L M : List Nat) (hf : f ≤ 8) (h : Bs w g f ((L.length : Nat) + (M.length : Nat)) (max (tL (ZL L)) (tL (ZL M))) (mD (SL (ZL L)) (tL (ZL M)) (kf f (tL (ZL M)) (SL (ZL M))) 8)) : Bz w g f (L ++ M) := by
  unfold Bz
  have e1 : tL (ZL (L ++ M)) = max (tL (ZL L)) (tL (ZL M)) := by rw [ZL_append, tL_append]
  have e2 : SL (ZL (L ++ M)) = fun t => SL (ZL L) t + SL (ZL M) t := by funext t; rw [ZL_append, SL_append]
  rw [e1, e2, List.length_append]
  unfold Bs at h ⊢
  rw [mD_kf f (tL (ZL L)) _ (tL (ZL M)) _ _ hf (by omega) (fun t ht => SL_above _ t ht)] at h
  rw [show ((L.length + M.length : Nat) : Int) = (L.length : Nat) + (M.length : Nat) by omega]
  exact h
theorem HP9 (g f : Nat) (L M : List Nat) (hF : Fin9 L) (hG : Fin9 M) (hl : L.length ≤ 1099511627776) (hm : M.length ≤ 1099511627776) (hf : f ≤ 8) (c : Int) (n : Nat) (hn : n < 8) :
    Hid (∀ u, Bs u g f c (max (tL (ZL L)) (tL (ZL M))) (mD (SL (ZL L)) (tL (ZL M)) (kf f (tL (ZL M)) (SL (ZL M))) n) → Calls Tryz.prog 84 #[.pointer (some ⟨g, 0, none⟩), .int .i64 (tL (ZL M) - 34 - n), .agg #[.int .i64 (kf f (tL (ZL M)) (SL (ZL M)) n / 4294967296), .int .i64 (kf f (tL (ZL M)) (SL (ZL M)) n % 4294967296)]] u fun r w' => r = .returned (.tuple #[]) ∧ Bs w' g f c (max (tL (ZL L)) (tL (ZL M))) (mD (SL (ZL L)) (tL (ZL M)) (kf f (tL (ZL M)) (SL (ZL M))) (n + 1)) ∧ But g u w') := by
  refine hid (fun u hu => ?_)
  have b1 := tL_ge (ZL L)
  have b2 := tL_ge (ZL M)
  have b3 := tL_hi L hF
  have b4 := tL_hi M hG
  have hv : (kf f (tL (ZL M)) (SL (ZL M)) n).natAbs ≤ 2 ^ 74 := by
    unfold kf; split
    · have := SL_hi M hm (tL (ZL M) - n); omega
    · simp
  have := put_abs g f c (max (tL (ZL L)) (tL (ZL M))) (tL (ZL M) - n) (kf f (tL (ZL M)) (SL (ZL M)) n) _ u hu (mD_abs f _ _ _ n (SL_hi L hl) (SL_hi M hm)) (by omega) hf (by omega) (by omega) hv
  rw [show tL (ZL M) - (n : Int) - 34 = tL (ZL M) - 34 - n by omega] at this
  exact this
/-- The array of bins, as it lies. -/
theorem Bs.row {w : World} {g f : Nat} {c T : Int} {D : Int → Int} (h : Bs w g f c T D) (Ko : Nat → Int) (hK : kf f T D = Ko) : w.rangeAt g 3 [.int .i64 (Ko 0 / 4294967296), .int .i64 (Ko 0 % 4294967296), .int .i64 (Ko 1 / 4294967296), .int .i64 (Ko 1 % 4294967296), .int .i64 (Ko 2 / 4294967296), .int .i64 (Ko 2 % 4294967296), .int .i64 (Ko 3 / 4294967296), .int .i64 (Ko 3 % 4294967296), .int .i64 (Ko 4 / 4294967296), .int .i64 (Ko 4 % 4294967296), .int .i64 (Ko 5 / 4294967296), .int .i64 (Ko 5 % 4294967296), .int .i64 (Ko 6 / 4294967296), .int .i64 (Ko 6 % 4294967296), .int .i64 (Ko 7 / 4294967296), .int .i64 (Ko 7 % 4294967296)] := by
  subst hK
  exact Bl.range h 3 _ (fun j v hv => by
    have e : (Bc f c (T - 34) (kf f T D))[3 + j]? = ([.int .i64 (kf f T D 0 / 4294967296), .int .i64 (kf f T D 0 % 4294967296), .int .i64 (kf f T D 1 / 4294967296), .int .i64 (kf f T D 1 % 4294967296), .int .i64 (kf f T D 2 / 4294967296), .int .i64 (kf f T D 2 % 4294967296), .int .i64 (kf f T D 3 / 4294967296), .int .i64 (kf f T D 3 % 4294967296), .int .i64 (kf f T D 4 / 4294967296), .int .i64 (kf f T D 4 % 4294967296), .int .i64 (kf f T D 5 / 4294967296), .int .i64 (kf f T D 5 % 4294967296), .int .i64 (kf f T D 6 / 4294967296), .int .i64 (kf f T D 6 % 4294967296), .int .i64 (kf f T D 7 / 4294967296), .int .i64 (kf f T D 7 % 4294967296)] : List Value)[j]? := by rw [Nat.add_comm]; rfl
    rw [e]; exact hv)
theorem Merge9 (g g2 f : Nat) (L M : List Nat) (w : World) (hB : Bz w g f L) (hB2 : Bz w g2 f M) (hne : g2 ≠ g) (hF : Fin9 L) (hG : Fin9 M) (hl : L.length + M.length ≤ 1099511627776) (hf : f ≤ 8) :
    Calls Tryz.prog 27 #[.pointer (some ⟨g, 0, none⟩), .pointer (some ⟨g2, 0, none⟩)] w fun r w' => r = .returned (.int .i64 0) ∧ Bz w' g f (L ++ M) ∧ But g w w' := by
  have b2 := tL_ge (ZL M)
  have b4 := tL_hi M hG
  refine (Merge_core g g2 f (L.length : Nat) (M.length : Nat) (tL (ZL L)) (tL (ZL M)) (SL (ZL L)) (kf f (tL (ZL M)) (SL (ZL M))) w hB hf ⟨b2, b4⟩ (by omega) (by omega) (by omega) hB2.lt (hid (fun u T' D' hu _ hbt => ?_)) (hid (fun u hu hbt => ?_)) (hid (fun u hu => ?_)) (fun n hn => HP9 g f L M hF hG (by omega) (by omega) hf _ n hn)).mono ?_
  · have h2 := hB2.but hbt hne
    exact ⟨Bs.fold h2, Bs.cnt h2, Bs.tp h2⟩
  · exact Bs.row (hB2.but hbt hne) _ rfl
  · exact rise_abs g f _ _ _ _ u hu (hF.dq (by omega)) hf (by omega)
  · rintro r w' ⟨rfl, h1, h2⟩
    exact ⟨rfl, Bz_app w' g f L M hf h1, h2⟩
theorem Merge9_self (g f : Nat) (L : List Nat) (w : World) (hB : Bz w g f L) (hF : Fin9 L) (hl : L.length + L.length ≤ 1099511627776) (hf : f ≤ 8) :
    Calls Tryz.prog 27 #[.pointer (some ⟨g, 0, none⟩), .pointer (some ⟨g, 0, none⟩)] w fun r w' => r = .returned (.int .i64 0) ∧ Bz w' g f (L ++ L) ∧ But g w w' := by
  have b2 := tL_ge (ZL L)
  have b4 := tL_hi L hF
  refine (Merge_core g g f (L.length : Nat) (L.length : Nat) (tL (ZL L)) (tL (ZL L)) (SL (ZL L)) (kf f (tL (ZL L)) (SL (ZL L))) w hB hf ⟨b2, b4⟩ (by omega) (by omega) (by omega) hB.lt (hid (fun u T' D' hu hT hbt => ?_)) (hid (fun u hu hbt => ?_)) (hid (fun u hu => ?_)) (fun n hn => HP9 g f L L hF hF (by omega) (by omega) hf _ n hn)).mono ?_
  · have e : T' = tL (ZL L) := by omega
    subst e
    exact ⟨Bs.fold hu, Bs.cnt hu, Bs.tp hu⟩
  · rw [show max (tL (ZL L)) (tL (ZL L)) = tL (ZL L) by omega] at hu
    exact Bs.row hu _ rfl
  · exact rise_abs g f _ _ _ _ u hu (hF.dq (by omega)) hf (by omega)
  · rintro r w' ⟨rfl, h1, h2⟩
    exact ⟨rfl, Bz_app w' g f L L hf h1, h2⟩
end Go.Proofs.YtjpaocgimdinmaaGreatDoor

/- The program's row: and, with. -/
namespace Go.Proofs.YtjpaocgimdinmaaGreatDoor
open Go.RowKit
set_option linter.unusedVariables false
set_option maxRecDepth 20000
set_option linter.unusedSimpArgs false

def Fw (n : Nat) : Value := .float .f64 n
theorem Tryz.info_f8 : (Tryz.prog.info? 38).map (fun i => (i.zero, i.size, i.bytes)) = some (some (.float .f64 0), 1, 8) := by kernel_rfl
theorem Tryz.desc_row8 : Tryz.prog.underlying 127 = some (.slice 38) := by kernel_rfl
/-- A block of numbers. -/
def Fb (w : World) (g : Nat) (C : List Value) : Prop := w.heap[g]? = some (.cells C.toArray 38 (0, 0))
theorem Fb.lt {w : World} {g : Nat} {C : List Value} (h : Fb w g C) : g < w.heap.size := (Array.getElem?_eq_some_iff.1 h).1
theorem Fb.cell {w : World} {g : Nat} {C : List Value} (h : Fb w g C) (i : Nat) (v : Value) (hi : C[i]? = some v) : w.cell? ⟨g, i, none⟩ = some v := by
  unfold World.cell?
  rw [h]
  simpa using hi
theorem Fb.of_block {w w' : World} {g : Nat} {C : List Value} (h : Fb w g C) (hb : w'.heap[g]? = w.heap[g]?) : Fb w' g C := by unfold Fb at h ⊢; rw [hb]; exact h
theorem Fb.below {w w' : World} {g : Nat} {C : List Value} (h : Fb w g C) (hb : Below w.heap.size w w') : Fb w' g C := h.of_block (hb.block g h.lt)
theorem Fb.alloc {w : World} {g : Nat} {C : List Value} (h : Fb w g C) (o : Obj) : Fb (w.alloc o) g C := h.of_block (Below.heap_alloc _ _ _ h.lt)
/-- A row of numbers of one's own. -/
def Fr (lo : Nat) (w : World) (v : Value) (L : List Nat) : Prop := w.ownsRow lo 38 1 v L.length (L.map Fw)
theorem Fr.nil (lo : Nat) (w : World) : Fr lo w (.slice none 0 0) [] := World.ownsRow_nil w lo 38 1
theorem map_inj8 {A B : List Nat} (h : A.map Fw = B.map Fw) : A = B := by
  have : Function.Injective Fw := fun a b h => by unfold Fw at h; injection h
  exact (List.map_inj_right (fun a b h => this h)).1 h
theorem Fr.of_block {lo : Nat} {w : World} {g : Nat} {C : List Value} (h : Fb w g C) (hlo : lo ≤ g) (hm : C.length ≤ maxLen) (K : List Nat) (hk : K.length ≤ C.length) (hK : C.take K.length = K.map Fw) : Fr lo w (.slice (some ⟨g, 0, none⟩) K.length C.length) K := by
  refine ⟨by simp, .inr ⟨g, C.length, _, rfl, hlo, h, hk, hm, by simp, ?_⟩⟩
  simpa using hK
theorem But.bel8 {g : Nat} {a w w' : World} (h : But g a w) (hb : Below w.heap.size w w') : But g a w' :=
  ⟨hb.os.trans h.os, hb.tape.trans h.tape, hb.output.trans h.output, Nat.le_trans h.size hb.size, fun k hk hne => (hb.block k (Nat.lt_of_lt_of_le hk h.size)).trans (h.block k hk hne)⟩
/-- The law for the walk. -/
theorem wpList_append8 {w : World} {ops : Array Oper} {rest : List Oper} {o : Oper} {a : Act} {Q : Exit → Act → World → Prop} (hgd : o.guard = none) (s x : Operand) (t : TypeId)
    (ho : o.op = .call { callee := .builtin .append, args := #[s, x], argTypes := #[t, t] }) (v u : Value) (hs : a.eval s = v) (hx : a.eval x = u) (v' : Value) (w' : World)
    (hrun : (Builtin.append_ #[t, t] o.type #[v, u]).run Tryz.prog w = .ok v' w') (h : wpList Tryz.prog ops Q rest (a.put o.dst v') w') : wpList Tryz.prog ops Q (o :: rest) a w := by
  refine wpList_plain hgd fun K hK => ?_
  unfold Oper.wp
  simp [execOp, ho, resolve, invoke, builtin, hs, hx, hrun, Result.andThen]
  exact hK _ _ h

theorem eqz8 {x : Nat} (h : Wd x ∧ finW x) : (FloatKind.f64.format.order x 0 == some .eq) = noW x := by
  have e := eq64 (negW x) false (magW x) 0 (Nat.le_of_lt h.2) (by decide)
  rw [← wd_of x h.1, show wd64 false 0 = 0 from rfl] at e
  rw [e]
  unfold noW sK
  rw [Bool.eq_iff_iff]
  simp only [decide_eq_true_eq, beq_iff_eq]
  cases negW x <;> simp <;> omega

/-- What comes of a block when a number is put at a place in it. -/
def putAt (C : List Value) (k x : Nat) : List Value := C.take k ++ (andN x).map Fw ++ C.drop (k + (andN x).length)
theorem putAt_len (C : List Value) (k x : Nat) (hk : k < C.length) : (putAt C k x).length = C.length := by
  unfold putAt andN
  split <;> simp <;> omega

set_option maxHeartbeats 1000000 in
theorem and_room (g k : Nat) (C : List Value) (x : Nat) (w : World) (hb : Fb w g C) (hk : k < C.length) (hx : Wd x ∧ finW x) :
    Calls Tryz.prog 195 #[.slice (some ⟨g, 0, none⟩) k C.length, .float .f64 x] w fun r w' => r = .returned (.slice (some ⟨g, 0, none⟩) (k + (andN x).length) C.length) ∧ Fb w' g (putAt C k x) ∧ But g w w' := by
  have hz := eqz8 hx
  cases hn : noW x
  · have hand : andN x = [x] := by unfold andN; rw [hn]; rfl
    rw [hn] at hz
    obtain ⟨i0, hi, hz0, hz1, hz2⟩ := info_parts Tryz.info_f8
    obtain ⟨W, hW⟩ : ∃ W, W = w.alloc (.cells #[.float .f64 x] 38) := ⟨_, rfl⟩
    have hcx : W.cell? ⟨w.heap.size, 0, none⟩ = some (.float .f64 x) := by subst hW; unfold World.cell?; simp only [heap_alloc_new]; rfl
    have hWb : Fb W g C := by subst hW; exact hb.alloc _
    have hr := run_append_room (P := Tryz.prog) W 127 127 38 i0 Tryz.desc_row8 hi g k C.length _ hWb ⟨w.heap.size, 0, none⟩ 1 1 [.float .f64 x] (by rw [hz1]; rfl) (by
      intro j u hj
      match j, hj with
      | 0, hj => simp at hj; subst hj; simpa [Addr.add] using hcx) (by intro u hu; simp at hu; subst hu; rfl) hk (by rw [hz1]; simp; omega)
    rw [hz1] at hr
    generalize hW2 : W.setRow g _ = W2 at hr
    have HR := Aside.intro hr
    have HF : Aside (Fb W2 g (putAt C k x) ∧ But g w W2) := by
      refine Aside.intro ⟨?_, ?_⟩
      · unfold Fb
        rw [← hW2, setRow_heap W g _ _ 38 _ hWb]
        congr 2
        unfold putAt
        rw [hand]
        simp [Fw]
      · rw [← hW2]
        refine ⟨by subst hW; rfl, by subst hW; rfl, by subst hW; rfl, by subst hW; simp, fun j hj hne => ?_⟩
        rw [setRow_other W g j _ hne]
        subst hW
        exact Below.heap_alloc _ _ _ hj
    rw [hand, List.length_singleton]
    clear hW2
    clear hr hWb hcx hb hk hx
    go_enter Tryz.func195, Tryz.ntmps195
    go_wp2_with (at_builtin; rw [← hW]; refine wpList_append8 rfl (.tmp 8) (.tmp 10) 127 rfl _ _ rfl rfl _ _ HR.out ?_)
    go_ret
    exact ⟨rfl, HF.out.1, HF.out.2⟩
  · have hand : andN x = [] := by unfold andN; rw [hn]; rfl
    rw [hn] at hz
    have HB : Aside (Fb w g (putAt C k x)) := by
      refine Aside.intro ?_
      unfold putAt; rw [hand]; simpa using hb
    rw [hand, List.length_nil, Nat.add_zero]
    clear hb hk hx
    go_enter Tryz.func195, Tryz.ntmps195
    go_wp2
    go_ret
    exact ⟨rfl, HB.out, But.refl _ _⟩

set_option maxHeartbeats 1000000 in
theorem and_any (lo : Nat) (v : Value) (K : List Nat) (x : Nat) (w : World) (hb : Fr lo w v K) (hlo : lo ≤ w.heap.size) (hk : K.length ≤ 1000000) (hx : Wd x ∧ finW x) :
    Calls Tryz.prog 195 #[v, .float .f64 x] w fun r w' => ∃ v', r = .returned v' ∧ Fr lo w' v' (K ++ andN x) ∧ w.grownBy w' v.ownBlock ∧ (v'.ownBlock = v.ownBlock ∨ ∃ g, v'.ownBlock = some g ∧ w.heap.size ≤ g) := by
  have hz := eqz8 hx
  cases hn : noW x
  · have hand : andN x = [x] := by unfold andN; rw [hn]; rfl
    rw [hn] at hz
    rw [hand]
    obtain ⟨i0, hi, hz0, hz1, hz2⟩ := info_parts Tryz.info_f8
    obtain ⟨W, hW⟩ : ∃ W, W = w.alloc (.cells #[.float .f64 x] 38) := ⟨_, rfl⟩
    have hcx : W.cell? ⟨w.heap.size, 0, none⟩ = some (.float .f64 x) := by subst hW; unfold World.cell?; simp only [heap_alloc_new]; rfl
    have hWb : Fr lo W v K := by subst hW; exact World.ownsRow.alloc hb _
    have hWs : w.heap.size ≤ W.heap.size := by subst hW; simp
    obtain ⟨v', w', r1, r2, r3, _, r5⟩ := run_append_own_at (P := Tryz.prog) W lo 127 127 38 i0 (.float .f64 0) 1 8 Tryz.desc_row8 hi hz0 hz1 hz2 rfl (by decide) v K.length (K.map Fw) hWb ⟨w.heap.size, 0, none⟩ 1 1 [.float .f64 x] rfl (by
      intro j u hj
      match j, hj with
      | 0, hj => simp at hj; subst hj; simpa [Addr.add] using hcx) (by intro u hu; simp at hu; subst hu; rfl) (by unfold maxLen; omega) (by omega) (by omega)
    have HR := Aside.intro r1
    have HF : Aside (Fr lo w' v' (K ++ [x]) ∧ w.grownBy w' v.ownBlock ∧ (v'.ownBlock = v.ownBlock ∨ ∃ g, v'.ownBlock = some g ∧ w.heap.size ≤ g)) := by
      refine Aside.intro ⟨?_, ⟨?_, ?_, ?_, ?_, fun j hj hne => ?_⟩, ?_⟩
      · unfold Fr; rw [List.length_append, List.map_append]; exact r2
      · rw [r3.os]; subst hW; rfl
      · rw [r3.tape]; subst hW; rfl
      · rw [r3.output]; subst hW; rfl
      · exact Nat.le_trans hWs r3.size
      · rw [r3.block j (by omega) hne]
        subst hW
        exact Below.heap_alloc _ _ _ hj
      · rcases r5 with h | h
        · exact .inl h
        · exact .inr ⟨_, h, hWs⟩
    clear r1 r2 r3 r5 hWb hcx hb hk hx hWs hlo
    go_enter Tryz.func195, Tryz.ntmps195
    go_wp2_with (at_builtin; rw [← hW]; refine wpList_append8 rfl (.tmp 8) (.tmp 10) 127 rfl _ _ rfl rfl _ _ HR.out ?_)
    go_ret
    exact ⟨v', rfl, HF.out.1, HF.out.2.1, HF.out.2.2⟩
  · have hand : andN x = [] := by unfold andN; rw [hn]; rfl
    rw [hn] at hz
    rw [hand, List.append_nil]
    have HB := Aside.intro hb
    clear hb hk hx
    go_enter Tryz.func195, Tryz.ntmps195
    go_wp2
    go_ret
    exact ⟨v, rfl, HB.out, ⟨rfl, rfl, rfl, Nat.le_refl _, fun _ _ _ => rfl⟩, .inl rfl⟩
end Go.Proofs.YtjpaocgimdinmaaGreatDoor

/- The program's row: with. -/
namespace Go.Proofs.YtjpaocgimdinmaaGreatDoor
open Go.RowKit
set_option linter.unusedVariables false
set_option maxRecDepth 20000
set_option linter.unusedSimpArgs false
attribute [local go_sem] st_float

/-- What stands while with walks. -/
structure Wi (g n cap : Nat) (A : List Nat) (x0 : Nat) (w : World) (i k x : Nat) (C : List Value) (wr : World) : Prop where
  blk : Fb wr g C
  len : C.length = cap
  ki : k ≤ i
  same : ∀ j, i ≤ j → j < n → C[j]? = some (Fw (A.getD j 0))
  done : ∃ K : List Nat, K.length = k ∧ C.take k = K.map Fw ∧ K ++ withL (A.drop i) x = withL A x0
  xok : Wd x ∧ finW x
  bound : avL (A.drop i) + (fvW x).natAbs + (A.drop i).length * GG ≤ 4503599627370496 * GG
  but : But g w wr
theorem get_putAt (C : List Value) (k x j : Nat) (hk : k < C.length) (hj : k + (andN x).length ≤ j) : (putAt C k x)[j]? = C[j]? := by
  unfold putAt
  have e : (C.take k ++ (andN x).map Fw).length = k + (andN x).length := by simp; omega
  rw [List.getElem?_append_right (by omega), e, List.getElem?_drop]
  congr 1
  omega
theorem drop_cons8 (A : List Nat) (i : Nat) (hi : i < A.length) : A.drop i = A.getD i 0 :: A.drop (i + 1) := by
  rw [List.getD_eq_getElem?_getD, List.getElem?_eq_getElem hi]
  exact List.drop_eq_getElem_cons hi
theorem FinL.drop {A : List Nat} (h : FinL A) (i : Nat) : FinL (A.drop i) := fun x hx => h x (List.mem_of_mem_drop hx)
theorem FinL.get {A : List Nat} (h : FinL A) (i : Nat) (hi : i < A.length) : Wd (A.getD i 0) ∧ finW (A.getD i 0) := by
  rw [List.getD_eq_getElem?_getD, List.getElem?_eq_getElem hi]
  exact h _ (List.getElem_mem hi)
theorem Wi.two {g n cap : Nat} {A : List Nat} {x0 : Nat} {w : World} {i k x : Nat} {C : List Value} {wr : World} (h : Wi g n cap A x0 w i k x C wr) (hA : FinL A) (hn : n = A.length) (hi : i < n) :
    TwoP (sumP x (A.getD i 0)) (fvW x + fvW (A.getD i 0)) ∧ avL (A.drop (i + 1)) + (fvW (sumP x (A.getD i 0)).1).natAbs + (A.drop (i + 1)).length * GG ≤ 4503599627370496 * GG := by
  have hb := h.bound
  rw [drop_cons8 A i (by omega)] at hb
  simp only [avL, List.length_cons] at hb
  rw [Nat.add_mul, Nat.one_mul] at hb
  obtain ⟨t, hg⟩ := sum_grows h.xok (hA.get i (by omega)) (G := GG) (by omega) G_Q
  exact ⟨t, by omega⟩
theorem Wi.next {g n cap : Nat} {A : List Nat} {x0 : Nat} {w : World} {i k x : Nat} {C : List Value} {wr w' : World} (h : Wi g n cap A x0 w i k x C wr) (hA : FinL A) (hn : n = A.length) (hnc : n ≤ cap) (hi : i < n)
    (h1 : Fb w' g (putAt C k (sumP x (A.getD i 0)).2)) (h2 : But g w w') :
    Wi g n cap A x0 w (i + 1) (k + (andN (sumP x (A.getD i 0)).2).length) (sumP x (A.getD i 0)).1 (putAt C k (sumP x (A.getD i 0)).2) w' := by
  obtain ⟨t, hb⟩ := h.two hA hn hi
  have hl := (andN_ok (sumP x (A.getD i 0)).2 ⟨t.w2, t.f2⟩).2.2.2
  have hk := h.ki
  have hlen := h.len
  refine ⟨h1, by rw [putAt_len _ _ _ (by omega)]; exact h.len, by omega, fun j hj hjn => ?_, ?_, ⟨t.w1, t.f1⟩, hb, h2⟩
  · rw [get_putAt _ _ _ _ (by omega) (by omega)]
    exact h.same j (by omega) hjn
  · obtain ⟨K, k1, k2, k3⟩ := h.done
    refine ⟨K ++ andN (sumP x (A.getD i 0)).2, by rw [List.length_append, k1], ?_, ?_⟩
    · unfold putAt
      have e : (C.take k ++ (andN (sumP x (A.getD i 0)).2).map Fw).length = k + (andN (sumP x (A.getD i 0)).2).length := by simp; omega
      rw [← e, List.take_left, List.map_append, k2]
    · rw [← k3, drop_cons8 A i (by omega)]
      show _ = K ++ (andN (sumP x (A.getD i 0)).2 ++ withL (A.drop (i + 1)) (sumP x (A.getD i 0)).1)
      rw [List.append_assoc]

set_option maxHeartbeats 2000000 in
theorem with_any (lo : Nat) (v : Value) (A : List Nat) (x : Nat) (w : World) (hv : Fr lo w v A) (hlo : lo ≤ w.heap.size) (hA : FinL A) (hx : Wd x ∧ finW x) (hl : A.length ≤ 100000) (hb : avL A + (fvW x).natAbs + A.length * GG ≤ 4503599627370496 * GG) :
    Calls Tryz.prog 137 #[v, .float .f64 x] w fun r w' => ∃ v', r = .returned v' ∧ Fr lo w' v' (withL A x) ∧ w.grownBy w' v.ownBlock ∧ (v'.ownBlock = v.ownBlock ∨ ∃ g, v'.ownBlock = some g ∧ w.heap.size ≤ g) := by
  rcases hv.2 with ⟨rfl, h0⟩ | ⟨g, cap, cur, rfl, hlog, hg, hnc, hcm, hcs, hct⟩
  · have hA0 : A = [] := List.eq_nil_of_length_eq_zero h0
    subst hA0
    have HL := hid (and_any lo (.slice none 0 0) [] x w hv hlo (by simp) hx)
    clear hv hlo hA hx hl hb h0
    go_enter Tryz.func137, Tryz.ntmps137
    go_wp2_with fail
    go_loopg [1, 5, 13] 0 (fun gk xv kv iv wr => xv = .float .f64 x ∧ kv = .slice none 0 0 ∧ iv = .int .i64 0 ∧ wr = w)
    case atStart => exact ⟨rfl, rfl, rfl, rfl⟩
    case round =>
      obtain ⟨rfl, rfl, rfl, rfl⟩ := hrel
      go_wp2_with fail
      with_reducible refine HL.out.mono ?_
      rintro r w1 ⟨v', rfl, h1, h2, h3⟩
      have H := Aside.intro (And.intro h1 (And.intro h2 h3))
      clear h1 h2 h3
      go_wp2
      go_ret
      exact ⟨v', rfl, H.out⟩
  · obtain ⟨n, hn⟩ : ∃ n, n = A.length := ⟨_, rfl⟩
    have hnc' : n ≤ cap := by omega
    have H0 : Aside (Wi g n cap A x w 0 0 x cur.toList w) := by
      refine Aside.intro ⟨by unfold Fb; simpa using hg, by simpa using hcs, Nat.le_refl _, fun j _ hj => ?_, ⟨[], rfl, by simp, by simp⟩, hx, by simpa using hb, But.refl _ _⟩
      have e : (cur.toList.take (A.length * 1))[j]? = some (Fw (A.getD j 0)) := by
        rw [hct, List.getElem?_map, List.getD_eq_getElem?_getD, List.getElem?_eq_getElem (by omega)]; rfl
      rw [List.getElem?_take, if_pos (by omega)] at e
      exact e
    have HA := Aside.intro (And.intro hA (And.intro hn (And.intro hnc' (And.intro hlog (And.intro hlo (And.intro hl (And.intro hcm (And.intro hcs hg))))))))
    rw [← hn]
    clear hv hlo hA hx hl hb hg hct hcs hlog hcm hnc hnc' hn
    go_enter Tryz.func137, Tryz.ntmps137
    go_wp2_with fail
    go_loopg [1, 5, 13] n (fun gk xv kv iv wr => ∃ (i k y : Nat) (C : List Value), gk + i = n ∧ xv = .float .f64 y ∧ kv = .slice (some ⟨g, 0, none⟩) k cap ∧ iv = .int .i64 (i : Nat) ∧ Aside (Wi g n cap A x w i k y C wr))
    case atStart => exact ⟨0, 0, x, cur.toList, by omega, rfl, rfl, rfl, H0⟩
    case round =>
      clear H0
      obtain ⟨i, k, z, C, hgi, rfl, rfl, rfl, HW⟩ := hrel
      by_cases hi : i < n
      · obtain ⟨y, hy⟩ : ∃ y, y = A.getD i 0 := ⟨_, rfl⟩
        have hc : wr.cell? ⟨g, i, none⟩ = some (.float .f64 y) := by
          rw [HW.out.blk.cell i _ (HW.out.same i (Nat.le_refl _) hi), hy]; rfl
        have HT := Aside.intro (HW.out.two HA.out.1 HA.out.2.1 hi)
        have HN := Aside.intro (fun w' => HW.out.next (w' := w') HA.out.1 HA.out.2.1 HA.out.2.2.1 hi)
        rw [← hy] at HT HN
        clear hy
        obtain ⟨⟨a, b⟩, hp⟩ : ∃ p, p = sumP z y := ⟨_, rfl⟩
        have HS := hid (fun u => Sum_all z y u)
        rw [← hp] at HS HT HN
        simp only at HS HT HN
        have HP : Aside (k < C.length ∧ C.length = cap) := ⟨by have := HW.out.ki; have := HW.out.len; have := HA.out.2.2.1; omega, HW.out.len⟩
        clear hp
        go_wp2_with fail
        refine (HS.out _).mono ?_
        rintro r w1 ⟨rfl, hb1⟩
        obtain ⟨W, hW⟩ : ∃ W, W = w1.alloc (.cells #[.float .f64 a, .float .f64 b] 242) := ⟨_, rfl⟩
        have H1 : Aside (Fb W g C ∧ But g wr W ∧ g < w1.heap.size) := by
          have h1 := HW.out.blk.below hb1
          subst hW
          exact ⟨h1.alloc _, ((But.refl g wr).bel8 hb1).alloc _, h1.lt⟩
        have hc0 : W.cell? ⟨w1.heap.size, 1, none⟩ = some (.float .f64 b) := by subst hW; unfold World.cell?; simp only [heap_alloc_new]; rfl
        have hc1 : Aside (W.heap[w1.heap.size]? = some (.cells #[.float .f64 a, .float .f64 b] 242 (0, 0)) ∧ w1.heap.size < W.heap.size) := by subst hW; exact ⟨heap_alloc_new _ _, by simp⟩
        clear hb1 hc
        have HD := hid (and_room g k C b W H1.out.1 HP.out.1 ⟨HT.out.1.w2, HT.out.1.f2⟩)
        rw [HP.out.2] at HD
        go_wp2_with fail
        rw [← hW]
        with_reducible refine HD.out.mono ?_
        rintro r w2 ⟨rfl, h2, h3⟩
        have H2 := Aside.intro (HN.out w2 h2 (HW.out.but.trans (H1.out.2.1.trans h3)))
        have hp0 : w2.cell? ⟨w1.heap.size, 0, none⟩ = some (.float .f64 a) := by
          unfold World.cell?
          rw [h3.block _ hc1.out.2 (by have := H1.out.2.2; omega), hc1.out.1]
          rfl
        clear h2 h3 hc0 hW HD
        have hi5 : i < 100000 := by have := HA.out.2.2.2.2.2.1; have := HA.out.2.1; omega
        go_wp2
        go_roundg (gk - 1)
        case measure => omega
        case rel => exact ⟨i + 1, _, a, _, by omega, rfl, rfl, by simp, H2⟩
      · obtain rfl : n = i := by omega
        obtain rfl : gk = 0 := by omega
        obtain ⟨K, k1, k2, k3⟩ := HW.out.done
        rw [show A.drop n = [] by rw [HA.out.2.1]; simp] at k3
        have hkn := HW.out.ki
        have hlc := HW.out.len
        have HF : Aside (Fr lo wr (.slice (some ⟨g, 0, none⟩) k cap) K) := by
          refine Aside.intro ?_
          have := Fr.of_block (lo := lo) HW.out.blk HA.out.2.2.2.1 (by rw [hlc]; exact HA.out.2.2.2.2.2.2.1) K (by have := HA.out.2.2.1; omega) (by rw [k1]; exact k2)
          rw [k1, hlc] at this
          exact this
        have HD := hid (and_any lo _ K z wr HF.out (Nat.le_trans HA.out.2.2.2.2.1 HW.out.but.size) (by have := HA.out.2.2.2.2.2.1; have := HA.out.2.1; omega) HW.out.xok)
        have hw : andN z = withL [] z := rfl
        rw [hw, k3] at HD
        have HG := Aside.intro HW.out.but
        clear k1 k2 k3 hkn hlc HF hw K HW
        go_wp2_with fail
        with_reducible refine HD.out.mono ?_
        rintro r w1 ⟨v', rfl, h1, h2, h3⟩
        have H : Aside (Fr lo w1 v' (withL A x) ∧ w.grownBy w1 (some g) ∧ (v'.ownBlock = some g ∨ ∃ g', v'.ownBlock = some g' ∧ w.heap.size ≤ g')) := by
          refine ⟨h1, ⟨h2.os.trans HG.out.os, h2.tape.trans HG.out.tape, h2.output.trans HG.out.output, Nat.le_trans HG.out.size h2.size, fun j hj hne => ?_⟩, ?_⟩
          · rw [h2.block j (Nat.lt_of_lt_of_le hj HG.out.size) hne]
            exact HG.out.block j hj (fun e => hne (by rw [e]))
          · rcases h3 with h | ⟨g', h, h'⟩
            · exact .inl h
            · exact .inr ⟨g', h, Nat.le_trans HG.out.size h'⟩
        clear h1 h2 h3 HD
        go_wp2
        go_ret
        exact ⟨v', rfl, H.out⟩
end Go.Proofs.YtjpaocgimdinmaaGreatDoor

/- The program's row: slices.Clone, merged. -/
namespace Go.Proofs.YtjpaocgimdinmaaGreatDoor
open Go.RowKit
set_option linter.unusedVariables false
set_option maxRecDepth 20000
set_option linter.unusedSimpArgs false

theorem Fr.keep {lo : Nat} {w w' : World} {v : Value} {L : List Nat} {row : Option Nat} (h : Fr lo w v L) (hg : w.grownBy w' row) (hr : ∀ g, v.ownBlock = some g → row ≠ some g) : Fr lo w' v L := by
  refine ⟨h.1, ?_⟩
  rcases h.2 with hn | ⟨g, cap, cur, rfl, hlo, hgc, rest⟩
  · exact .inl hn
  · refine .inr ⟨g, cap, cur, rfl, hlo, ?_, rest⟩
    rw [hg.block g (Array.getElem?_eq_some_iff.1 hgc).1 (fun e => hr g rfl e.symm)]; exact hgc
theorem Fr.below {lo : Nat} {w w' : World} {v : Value} {L : List Nat} (h : Fr lo w v L) (hb : Below w.heap.size w w') : Fr lo w' v L := by
  refine ⟨h.1, ?_⟩
  rcases h.2 with hn | ⟨g, cap, cur, rfl, hlo, hgc, rest⟩
  · exact .inl hn
  · refine .inr ⟨g, cap, cur, rfl, hlo, ?_, rest⟩
    rw [hb.block g (Array.getElem?_eq_some_iff.1 hgc).1]; exact hgc
theorem Fr.lt {lo : Nat} {w : World} {v : Value} {L : List Nat} (h : Fr lo w v L) {g : Nat} (hv : v.ownBlock = some g) : lo ≤ g ∧ g < w.heap.size := by
  rcases h.2 with ⟨rfl, hn⟩ | ⟨g', cap, cur, rfl, hlo, hgc, rest⟩
  · simp [Value.ownBlock] at hv
  · simp [Value.ownBlock] at hv
    subst hv
    exact ⟨hlo, (Array.getElem?_eq_some_iff.1 hgc).1⟩
theorem Fr.mono {lo lo' : Nat} {w : World} {v : Value} {L : List Nat} (h : Fr lo w v L) (hl : lo' ≤ lo) : Fr lo' w v L := by
  refine ⟨h.1, ?_⟩
  rcases h.2 with hn | ⟨g, cap, cur, rfl, hlo, rest⟩
  · exact .inl hn
  · exact .inr ⟨g, cap, cur, rfl, by omega, rest⟩
theorem Fr.shape {lo : Nat} {w : World} {v : Value} {L : List Nat} (h : Fr lo w v L) : (v = .slice none 0 0 ∧ L = []) ∨ ∃ g cap, v = .slice (some ⟨g, 0, none⟩) L.length cap ∧ lo ≤ g ∧ g < w.heap.size ∧ L.length ≤ cap ∧ cap ≤ maxLen ∧ ∀ i, i < L.length → w.cell? ⟨g, i, none⟩ = some (.float .f64 (L.getD i 0)) := by
  have h' := h
  rcases h.2 with ⟨rfl, hn⟩ | ⟨g, cap, cur, rfl, hlo, hg, hn, hm, hs, ht⟩
  · exact .inl ⟨rfl, List.eq_nil_of_length_eq_zero hn⟩
  · refine .inr ⟨g, cap, rfl, hlo, (Array.getElem?_eq_some_iff.1 hg).1, hn, hm, fun i hi => ?_⟩
    have := World.ownsRow.cellAt h' i (by omega)
    rw [this, List.getElem?_map, List.getElem?_eq_getElem hi, List.getD_eq_getElem?_getD, List.getElem?_eq_getElem hi]
    rfl

set_option maxHeartbeats 1000000 in
theorem clone8 (lo : Nat) (v : Value) (B : List Nat) (w : World) (hv : Fr lo w v B) (hn : B.length ≤ 1000000) :
    Calls Tryz.prog 200 #[v] w fun r w' => ∃ v', r = .returned v' ∧ Fr w.heap.size w' v' B ∧ Below w.heap.size w w' := by
  obtain ⟨i0, hi, hz0, hz1, hz2⟩ := info_parts Tryz.info_f8
  have q25 : ∀ (w : World) (a : Option Addr) (n c n' c' : Nat), (binOp .eql 127 (.slice a n c) (.slice none n' c')).run Tryz.prog w = .ok (.bool a.isNone) w := fun w a n c n' c' => Lib.run_eql_slice_nil w _ _ a n c n' c' Tryz.desc_row8
  rcases hv.shape with ⟨rfl, rfl⟩ | ⟨g, cap, rfl, hlo, hg, hc, hm, hcell⟩
  · clear hv hn
    go_enter Tryz.func200, Tryz.ntmps200
    go_wp2
    go_ret
    exact ⟨_, rfl, Fr.nil _ _, Below.refl _ _⟩
  · obtain ⟨n, hnl⟩ : ∃ n, n = B.length := ⟨_, rfl⟩
    have A := Aside.intro (And.intro hnl (And.intro hcell hn))
    rw [← hnl]
    clear hv hn hcell hm hlo hg hc hnl
    go_enter Tryz.func200, Tryz.ntmps200
    go_wp2_with (at_builtin; refine wpList_append_own _ rfl _ _ 127 rfl w.heap.size 38 i0 (.float .f64 0) 1 8 Tryz.desc_row8 hi hz0 hz1 hz2 rfl (by decide) _ _ _ rfl (World.ownsRow_made w #[] 0 (Nat.le_refl _) (Nat.zero_le _) (by simp)) ⟨g, 0, none⟩ n cap (B.map Fw) rfl ?qc1 ?qc2 ?qc3 ?qc4 ?qc5 ?qc6 ?_)
    case qc1 => simp [A.out.1]
    case qc2 =>
      intro j u hj
      have hj2 : j < B.length := by have := (List.getElem?_eq_some_iff.1 hj).1; simpa using this
      rw [Addr.add_lit]
      refine Lib.cell?_alloc_some _ ?_
      rw [Nat.zero_add, A.out.2.1 j hj2, ← hj, List.getElem?_map, List.getElem?_eq_getElem hj2, List.getD_eq_getElem?_getD, List.getElem?_eq_getElem hj2]
      rfl
    case qc3 => intro u hu; obtain ⟨x, _, rfl⟩ := List.mem_map.1 hu; rfl
    case qc4 => have := A.out.1; have := A.out.2.2; unfold maxLen; omega
    case qc5 => have := A.out.1; have := A.out.2.2; omega
    case qc6 => simp
    intro v' w1 hown hgrow hnil
    go_wp2
    go_ret
    refine ⟨v', rfl, ?_, ?_⟩
    · unfold Fr
      rw [← A.out.1]
      simpa using hown
    · exact ((Below.refl _ w).alloc (Nat.le_refl _) _).grown hgrow (by simp) (by intro k hk; simp [Value.ownBlock] at hk; omega)

/-- What stands while merged walks. -/
structure Mi (lo : Nat) (w : World) (v cv rv : Value) (A B : List Nat) (i : Nat) (R : List Nat) (wr : World) : Prop where
  row : Fr lo wr rv R
  copy : Fr w.heap.size wr cv B
  apart : ∀ g, cv.ownBlock = some g → rv.ownBlock ≠ some g
  own : rv.ownBlock = v.ownBlock ∨ ∃ g, rv.ownBlock = some g ∧ w.heap.size ≤ g
  grown : w.grownBy wr v.ownBlock
  val : mergeL R (B.drop i) = mergeL A B
  fin : FinL R
  len : R.length + (B.drop i).length ≤ A.length + B.length
  bound : avL R + avL (B.drop i) + (B.drop i).length * (R.length + (B.drop i).length) * GG ≤ 4503599627370496 * GG
theorem Mi.room {lo : Nat} {w : World} {v cv rv : Value} {A B : List Nat} {i : Nat} {R : List Nat} {wr : World} (h : Mi lo w v cv rv A B i R wr) (hi : i < B.length) : avL R + (fvW (B.getD i 0)).natAbs + R.length * GG ≤ 4503599627370496 * GG := by
  have hb := h.bound
  rw [drop_cons8 B i hi] at hb
  simp only [avL, List.length_cons] at hb
  have e : ((B.drop (i + 1)).length + 1) * (R.length + ((B.drop (i + 1)).length + 1)) * GG = R.length * GG + (B.drop (i + 1)).length * (R.length + 1 + (B.drop (i + 1)).length) * GG + ((B.drop (i + 1)).length + 1) * GG := by
    rw [← Nat.add_mul, ← Nat.add_mul]; congr 1; grind
  rw [e] at hb
  omega
theorem Mi.next {lo : Nat} {w : World} {v cv rv rv' : Value} {A B : List Nat} {i : Nat} {R : List Nat} {wr w' : World} (h : Mi lo w v cv rv A B i R wr) (hB : FinL B) (hi : i < B.length)
    (h1 : Fr lo w' rv' (withL R (B.getD i 0))) (h2 : wr.grownBy w' rv.ownBlock) (h3 : rv'.ownBlock = rv.ownBlock ∨ ∃ g, rv'.ownBlock = some g ∧ wr.heap.size ≤ g) :
    Mi lo w v cv rv' A B (i + 1) (withL R (B.getD i 0)) w' := by
  have hr := h.room hi
  obtain ⟨k1, k2, k3, k4⟩ := with_ok GG G_Q R (B.getD i 0) h.fin (hB.get i hi) hr
  have hb := h.bound
  have hl := h.len
  have hval := h.val
  rw [drop_cons8 B i hi] at hb hl hval
  simp only [avL, List.length_cons] at hb hl
  refine ⟨h1, h.copy.keep h2 (fun g hg => h.apart g hg), fun g hg => ?_, ?_, ?_, hval, k1, by omega, ?_⟩
  · rcases h3 with e | ⟨g', e, hg'⟩
    · rw [e]; exact h.apart g hg
    · rw [e]
      intro e2
      have := (h.copy.lt hg).2
      injection e2 with e3
      omega
  · rcases h3 with e | ⟨g', e, hg'⟩
    · rw [e]; exact h.own
    · exact .inr ⟨g', e, Nat.le_trans h.grown.size hg'⟩
  · refine ⟨h2.os.trans h.grown.os, h2.tape.trans h.grown.tape, h2.output.trans h.grown.output, Nat.le_trans h.grown.size h2.size, fun k hk hne => ?_⟩
    rw [h2.block k (Nat.lt_of_lt_of_le hk h.grown.size) ?_]
    · exact h.grown.block k hk hne
    · rcases h.own with e | ⟨g', e, hg'⟩
      · rw [e]; exact hne
      · rw [e]; intro e2; injection e2 with e3; omega
  · have e : ((B.drop (i + 1)).length + 1) * (R.length + ((B.drop (i + 1)).length + 1)) * GG = R.length * GG + (B.drop (i + 1)).length * (R.length + 1 + (B.drop (i + 1)).length) * GG + ((B.drop (i + 1)).length + 1) * GG := by
      rw [← Nat.add_mul, ← Nat.add_mul]; congr 1; grind
    rw [e] at hb
    have e2 : (B.drop (i + 1)).length * ((withL R (B.getD i 0)).length + (B.drop (i + 1)).length) * GG ≤ (B.drop (i + 1)).length * (R.length + 1 + (B.drop (i + 1)).length) * GG := Nat.mul_le_mul_right _ (Nat.mul_le_mul_left _ (by omega))
    omega

set_option maxHeartbeats 2000000 in
theorem merged_any (lo : Nat) (v vb : Value) (A B : List Nat) (w : World) (hv : Fr lo w v A) (hvb : Fr lo w vb B) (hlo : lo ≤ w.heap.size) (hA : FinL A) (hB : FinL B) (hl : A.length + B.length ≤ 100000) (hb : avL A + avL B + B.length * (A.length + B.length) * GG ≤ 4503599627370496 * GG) :
    Calls Tryz.prog 140 #[v, vb] w fun r w' => ∃ v', r = .returned v' ∧ Fr lo w' v' (mergeL A B) ∧ w.grownBy w' v.ownBlock ∧ (v'.ownBlock = v.ownBlock ∨ ∃ g, v'.ownBlock = some g ∧ w.heap.size ≤ g) := by
  have HC := hid (clone8 lo vb B w hvb (by omega))
  obtain ⟨n, hn⟩ : ∃ n, n = B.length := ⟨_, rfl⟩
  have HA := Aside.intro (And.intro hv (And.intro hlo (And.intro hA (And.intro hB (And.intro hl (And.intro hb hn))))))
  have hn5 : n ≤ 100000 := by omega
  clear hv hvb hlo hA hB hl hb hn
  go_enter Tryz.func140, Tryz.ntmps140
  go_wp2_with fail
  with_reducible refine HC.out.mono ?_
  rintro r w1 ⟨cv, rfl, hcv, hb1⟩
  have H0 : Aside (Mi lo w v cv v A B 0 A w1) := by
    obtain ⟨h1, h2, h3, h4, h5, h6, h7⟩ := HA.out
    refine ⟨h1.below hb1, hcv, fun g hg e => ?_, .inl rfl, ⟨hb1.os, hb1.tape, hb1.output, hb1.size, fun k hk _ => hb1.block k hk⟩, by simp, h3, by simp, by simpa using h6⟩
    have e1 := (hcv.lt hg).1
    have e2 := (h1.lt e).2
    omega
  have HL : Aside (∃ ao c, cv = .slice ao n c) := by
    rcases hcv.shape with ⟨rfl, h⟩ | ⟨g, cap, rfl, _⟩
    · exact ⟨none, 0, by rw [HA.out.2.2.2.2.2.2, h]; rfl⟩
    · exact ⟨_, _, by rw [HA.out.2.2.2.2.2.2]⟩
  clear hcv hb1 HC
  obtain ⟨ao, cc, rfl⟩ := HL.out
  clear HL
  go_wp2_with fail
  go_loopg [0, 10] n (fun gk rv iv wr => ∃ (i : Nat) (R : List Nat), gk + i = n ∧ iv = .int .i64 (i : Nat) ∧ Aside (Mi lo w v (.slice ao n cc) rv A B i R wr))
  case atStart => exact ⟨0, A, by omega, rfl, H0⟩
  case round =>
    clear H0
    obtain ⟨i, R, hgi, rfl, HW⟩ := hrel
    by_cases hi : i < n
    · have hi2 : i < B.length := by have := HA.out.2.2.2.2.2.2; omega
      have HI := Aside.intro hi2
      clear hi2
      rcases HW.out.copy.shape with ⟨h1, h2⟩ | ⟨g, cap, h1, _, _, _, _, hcell⟩
      · exfalso
        have := HI.out
        rw [h2] at this
        simp at this
      · cases h1
        obtain ⟨y, hy⟩ : ∃ y, y = B.getD i 0 := ⟨_, rfl⟩
        have hc := hcell i HI.out
        rw [← hy] at hc
        have HS := hid (with_any lo u0 R y wr HW.out.row (Nat.le_trans HA.out.2.1 HW.out.grown.size) HW.out.fin (by rw [hy]; exact HA.out.2.2.2.1.get i HI.out) (by have := HW.out.len; have := HA.out.2.2.2.2.1; omega) (by rw [hy]; exact HW.out.room HI.out))
        have HN := Aside.intro (fun w' rv' => HW.out.next (w' := w') (rv' := rv') HA.out.2.2.2.1 HI.out)
        rw [← hy] at HN
        clear hy hcell
        go_wp2_with fail
        with_reducible refine HS.out.mono ?_
        rintro r w2 ⟨v', rfl, k1, k2, k3⟩
        have H2 := Aside.intro (HN.out w2 v' k1 k2 k3)
        clear k1 k2 k3 hc HS
        go_wp2
        go_roundg (gk - 1)
        case measure => omega
        case rel => exact ⟨i + 1, _, by omega, by simp, H2⟩
    · obtain rfl : n = i := by omega
      obtain rfl : gk = 0 := by omega
      have e := HW.out.val
      rw [show B.drop n = [] by rw [HA.out.2.2.2.2.2.2]; simp] at e
      have H : Aside (Fr lo wr u0 (mergeL A B) ∧ w.grownBy wr v.ownBlock ∧ (u0.ownBlock = v.ownBlock ∨ ∃ g, u0.ownBlock = some g ∧ w.heap.size ≤ g)) := by
        refine ⟨?_, HW.out.grown, HW.out.own⟩
        rw [← e]
        exact HW.out.row
      clear e HW
      go_wp2
      go_ret
      exact ⟨u0, rfl, H.out⟩
end Go.Proofs.YtjpaocgimdinmaaGreatDoor

/- The program's row: exact. -/
namespace Go.Proofs.YtjpaocgimdinmaaGreatDoor
open Go.RowKit
set_option linter.unusedVariables false
set_option maxRecDepth 20000
set_option linter.unusedSimpArgs false

theorem fo8_len (V : Int) (m : Nat) (hm : m ≤ 200000) (hV : V.natAbs < 2 ^ m) : (ws (dX (fo8 V))).length ≤ 8192 ∧ -9223372036854775808 ≤ dE (fo8 V) ∧ dE (fo8 V) ≤ 9223372036854775807 ∧ -1074 ≤ dE (fo8 V) ∧ dE (fo8 V) ≤ 200000 := by
  obtain ⟨n, X, e, h1, F, _, _, h4, h5⟩ := fo8_frm V m hm hV
  rw [h1]
  exact ⟨frmLen F, by show -9223372036854775808 ≤ e; omega, by show e ≤ 9223372036854775807; omega, h4, h5⟩
/-- Of, of a number that is finite. -/
theorem of_any8 (x : Nat) (hx : Wd x ∧ finW x) (w : World) (hT : Tab w) :
    Calls Tryz.prog 133 #[.float .f64 x] w fun r w' => (∃ v, r = .returned (.tuple #[.agg #[.bool (dN (fo8 (fvW x))), v, .int .i64 (dE (fo8 (fvW x)))], .int .i64 0]) ∧ Nt w.heap.size w' v (dX (fo8 (fvW x)))) ∧ Below w.heap.size w w' := by
  obtain ⟨h1, h2, h3, _⟩ := wd64_bw (negW x) (magW x) (Nat.le_of_lt hx.2)
  have := Of_any (negW x) (magW x / 4503599627370496) (magW x % 4503599627370496) h2 h3 w hT
  rw [← h1, ← wd_of x hx.1] at this
  refine this.mono ?_
  rintro r w' ⟨⟨v, rfl, hN⟩, hb⟩
  have e := of_fo8 hx.1 hx.2
  unfold ofK at e
  rw [e] at hN ⊢
  have he : ofE (magW x / 4503599627370496) = 0 := by unfold ofE; rw [if_neg (by have := hx.2; omega)]
  rw [he]
  exact ⟨⟨v, rfl, hN⟩, hb⟩
/-- Add, of two forms by value. -/
theorem add_any8 (V U : Int) (m : Nat) (hm : m ≤ 100000) (hV : V.natAbs < 2 ^ m) (hU : U.natAbs < 2 ^ m) (e : Int) (he0 : -9223372036854775808 ≤ e) (he1 : e ≤ 9223372036854775807) (n : Bool) (X : Nat) (hX : mkS n X e = fo8 U)
    (w : World) (a b : Option Addr) (c d : Nat) (hT : Tab w) (h1 : Arg w a (ws (dX (fo8 V))).length c (ws (dX (fo8 V)))) (h2 : Arg w b (ws X).length d (ws X)) :
    Calls Tryz.prog 138 #[.agg #[.bool (dN (fo8 V)), .slice a (ws (dX (fo8 V))).length c, .int .i64 (dE (fo8 V))], .agg #[.bool n, .slice b (ws X).length d, .int .i64 e]] w fun r w' =>
      (∃ v, r = .returned (.tuple #[.agg #[.bool (dN (fo8 (V + U))), v, .int .i64 (dE (fo8 (V + U)))], .int .i64 0]) ∧ Nt w.heap.size w' v (dX (fo8 (V + U)))) ∧ Below w.heap.size w w' := by
  obtain ⟨l1, l2, l3, _⟩ := fo8_len V m (by omega) hV
  have := Add_any3 h1 h2 hT (dN (fo8 V)) n (dE (fo8 V)) e l2 l3 he0 he1
  rw [val_ws, val_ws, fo8_self V m (by omega) hV, hX, fo8_add V U m hm hV hU] at this
  refine this.mono ?_
  rintro r w' ⟨⟨v, rfl, hN⟩, hb⟩
  have e2 : 2 ^ (m + 1) = 2 * 2 ^ m := by rw [Nat.pow_succ, Nat.mul_comm]
  rw [fo8_er (V + U) (m + 1) (by omega) (by omega)]
  exact ⟨⟨v, rfl, hN⟩, hb⟩

theorem fvL_take (L : List Nat) (i : Nat) (hi : i < L.length) : fvL (L.take (i + 1)) = fvL (L.take i) + fvW (L.getD i 0) := by
  have e : L.take (i + 1) = L.take i ++ [L.getD i 0] := by
    rw [List.getD_eq_getElem?_getD, List.getElem?_eq_getElem hi]
    exact List.take_succ_eq_append_getElem hi
  rw [e, fvL_append]
  simp [fvL]
theorem avL_take (L : List Nat) (i : Nat) : avL (L.take i) ≤ avL L := by
  have : avL L = avL (L.take i) + avL (L.drop i) := by rw [← avL_append, List.take_append_drop]
  omega
theorem fv_av (L : List Nat) : (fvL L).natAbs ≤ avL L := by
  induction L with
  | nil => simp [fvL, avL]
  | cons x L ih => simp only [fvL, avL]; omega
theorem avL_get (L : List Nat) (i : Nat) (hi : i < L.length) : (fvW (L.getD i 0)).natAbs ≤ avL L := by
  have : avL L = avL (L.take i) + avL (L.drop i) := by rw [← avL_append, List.take_append_drop]
  rw [drop_cons8 L i hi] at this
  simp only [avL] at this
  omega
/-- The bound, as a power. -/
theorem pw_up {V : Int} {m up : Nat} (h : V.natAbs < 2 ^ m) : (V * 2 ^ up).natAbs < 2 ^ (m + up) := by
  rw [Int.natAbs_mul, Int.natAbs_pow, Nat.pow_add]
  exact Nat.mul_lt_mul_of_pos_right h (Nat.two_pow_pos _)

theorem Nt.but8 {lo g : Nat} {w w' : World} {v : Value} {X : Nat} (h : Nt lo w v X) (hb : But g w w') (hg : g < lo) : Nt lo w' v X := by
  refine ⟨h.1, ?_⟩
  rcases h.2 with hn | ⟨g', cap, cur, rfl, hlo, hgc, rest⟩
  · exact .inl hn
  · exact .inr ⟨g', cap, cur, rfl, hlo, (hb.block g' (Array.getElem?_eq_some_iff.1 hgc).1 (by omega)).trans hgc, rest⟩
theorem Tryz.row_dyad8 : ∃ d : TypeDesc, Tryz.prog.underlying 33 = some d ∧ d.isRow = true := by
  have h : (Tryz.prog.underlying 33).any (·.isRow) = true := by kernel_rfl
  obtain ⟨d, h1, h2⟩ := (Option.any_eq_true _ _).1 h
  exact ⟨d, h1, h2⟩
theorem Tryz.size_dyad8 : (Tryz.prog.info? 33).map (·.size) = some 3 := by kernel_rfl
/-- The end of a function whose result is a Dyad in a variable. -/
theorem close8 {fn : Func} {p : Tmp} (h : fn.results = #[.cell p 33]) {tmps : Array Value} {W : World} {g : Nat} {n : Bool} {v : Value} {e : Int} {Q : Ending → World → Prop}
    (hp : tmps.getD p undef = .pointer (some ⟨g, 0, none⟩)) (hD : Dk W g n v e) (hQ : Q (.returned (.agg #[.bool n, v, .int .i64 e])) W) : bodyPost Tryz.prog fn Q .ret ⟨tmps, []⟩ W := by
  refine bodyPost_ret (v := .agg #[.bool n, v, .int .i64 e]) ?_ rfl hQ
  obtain ⟨d, h1, h2⟩ := Tryz.row_dyad8
  cases d <;> first
    | exact results_cell_row (P := Tryz.prog) h tmps W g 33 _ _ _ hp hD h1 rfl (by rw [Tryz.size_dyad8]; rfl)
    | exact absurd h2 (by simp [TypeDesc.isRow])
/-- What stands while exact walks. -/
structure Xi (w : World) (L : List Nat) (up i : Nat) (wr : World) : Prop where
  res : Dk wr w.heap.size false (.slice none 0 0) 0
  sum : ∃ v, Dk wr (w.heap.size + 1) (dN (fo8 (fvL (L.take i) * 2 ^ up))) v (dE (fo8 (fvL (L.take i) * 2 ^ up))) ∧ Nt (w.heap.size + 2) wr v (dX (fo8 (fvL (L.take i) * 2 ^ up)))
  bel : Below w.heap.size w wr
theorem st3_but8 (g : Nat) (w : World) (x y z : Value) : But g w (st3 w g x y z) := (((But.refl g w).set _ _).set _ _).set _ _

set_option maxHeartbeats 4000000 in
theorem exact_any8 (lo : Nat) (v : Value) (L : List Nat) (up : Nat) (w : World) (hv : Fr lo w v L) (hT : Tab w) (hF : FinL L) (hl : L.length ≤ 100000) (m : Nat) (hm : m + up ≤ 50000) (hup : up ≤ 1000) (hb : avL L < 2 ^ m) :
    Calls Tryz.prog 139 #[v, .int .i64 (up : Nat)] w fun r w' => (∃ u, r = .returned (.agg #[.bool (dN (fo8 (fvL L * 2 ^ up))), u, .int .i64 (dE (fo8 (fvL L * 2 ^ up)))]) ∧ Nt w.heap.size w' u (dX (fo8 (fvL L * 2 ^ up)))) ∧ Below w.heap.size w w' := by
  obtain ⟨ao, n, cc, rfl, hn⟩ : ∃ ao n cc, v = .slice ao n cc ∧ n = L.length := by
    rcases hv.shape with ⟨rfl, rfl⟩ | ⟨g, cap, rfl, _⟩
    · exact ⟨none, 0, 0, rfl, rfl⟩
    · exact ⟨_, _, _, rfl, rfl⟩
  have HA := Aside.intro (And.intro hv (And.intro hT (And.intro hF (And.intro hb (And.intro hm hn)))))
  have hn5 : n ≤ 100000 := by omega
  obtain ⟨W0, hW0⟩ : ∃ W, W = (w.alloc (Obj.cells #[.bool false, .slice none 0 0, .int .i64 0] 33)).alloc (Obj.cells #[.bool false, .slice none 0 0, .int .i64 0] 33) := ⟨_, rfl⟩
  have H0 : Aside (Xi w L up 0 W0) := by
    subst hW0
    have z0 : fo8 (fvL (L.take 0) * 2 ^ up) = some (false, 0, 0) := by
      rw [show fvL (L.take 0) = 0 by simp [fvL], Int.zero_mul]; unfold fo8; exact mkS_zero _ _
    refine ⟨(Dk.new w _ _ _).alloc _, ⟨.slice none 0 0, ?_, ?_⟩, (below_alloc _ _).trans ((below_alloc _ _).mono (by simp))⟩
    · rw [z0]
      have := Dk.new (w.alloc (Obj.cells #[.bool false, .slice none 0 0, .int .i64 0] 33)) false (.slice none 0 0) 0
      rw [show (w.alloc (Obj.cells #[.bool false, .slice none 0 0, .int .i64 0] 33)).heap.size = w.heap.size + 1 by simp] at this
      exact this
    · rw [z0]; exact Nt.nil _ _
  clear hv hT hF hb hn hl
  go_enter Tryz.func139, Tryz.ntmps139
  go_wp2_with fail
  rw [← hW0]
  clear hW0
  go_loopg [12] n (fun gk iv wr => ∃ i : Nat, gk + i = n ∧ iv = .int .i64 (i : Nat) ∧ Aside (Xi w L up i wr))
  case atStart => exact ⟨0, by omega, rfl, H0⟩
  case round =>
    clear H0 W0
    obtain ⟨i, hgi, rfl, HW⟩ := hrel
    by_cases hi : i < n
    · have HI : Aside (i < L.length) := by have := HA.out.2.2.2.2.2; exact Aside.intro (by omega)
      rcases HA.out.1.shape with ⟨h1, h2⟩ | ⟨g, cap, h1, _, hgw, _, _, hcell⟩
      · exfalso
        have := HI.out
        rw [h2] at this
        simp at this
      · cases h1
        obtain ⟨y, hy⟩ : ∃ y, y = L.getD i 0 := ⟨_, rfl⟩
        have hc : wr.cell? ⟨g, i, none⟩ = some (.float .f64 y) := by
          rw [hy, ← hcell i HI.out]
          exact HW.out.bel.cell (p := ⟨g, i, none⟩) hgw
        have HO := hid (of_any8 y (by rw [hy]; exact HA.out.2.2.1.get i HI.out) wr (HA.out.2.1.belows HW.out.bel))
        obtain ⟨Z, hZ⟩ : ∃ Z, Z = fvL (L.take i) * 2 ^ up := ⟨_, rfl⟩
        have HE : Aside (fvL (L.take (i + 1)) * 2 ^ up = Z + fvW y * 2 ^ up) := by
          rw [fvL_take L i HI.out, Int.add_mul, hZ, hy]; exact Aside.intro rfl
        have HB : Aside (Z.natAbs < 2 ^ (m + up) ∧ (fvW y).natAbs < 2 ^ m ∧ (fvW y * 2 ^ up).natAbs < 2 ^ (m + up)) := by
          have h1 := avL_take L i
          have h2 := fv_av (L.take i)
          have h3 := avL_get L i HI.out
          have h4 := HA.out.2.2.2.1
          rw [← hy] at h3
          exact ⟨by rw [hZ]; exact pw_up (by omega), by omega, pw_up (by omega)⟩
        obtain ⟨q1, q2, q3, q4, q5⟩ := fo8_len (fvW y) m (by have := HA.out.2.2.2.2.1; omega) HB.out.2.1
        have HQ := Aside.intro q1
        obtain ⟨sv, S1, S2⟩ := HW.out.sum
        rw [← hZ] at S1 S2
        have HS := Aside.intro (And.intro S1 (And.intro S2 (And.intro HW.out.res HW.out.bel)))
        clear hy hcell S1 S2 hZ q1 q2 q3 HW
        obtain ⟨⟨dn, dx, de⟩, hd⟩ : ∃ d : Bool × Nat × Int, dN (fo8 (fvW y)) = d.1 ∧ dX (fo8 (fvW y)) = d.2.1 ∧ dE (fo8 (fvW y)) = d.2.2 := ⟨(_, _, _), rfl, rfl, rfl⟩
        simp only at hd
        have HU := Aside.intro (fo8_up (fvW y) up m (by have := HA.out.2.2.2.2.1; omega) HB.out.2.1)
        rw [hd.1, hd.2.1, hd.2.2] at HU
        rw [hd.1, hd.2.2, hd.2.1] at HO
        rw [hd.2.2] at q4 q5
        rw [hd.2.1] at HQ
        clear hd
        go_wp2_with fail
        with_reducible refine HO.out.mono ?_
        rintro r w1 ⟨⟨v1, rfl, hN1⟩, hb1⟩
        obtain ⟨a1, c1, rfl, _⟩ := hN1.arg (Nat.le_trans HQ.out (by decide))
        obtain ⟨U, hU⟩ : ∃ U, U = w1.alloc (Obj.cells #[.bool dn, .slice a1 (ws dx).length c1, .int .i64 (de + (up : Nat))] 33) := ⟨_, rfl⟩
        have HU2 : Aside (Below wr.heap.size wr U ∧ Dk U w1.heap.size dn (.slice a1 (ws dx).length c1) (de + (up : Nat)) ∧ Nt wr.heap.size U (.slice a1 (ws dx).length c1) dx ∧ wr.heap.size ≤ w1.heap.size) := by
          subst hU
          exact ⟨hb1.trans ((below_alloc _ _).mono hb1.size), Dk.new _ _ _ _, hN1.below (below_alloc _ _), hb1.size⟩
        go_upto_region 7 with fail
        rw [← hU]
        clear hU hN1 hb1 hc HO
        obtain ⟨T1, T2, T3, T4⟩ := HS.out
        have D1 := T1.below HU2.out.1
        have D3 := T3.below HU2.out.1
        obtain ⟨x0, x1, x2, xf0, xf1, xf2⟩ := HU2.out.2.1.facts
        obtain ⟨y0, y1, y2, yf0, yf1, yf2⟩ := D1.facts
        have N1 := T2.below HU2.out.1
        obtain ⟨a0, c0, rfl, A0⟩ := N1.arg (Nat.le_trans (fo8_len Z (m + up) (by have := HA.out.2.2.2.2.1; omega) HB.out.1).1 (by decide))
        obtain ⟨_, A1⟩ := HU2.out.2.2.1.arg' (Nat.le_trans HQ.out (by decide))
        have HAdd := hid (add_any8 Z (fvW y * 2 ^ up) (m + up) (by have := HA.out.2.2.2.2.1; omega) HB.out.1 HB.out.2.2 (de + (up : Nat)) (by omega) (by omega) dn dx HU.out U a0 a1 c0 c1 ((HA.out.2.1.belows T4).belows HU2.out.1) A0 A1)
        have hlt := D1.lt
        have HD := Aside.intro (And.intro D1 (And.intro D3 (T4.trans (HU2.out.1.mono T4.size))))
        rw [← HE.out] at HAdd
        clear T1 T2 T3 T4 D1 D3 N1 A0 A1
        go_wp2_with fail
        with_reducible refine HAdd.out.mono ?_
        rintro r w2 ⟨⟨v2, rfl, hN2⟩, hb2⟩
        obtain ⟨a2, c2, rfl, _⟩ := hN2.arg (Nat.le_trans (fo8_len (fvL (L.take (i + 1)) * 2 ^ up) (m + up + 1) (by have := HA.out.2.2.2.2.1; omega) (by
          rw [HE.out, Nat.pow_succ]; have := HB.out.1; have := HB.out.2.2; omega)).1 (by decide))
        have D2 := HD.out.1.below hb2
        obtain ⟨z0, z1, z2, zf0, zf1, zf2⟩ := D2.facts
        have hlt2 := D2.lt
        obtain ⟨nn, hnn⟩ : ∃ b, b = dN (fo8 (fvL (L.take (i + 1)) * 2 ^ up)) := ⟨_, rfl⟩
        obtain ⟨ee, hee⟩ : ∃ b, b = dE (fo8 (fvL (L.take (i + 1)) * 2 ^ up)) := ⟨_, rfl⟩
        obtain ⟨xx, hxx⟩ : ∃ b, b = dX (fo8 (fvL (L.take (i + 1)) * 2 ^ up)) := ⟨_, rfl⟩
        rw [← hnn, ← hee]
        rw [← hxx] at hN2 ⊢
        have HX : Aside (Xi w L up (i + 1) (st3 w2 (w.heap.size + 1) (.bool nn) (.slice a2 (ws xx).length c2) (.int .i64 ee))) := by
          have hbt := st3_but8 (w.heap.size + 1) w2 (.bool nn) (.slice a2 (ws xx).length c2) (.int .i64 ee)
          have hsz : w.heap.size + 1 < U.heap.size := hlt
          refine ⟨((HD.out.2.1.below hb2)).but hbt (by omega), ⟨.slice a2 (ws xx).length c2, ?_, ?_⟩, ?_⟩
          · rw [← hnn, ← hee]; exact D2.set _ _ _
          · rw [← hxx]; exact (hN2.mono (by omega)).but8 hbt (by omega)
          · exact But.below (HD.out.2.2.trans (hb2.mono HD.out.2.2.size)) hbt (by have := HD.out.2.2.size; have := hb2.size; omega) (by omega)
        unfold st3 at HX
        clear hnn hee hxx hN2 hb2 D2 HAdd HD HE HB HU HU2 HS
        go_wp2
        go_roundg (gk - 1)
        case measure => omega
        case rel => exact ⟨i + 1, by omega, by simp, HX⟩
    · obtain rfl : n = i := by omega
      obtain rfl : gk = 0 := by omega
      obtain ⟨sv, S1, S2⟩ := HW.out.sum
      rw [show L.take n = L by rw [HA.out.2.2.2.2.2, List.take_length]] at S1 S2
      have hs := HW.out.bel.size
      obtain ⟨a0, c0, rfl, _⟩ := S2.arg (Nat.le_trans (fo8_len (fvL L * 2 ^ up) (m + up) (by have := HA.out.2.2.2.2.1; omega) (pw_up (by have := fv_av L; have := HA.out.2.2.2.1; omega))).1 (by decide))
      obtain ⟨y0, y1, y2, yf0, yf1, yf2⟩ := S1.facts
      obtain ⟨z0, z1, z2, zf0, zf1, zf2⟩ := HW.out.res.facts
      have HD := Aside.intro (And.intro HW.out.res (And.intro S2 HW.out.bel))
      have hl1 := S1.lt
      obtain ⟨nn, hnn⟩ : ∃ b, b = dN (fo8 (fvL L * 2 ^ up)) := ⟨_, rfl⟩
      obtain ⟨ee, hee⟩ : ∃ b, b = dE (fo8 (fvL L * 2 ^ up)) := ⟨_, rfl⟩
      obtain ⟨xx, hxx⟩ : ∃ b, b = dX (fo8 (fvL L * 2 ^ up)) := ⟨_, rfl⟩
      rw [← hnn] at y0
      rw [← hee] at y2
      rw [← hxx] at y1 HD
      have HN := Aside.intro (And.intro hnn (And.intro hee hxx))
      clear S1 S2 HW hnn hee hxx
      go_wp2
      obtain ⟨R1, R2, R3⟩ := HD.out
      have hbt := st3_but8 w.heap.size wr (.bool nn) (.slice a0 (ws xx).length c0) (.int .i64 ee)
      refine close8 Tryz.results139 (g := w.heap.size) (n := nn) (v := .slice a0 (ws xx).length c0) (e := ee) rfl (R1.set _ _ _) ?_
      rw [← HN.out.1, ← HN.out.2.1, ← HN.out.2.2]
      exact ⟨⟨_, rfl, (R2.but8 hbt (by omega)).mono (by omega)⟩, But.below R3 hbt hs (Nat.le_refl _)⟩
end Go.Proofs.YtjpaocgimdinmaaGreatDoor

