/- dyad's Sub, the document's Add and Sub; sums and products in either order. -/
import Derived.Test.YtjpaocgimdinmaaGreatDoorD32x
import Derived.Deep.Cut
import Derived.Deep.RegionHeld3
import Derived.Test.YtjpaocgimdinmaaGreatDoorD16x
import Derived.BigQuiet
import Derived.Test.YtjpaocgimdinmaaGreatDoorD21x
import Derived.Test.YtjpaocgimdinmaaGreatDoorD3x
import Derived.Laws.Bits64
import Derived.Laws.Bits64b
namespace Go.Proofs.YtjpaocgimdinmaaGreatDoor
open Go.RowKit
set_option linter.unusedVariables false
set_option maxRecDepth 20000
set_option linter.unusedSimpArgs false

theorem sub_res (W : World) (g : Nat) (n : Bool) (v : Value) (e k : Int) (tmps : Array Value) (ht : tmps[4]?.getD undef = .pointer (some ⟨g, 0, none⟩)) (hk : tmps[5]?.getD undef = .int .i64 k) (D : Dk W g n v e) :
    (results Tryz.f134 tmps).run Tryz.prog W = .ok (.tuple #[.agg #[.bool n, v, .int .i64 e], .int .i64 k]) W := by
  obtain ⟨x0, x1, x2, xf0, xf1, xf2⟩ := D.facts
  simp [results, Tryz.results134, ht, hk, go_sem, x0, x1, x2]

theorem rsub_res (W : World) (g : Nat) (n : Bool) (v : Value) (e k : Int) (tmps : Array Value) (ht : tmps[4]?.getD undef = .pointer (some ⟨g, 0, none⟩)) (hk : tmps[5]?.getD undef = .int .i64 k) (D : Dk W g n v e) :
    (results Tryz.f32 tmps).run Tryz.prog W = .ok (.tuple #[.agg #[.bool n, v, .int .i64 e], .int .i64 k]) W := by
  obtain ⟨x0, x1, x2, xf0, xf1, xf2⟩ := D.facts
  simp [results, Tryz.results32, ht, hk, go_sem, x0, x1, x2]

set_option maxHeartbeats 4000000 in
theorem sub_core {w : World} {a b : Option Addr} {l c k d : Nat} (n m : Bool) (e f : Int) (dn : Bool) (V : Nat) (de er : Int) (lV : (ws V).length ≤ 8192)
    (HT : Hid (∀ u, Calls Tryz.prog 193 #[.agg #[.bool m, .slice b k d, .int .i64 f]] u fun r w' => r = .returned (.agg #[.bool (!m), .slice b k d, .int .i64 f]) ∧ Below u.heap.size u w'))
    (HA : Hid (∀ u, Below w.heap.size w u → Calls Tryz.prog 138 #[.agg #[.bool n, .slice a l c, .int .i64 e], .agg #[.bool (!m), .slice b k d, .int .i64 f]] u fun r w' => (∃ v, r = .returned (.tuple #[.agg #[.bool dn, v, .int .i64 de], .int .i64 er]) ∧ Nt u.heap.size w' v V) ∧ Below u.heap.size u w')) :
    Calls Tryz.prog 134 #[.agg #[.bool n, .slice a l c, .int .i64 e], .agg #[.bool m, .slice b k d, .int .i64 f]] w fun r w' => (∃ v, r = .returned (.tuple #[.agg #[.bool dn, v, .int .i64 de], .int .i64 er]) ∧ Nt w.heap.size w' v V) ∧ Below w.heap.size w w' := by
  obtain ⟨W1, hW1⟩ : ∃ W, W = ((w.alloc (.cells #[.bool n, .slice a l c, .int .i64 e] 33)).alloc (.cells #[.bool m, .slice b k d, .int .i64 f] 33)).alloc (.cells #[.bool false, .slice none 0 0, .int .i64 0] 33) := ⟨_, rfl⟩
  obtain ⟨hB, hz1, DA, DB, DR⟩ := add_begin w n m (.slice a l c) (.slice b k d) e f W1 hW1
  have T1 := hid (HT.out W1)
  have T2 := hid (HT.out W1.drew)
  obtain ⟨x0, x1, x2, xf0, xf1, xf2⟩ := DA.facts
  obtain ⟨y0, y1, y2, yf0, yf1, yf2⟩ := DB.facts
  obtain ⟨r0, r1, r2, rf0, rf1, rf2⟩ := DR.facts
  have hs1 : w.heap.size + 3 ≤ W1.heap.size := by omega
  have SB := (Aside.intro (And.intro hB (And.intro DA (And.intro DB DR))))
  clear hB hz1 DA DB DR
  go_enter Tryz.func134, Tryz.ntmps134
  go_wp2_with fail
  rw [← hW1]
  clear hW1
  have ne1 : w.heap.size ≠ w.heap.size + 1 + 1 := by omega
  have ne2 : w.heap.size + 1 ≠ w.heap.size + 1 + 1 := by omega
  have ne3 : w.heap.size + 1 + 1 ≠ w.heap.size := by omega
  have ne4 : w.heap.size + 1 + 1 ≠ w.heap.size + 1 := by omega
  go_region_held3 (fun w' => w'.cell? ⟨w.heap.size, 0, none⟩ = some (.bool n) ∧ w'.cell? ⟨w.heap.size, 1, none⟩ = some (.slice a l c) ∧ w'.cell? ⟨w.heap.size, 2, none⟩ = some (.int .i64 e) ∧ w'.cell? ⟨w.heap.size + 1, 0, none⟩ = some (.bool m) ∧ w'.cell? ⟨w.heap.size + 1, 1, none⟩ = some (.slice b k d) ∧ w'.cell? ⟨w.heap.size + 1, 2, none⟩ = some (.int .i64 f)) (go_keep) (first
    | (go_at_call 193
       first | with_reducible refine T1.out.mono ?_ | with_reducible refine T2.out.mono ?_
       rintro r u1 ⟨rfl, hb⟩
       have hb1 : Below W1.heap.size W1 u1 := by first | exact hb | exact ((Below.refl _ W1).drew).trans (hb.mono (Nat.le_refl _))
       have hs2 : W1.heap.size ≤ u1.heap.size := hb1.size
       have BW : Below w.heap.size w u1 := SB.out.1.trans (hb1.mono (by omega))
       have HA1 := hid (HA.out u1 BW)
       have KR := SB.out.2.2.2.below hb1
       obtain ⟨p0, p1, p2, pf0, pf1, pf2⟩ := KR.facts
       obtain ⟨q0, q1, q2, qf0, qf1, qf2⟩ := (SB.out.2.1.below hb1).facts
       obtain ⟨s0, s1, s2, sf0, sf1, sf2⟩ := (SB.out.2.2.1.below hb1).facts
       have S1 := (Aside.intro (And.intro BW (And.intro KR (And.intro (SB.out.2.1.below hb1) (SB.out.2.2.1.below hb1)))))
       clear hb hb1 KR BW)
    | (go_at_call 138
       with_reducible refine HA1.out.mono ?_
       rintro r u2 ⟨⟨v, rfl, hN⟩, hb⟩
       obtain ⟨a4, c4, rfl, _⟩ := hN.arg (by omega)
       have LR := S1.out.2.1.below hb
       obtain ⟨t0, t1, t2, tf0, tf1, tf2⟩ := LR.facts
       obtain ⟨i0, i1, i2, if0, if1, if2⟩ := (S1.out.2.2.1.below hb).facts
       obtain ⟨j0, j1, j2, jf0, jf1, jf2⟩ := (S1.out.2.2.2.below hb).facts
       have FV := Aside.intro (show Fin w.heap.size (w.heap.size + 3) w u2 (.slice a4 (ws V).length c4) V from ⟨hN.mono (by omega), S1.out.1.trans (hb.mono (by omega)), by have := hb.size; omega⟩)
       have S10 := Aside.intro LR
       clear hN hb LR))
  all_goals (
    go_wp2
    refine bodyPost_ret (sub_res _ (w.heap.size + 1 + 1) dn (.slice a4 (ws V).length c4) de er _ rfl rfl (S10.out.set _ _ _)) rfl ?_
    refine Fin.dans (m := w.heap.size + 3) ?_ (by omega)
    repeat (with_reducible first | exact FV.out | refine Fin.drew ?_ | refine Fin.alloc ?_ _ | refine Fin.set ?_ _ _ _ (by omega) (by omega)))

set_option maxHeartbeats 4000000 in
theorem rsub_core {w : World} {a b : Option Addr} {l c k d : Nat} (n m : Bool) (e f : Int) (dn : Bool) (V : Nat) (de er : Int) (lV : (ws V).length ≤ 8192)
    (HT : Hid (∀ u, Calls Tryz.prog 94 #[.agg #[.bool m, .slice b k d, .int .i64 f]] u fun r w' => r = .returned (.agg #[.bool (!m), .slice b k d, .int .i64 f]) ∧ Below u.heap.size u w'))
    (HA : Hid (∀ u, Below w.heap.size w u → Calls Tryz.prog 31 #[.agg #[.bool n, .slice a l c, .int .i64 e], .agg #[.bool (!m), .slice b k d, .int .i64 f]] u fun r w' => (∃ v, r = .returned (.tuple #[.agg #[.bool dn, v, .int .i64 de], .int .i64 er]) ∧ Nt u.heap.size w' v V) ∧ Below u.heap.size u w')) :
    Calls Tryz.prog 32 #[.agg #[.bool n, .slice a l c, .int .i64 e], .agg #[.bool m, .slice b k d, .int .i64 f]] w fun r w' => (∃ v, r = .returned (.tuple #[.agg #[.bool dn, v, .int .i64 de], .int .i64 er]) ∧ Nt w.heap.size w' v V) ∧ Below w.heap.size w w' := by
  obtain ⟨W1, hW1⟩ : ∃ W, W = ((w.alloc (.cells #[.bool n, .slice a l c, .int .i64 e] 33)).alloc (.cells #[.bool m, .slice b k d, .int .i64 f] 33)).alloc (.cells #[.bool false, .slice none 0 0, .int .i64 0] 33) := ⟨_, rfl⟩
  obtain ⟨hB, hz1, DA, DB, DR⟩ := add_begin w n m (.slice a l c) (.slice b k d) e f W1 hW1
  have T1 := hid (HT.out W1)
  have T2 := hid (HT.out W1.drew)
  obtain ⟨x0, x1, x2, xf0, xf1, xf2⟩ := DA.facts
  obtain ⟨y0, y1, y2, yf0, yf1, yf2⟩ := DB.facts
  obtain ⟨r0, r1, r2, rf0, rf1, rf2⟩ := DR.facts
  have hs1 : w.heap.size + 3 ≤ W1.heap.size := by omega
  have SB := (Aside.intro (And.intro hB (And.intro DA (And.intro DB DR))))
  clear hB hz1 DA DB DR
  go_enter Tryz.func32, Tryz.ntmps32
  go_wp2_with fail
  rw [← hW1]
  clear hW1
  have ne1 : w.heap.size ≠ w.heap.size + 1 + 1 := by omega
  have ne2 : w.heap.size + 1 ≠ w.heap.size + 1 + 1 := by omega
  have ne3 : w.heap.size + 1 + 1 ≠ w.heap.size := by omega
  have ne4 : w.heap.size + 1 + 1 ≠ w.heap.size + 1 := by omega
  go_region_held3 (fun w' => w'.cell? ⟨w.heap.size, 0, none⟩ = some (.bool n) ∧ w'.cell? ⟨w.heap.size, 1, none⟩ = some (.slice a l c) ∧ w'.cell? ⟨w.heap.size, 2, none⟩ = some (.int .i64 e) ∧ w'.cell? ⟨w.heap.size + 1, 0, none⟩ = some (.bool m) ∧ w'.cell? ⟨w.heap.size + 1, 1, none⟩ = some (.slice b k d) ∧ w'.cell? ⟨w.heap.size + 1, 2, none⟩ = some (.int .i64 f)) (go_keep) (first
    | (go_at_call 94
       first | with_reducible refine T1.out.mono ?_ | with_reducible refine T2.out.mono ?_
       rintro r u1 ⟨rfl, hb⟩
       have hb1 : Below W1.heap.size W1 u1 := by first | exact hb | exact ((Below.refl _ W1).drew).trans (hb.mono (Nat.le_refl _))
       have hs2 : W1.heap.size ≤ u1.heap.size := hb1.size
       have BW : Below w.heap.size w u1 := SB.out.1.trans (hb1.mono (by omega))
       have HA1 := hid (HA.out u1 BW)
       have KR := SB.out.2.2.2.below hb1
       obtain ⟨p0, p1, p2, pf0, pf1, pf2⟩ := KR.facts
       obtain ⟨q0, q1, q2, qf0, qf1, qf2⟩ := (SB.out.2.1.below hb1).facts
       obtain ⟨s0, s1, s2, sf0, sf1, sf2⟩ := (SB.out.2.2.1.below hb1).facts
       have S1 := (Aside.intro (And.intro BW (And.intro KR (And.intro (SB.out.2.1.below hb1) (SB.out.2.2.1.below hb1)))))
       clear hb hb1 KR BW)
    | (go_at_call 31
       with_reducible refine HA1.out.mono ?_
       rintro r u2 ⟨⟨v, rfl, hN⟩, hb⟩
       obtain ⟨a4, c4, rfl, _⟩ := hN.arg (by omega)
       have LR := S1.out.2.1.below hb
       obtain ⟨t0, t1, t2, tf0, tf1, tf2⟩ := LR.facts
       obtain ⟨i0, i1, i2, if0, if1, if2⟩ := (S1.out.2.2.1.below hb).facts
       obtain ⟨j0, j1, j2, jf0, jf1, jf2⟩ := (S1.out.2.2.2.below hb).facts
       have FV := Aside.intro (show Fin w.heap.size (w.heap.size + 3) w u2 (.slice a4 (ws V).length c4) V from ⟨hN.mono (by omega), S1.out.1.trans (hb.mono (by omega)), by have := hb.size; omega⟩)
       have S10 := Aside.intro LR
       clear hN hb LR))
  all_goals (
    go_wp2
    refine bodyPost_ret (rsub_res _ (w.heap.size + 1 + 1) dn (.slice a4 (ws V).length c4) de er _ rfl rfl (S10.out.set _ _ _)) rfl ?_
    refine Fin.dans (m := w.heap.size + 3) ?_ (by omega)
    repeat (with_reducible first | exact FV.out | refine Fin.drew ?_ | refine Fin.alloc ?_ _ | refine Fin.set ?_ _ _ _ (by omega) (by omega)))


theorem addUp_len (n : Bool) (X : Nat) (e : Int) (m : Bool) (Y : Nat) (f : Int) : (ws (dX (addUp n X e m Y f))).length ≤ 8192 := by
  unfold addUp
  split
  · show (ws 0).length ≤ 8192; rw [ws_zero]; exact Nat.zero_le _
  · split
    · exact mkS_len _ _ _
    · split <;> exact mkS_len _ _ _
theorem addD_len (n : Bool) (X : Nat) (e : Int) (m : Bool) (Y : Nat) (f : Int) : (ws (dX (addD (mkS n X e) (mkS m Y f)))).length ≤ 8192 := by
  have z0 : (ws 0).length ≤ 8192 := by rw [ws_zero]; exact Nat.zero_le _
  cases hx : mkS n X e with
  | none => exact z0
  | some x =>
    cases hy : mkS m Y f with
    | none => exact z0
    | some y =>
      obtain ⟨n1, X1, e1⟩ := x
      obtain ⟨m1, Y1, f1⟩ := y
      show (ws (dX (addF _ _))).length ≤ 8192
      unfold addF
      split
      · exact frm_len (mkS_frm hy)
      · split
        · exact frm_len (mkS_frm hx)
        · split <;> exact addUp_len _ _ _ _ _ _
theorem mkS_z2 (n m : Bool) (e f : Int) : mkS n 0 e = mkS m 0 f := by unfold mkS; rw [if_pos rfl, if_pos rfl]
theorem notb {n m : Bool} (h : ¬ n = m) : m = (!n) ∧ n = (!m) ∧ ¬ m = n := by
  cases n <;> cases m <;> first | exact absurd rfl h | exact ⟨rfl, rfl, fun h => by cases h⟩
theorem rAdd_any3 {w : World} {a b : Option Addr} {l c k d : Nat} {xs ys : List Nat} (h1 : Arg w a l c xs) (h2 : Arg w b k d ys) (hl : l ≤ 2000000) (hk : k ≤ 2000000) (n m : Bool) (e f : Int) (he0 : -9223372036854775808 ≤ e) (he1 : e ≤ 9223372036854775807) (hf0 : -9223372036854775808 ≤ f) (hf1 : f ≤ 9223372036854775807) :
    Calls Tryz.prog 31 #[.agg #[.bool n, .slice a l c, .int .i64 e], .agg #[.bool m, .slice b k d, .int .i64 f]] w fun r w' => DAns w.heap.size w' r (addD (mkS n (val xs) e) (mkS m (val ys) f)) ∧ Below w.heap.size w w' := by
  have zero : ∀ {r : Ending} {w' : World}, (r = .returned (.tuple #[.agg #[.bool false, .slice none 0 0, .int .i64 0], .int .i64 2]) ∧ Below w.heap.size w w') → DAns w.heap.size w' r none ∧ Below w.heap.size w w' := fun ⟨h1, h2⟩ => ⟨⟨_, h1, Nt.nil _ _⟩, h2⟩
  have M1 := hid fun u (hu : Below w.heap.size w u) => rMade_any (h1.below hu) hl n e he0 he1
  have M2 := hid fun u (hu : Below w.heap.size w u) => rMade_any (h2.below hu) hk m f hf0 hf1
  have z0 : (ws 0).length ≤ 8192 := by rw [ws_zero]; exact Nat.zero_le _
  cases hx : mkS n (val xs) e with
  | none =>
    cases hy : mkS m (val ys) f with
    | none =>
      rw [hx] at M1; rw [hy] at M2
      exact (radd_ff n m e f false false 0 0 0 0 z0 z0 M1 M2).mono fun r w' h => zero h
    | some y =>
      obtain ⟨m1, Y, f1⟩ := y
      rw [hx] at M1; rw [hy] at M2
      exact (radd_ft n m e f false m1 0 Y 0 f1 z0 (frm_len (mkS_frm hy)) M1 M2).mono fun r w' h => zero h
  | some x =>
    obtain ⟨n1, X, e1⟩ := x
    cases hy : mkS m (val ys) f with
    | none =>
      rw [hx] at M1; rw [hy] at M2
      exact (radd_tf n m e f n1 false X 0 e1 0 (frm_len (mkS_frm hx)) z0 M1 M2).mono fun r w' h => zero h
    | some y =>
      obtain ⟨m1, Y, f1⟩ := y
      rw [hx] at M1; rw [hy] at M2
      have FX := mkS_frm hx
      have FY := mkS_frm hy
      have lX := frm_len FX
      have lY := frm_len FY
      have := FX.up; have := FX.down; have := FY.up; have := FY.down
      show Calls _ _ _ _ fun r w' => DAns w.heap.size w' r (addF (n1, X, e1) (m1, Y, f1)) ∧ _
      unfold addF
      simp only
      by_cases hX0 : X = 0
      · rw [if_pos hX0]
        exact radd_left n m e f n1 m1 X Y e1 f1 lX lY ((ws_len_zero X).2 hX0) M1 M2
      · rw [if_neg hX0]
        by_cases hY0 : Y = 0
        · rw [if_pos hY0]
          exact radd_right n m e f n1 m1 X Y e1 f1 lX lY (len_ne hX0) ((ws_len_zero Y).2 hY0) M1 M2
        · rw [if_neg hY0]
          obtain ⟨g, hg⟩ : ∃ g, min e1 f1 = g := ⟨_, rfl⟩
          have hg2 : g = f1 ∧ f1 < e1 ∨ g = e1 ∧ e1 ≤ f1 := by omega
          have up : ∀ (d : Int) (Z : Nat), 0 ≤ d → (if d < 0 then Z / 2 ^ (-d).toNat else Z * 2 ^ d.toNat) = Z * 2 ^ d.toNat := fun d Z h => if_neg (by omega)
          obtain ⟨P, hP⟩ : ∃ P, X * 2 ^ (e1 - g).toNat = P := ⟨_, rfl⟩
          obtain ⟨Q, hQ⟩ : ∃ Q, Y * 2 ^ (f1 - g).toNat = Q := ⟨_, rfl⟩
          have HP : Hid (∀ (u : World) (v : Value), Below w.heap.size w u → Nt (w.heap.size + 3) u v X → Calls Tryz.prog 89 #[v, .int .i64 (e1 - g)] u fun r w' => ∃ v, r = .returned v ∧ Nt u.heap.size w' v P ∧ Below u.heap.size u w') := fun u v hu hN => by
            have := moved_any hN (e1 - g) (by omega) (by omega) hX0 (by omega)
            rw [up _ _ (by omega), hP] at this
            exact this
          have HQ : Hid (∀ (u : World) (v : Value), Below w.heap.size w u → Nt (w.heap.size + 3) u v Y → Calls Tryz.prog 89 #[v, .int .i64 (f1 - g)] u fun r w' => ∃ v, r = .returned v ∧ Nt u.heap.size w' v Q ∧ Below u.heap.size u w') := fun u v hu hN => by
            have := moved_any hN (f1 - g) (by omega) (by omega) hY0 (by omega)
            rw [up _ _ (by omega), hQ] at this
            exact this
          have bP : bl P = bl X + (e1 - g).toNat := by rw [← hP]; exact bl_up _ _ hX0
          have bQ : bl Q = bl Y + (f1 - g).toNat := by rw [← hQ]; exact bl_up _ _ hY0
          have s1 := FX.size
          have s2 := FY.size
          have wP := ws_len_bl P
          have wQ := ws_len_bl Q
          have kind : (if e1 < f1 then addUp m1 Y f1 n1 X e1 else addUp n1 X e1 m1 Y f1) = (if 8192 < (ws P).length ∨ 8192 < (ws Q).length then none else if n1 = m1 then mkS n1 (P + Q) g else if Q ≤ P then mkS n1 (P - Q) g else mkS m1 (Q - P) g) := by
            rcases hg2 with ⟨rfl, h⟩ | ⟨rfl, h⟩
            · rw [if_neg (by omega)]
              rw [Int.sub_self, show (0 : Int).toNat = 0 from rfl, Nat.pow_zero, Nat.mul_one] at hQ
              subst hQ
              unfold addUp
              rw [hP]
              by_cases hL : 262144 < bl X + (e1 - g).toNat
              · rw [if_pos hL, if_pos (.inl (by omega))]
              · rw [if_neg hL, if_neg (show ¬ (8192 < (ws P).length ∨ 8192 < (ws Y).length) by omega)]
                by_cases hs : n1 = m1
                · rw [if_pos hs, if_pos hs]
                · rw [if_neg hs, if_neg hs, ← (notb hs).1]
            · rw [Int.sub_self, show (0 : Int).toNat = 0 from rfl, Nat.pow_zero, Nat.mul_one] at hP
              subst hP
              by_cases he : g < f1
              · rw [if_pos he]
                unfold addUp
                rw [hQ]
                by_cases hL : 262144 < bl Y + (f1 - g).toNat
                · rw [if_pos hL, if_pos (.inr (by omega))]
                · rw [if_neg hL, if_neg (show ¬ (8192 < (ws X).length ∨ 8192 < (ws Q).length) by omega)]
                  by_cases hs : m1 = n1
                  · rw [if_pos hs, if_pos hs.symm, hs, Nat.add_comm]
                  · rw [if_neg hs, if_neg (notb hs).2.2, ← (notb hs).1]
                    rcases Nat.lt_trichotomy X Q with q | q | q
                    · rw [if_pos (show X ≤ Q by omega), if_neg (show ¬ Q ≤ X by omega)]
                    · rw [q]
                      simp only [Nat.le_refl, if_true, Nat.sub_self]
                      exact mkS_z2 _ _ _ _
                    · rw [if_neg (show ¬ X ≤ Q by omega), if_pos (show Q ≤ X by omega)]
              · obtain rfl : g = f1 := by omega
                rw [if_neg he]
                rw [Int.sub_self, show (0 : Int).toNat = 0 from rfl, Nat.pow_zero, Nat.mul_one] at hQ
                subst hQ
                unfold addUp
                rw [Int.sub_self, show (0 : Int).toNat = 0 from rfl, Nat.pow_zero, Nat.mul_one, if_neg (show ¬ 262144 < bl X + 0 by omega), if_neg (show ¬ (8192 < (ws X).length ∨ 8192 < (ws Y).length) by omega)]
                by_cases hs : n1 = m1
                · rw [if_pos hs, if_pos hs]
                · rw [if_neg hs, if_neg hs, ← (notb hs).1]
          rw [kind]
          clear kind
          have cmpz : ∀ u p q s t, Arg u p (ws P).length s (ws P) → Arg u q (ws Q).length t (ws Q) → Calls Tryz.prog 92 #[.slice p (ws P).length s, .slice q (ws Q).length t] u fun r w' => r = .returned (.int .i64 (cmpI P Q)) ∧ Below u.heap.size u w' := fun u p q s t hA hB => rCmp_arg hA hB (cmpI P Q) (by rw [val_ws, val_ws])
          by_cases c1 : 8192 < (ws P).length
          · rw [if_pos (.inl c1)]
            exact (radd_lp n m e f n1 m1 X Y e1 f1 lX lY (len_ne hX0) (len_ne hY0) (by omega) (by omega) (by omega) (by omega) g hg (by omega) (by omega) P Q (by omega) (by omega) c1 M1 M2 HP HQ).mono fun r w' h => zero h
          · by_cases c2 : 8192 < (ws Q).length
            · rw [if_pos (.inr c2)]
              exact (radd_lq n m e f n1 m1 X Y e1 f1 lX lY (len_ne hX0) (len_ne hY0) (by omega) (by omega) (by omega) (by omega) g hg (by omega) (by omega) P Q (by omega) (by omega) (by omega) c2 M1 M2 HP HQ).mono fun r w' h => zero h
            · rw [if_neg (by omega)]
              by_cases hs : n1 = m1
              · rw [if_pos hs]
                have lL : (ws (P + Q)).length ≤ 8193 := by
                  have h1 : P < pw 8192 := (ws_len_le _ _).1 (by omega)
                  have h2 : Q < pw 8192 := (ws_len_le _ _).1 (by omega)
                  exact (ws_len_le _ _).2 (pw_add_lt h1 h2)
                exact radd_sum n m e f n1 m1 X Y e1 f1 lX lY (len_ne hX0) (len_ne hY0) (by omega) (by omega) (by omega) (by omega) g hg (by omega) (by omega) P Q (by omega) (by omega) (by omega) (by omega) (by simp [hs]) (P + Q) (by omega) _ _ _ _ (mkS_len n1 (P + Q) g) M1 M2 HP HQ
                  (hid fun u p q s t hu hA hB => rPlus_arg hA hB (by omega) (by omega) (by rw [val_ws, val_ws]))
                  (hid fun u p s hu hA => by have := rtold_any hA (by omega) n1 g (by omega) (by omega); rw [val_ws] at this; exact this)
              · rw [if_neg hs]
                by_cases hq : Q ≤ P
                · rw [if_pos hq]
                  have lL : (ws (P - Q)).length ≤ 8192 := (ws_len_le _ _).2 (Nat.lt_of_le_of_lt (Nat.sub_le _ _) ((ws_len_le P 8192).1 (by omega)))
                  have hz : 0 ≤ cmpI P Q := by unfold cmpI; rw [if_neg (by omega)]; split <;> omega
                  exact radd_ge n m e f n1 m1 X Y e1 f1 lX lY (len_ne hX0) (len_ne hY0) (by omega) (by omega) (by omega) (by omega) g hg (by omega) (by omega) P Q (by omega) (by omega) (by omega) (by omega) (by simp [hs]) (cmpI P Q) hz (P - Q) (by omega) _ _ _ _ (mkS_len n1 (P - Q) g) M1 M2 HP HQ
                    (hid fun u p q s t hu hA hB => cmpz u p q s t hA hB)
                    (hid fun u p q s t hu hA hB => rMinus_arg hA hB (by omega) (by omega) (by rw [val_ws, val_ws]; omega))
                    (hid fun u p s hu hA => by have := rtold_any hA (by omega) n1 g (by omega) (by omega); rw [val_ws] at this; exact this)
                · rw [if_neg hq]
                  have lL : (ws (Q - P)).length ≤ 8192 := (ws_len_le _ _).2 (Nat.lt_of_le_of_lt (Nat.sub_le _ _) ((ws_len_le Q 8192).1 (by omega)))
                  have hz : cmpI P Q < 0 := by unfold cmpI; rw [if_pos (by omega)]; omega
                  exact radd_lt n m e f n1 m1 X Y e1 f1 lX lY (len_ne hX0) (len_ne hY0) (by omega) (by omega) (by omega) (by omega) g hg (by omega) (by omega) P Q (by omega) (by omega) (by omega) (by omega) (by simp [hs]) (cmpI P Q) hz (Q - P) (by omega) _ _ _ _ (mkS_len m1 (Q - P) g) M1 M2 HP HQ
                    (hid fun u p q s t hu hA hB => cmpz u p q s t hA hB)
                    (hid fun u p q s t hu hA hB => rMinus_arg hA hB (by omega) (by omega) (by rw [val_ws, val_ws]; omega))
                    (hid fun u p s hu hA => by have := rtold_any hA (by omega) m1 g (by omega) (by omega); rw [val_ws] at this; exact this)

theorem Sub_any3 {w : World} {a b : Option Addr} {l c k d : Nat} {xs ys : List Nat} (h1 : Arg w a l c xs) (h2 : Arg w b k d ys) (hT : Tab w) (n m : Bool) (e f : Int) (he0 : -9223372036854775808 ≤ e) (he1 : e ≤ 9223372036854775807) (hf0 : -9223372036854775808 ≤ f) (hf1 : f ≤ 9223372036854775807) :
    Calls Tryz.prog 134 #[.agg #[.bool n, .slice a l c, .int .i64 e], .agg #[.bool m, .slice b k d, .int .i64 f]] w fun r w' => DAns w.heap.size w' r (addD (mkS n (val xs) e) (mkS (!m) (val ys) f)) ∧ Below w.heap.size w w' :=
  sub_core n m e f _ _ _ _ (addD_len n (val xs) e (!m) (val ys) f) (hid fun u => turned_any b k d m f u) (hid fun u hu => Add_any3 (h1.below hu) (h2.below hu) (hT.belows hu) n (!m) e f he0 he1 hf0 hf1)
theorem rSub_any3 {w : World} {a b : Option Addr} {l c k d : Nat} {xs ys : List Nat} (h1 : Arg w a l c xs) (h2 : Arg w b k d ys) (hl : l ≤ 2000000) (hk : k ≤ 2000000) (n m : Bool) (e f : Int) (he0 : -9223372036854775808 ≤ e) (he1 : e ≤ 9223372036854775807) (hf0 : -9223372036854775808 ≤ f) (hf1 : f ≤ 9223372036854775807) :
    Calls Tryz.prog 32 #[.agg #[.bool n, .slice a l c, .int .i64 e], .agg #[.bool m, .slice b k d, .int .i64 f]] w fun r w' => DAns w.heap.size w' r (addD (mkS n (val xs) e) (mkS (!m) (val ys) f)) ∧ Below w.heap.size w w' :=
  rsub_core n m e f _ _ _ _ (addD_len n (val xs) e (!m) (val ys) f) (hid fun u => rturned_any b k d m f u) (hid fun u hu => rAdd_any3 (h1.below hu) (h2.below hu) hl hk n (!m) e f he0 he1 hf0 hf1)
end Go.Proofs.YtjpaocgimdinmaaGreatDoor

/- Numbers from the top on: plain mathematics for comparing. -/
namespace Go.Proofs.YtjpaocgimdinmaaGreatDoor
open Go.RowKit
set_option linter.unusedVariables false
set_option maxRecDepth 20000

/-- What stands above the bit i. -/
def top (X : Nat) (i : Int) : Nat := if i < 0 then X * 2 ^ (-i).toNat else X / 2 ^ i.toNat
/-- How X times 2^e stands to Y times 2^f. -/
def cmpP (X : Nat) (e : Int) (Y : Nat) (f : Int) : Int := if e < f then cmpI X (Y * 2 ^ (f - e).toNat) else cmpI (X * 2 ^ (e - f).toNat) Y
theorem cmpI_neg (x y : Nat) : -cmpI x y = cmpI y x := by
  unfold cmpI
  rcases Nat.lt_trichotomy x y with h | h | h
  · rw [if_pos h, if_neg (by omega), if_pos h]; rfl
  · subst h; rw [if_neg (by omega), if_neg (by omega)]; rfl
  · rw [if_neg (by omega), if_pos h, if_pos h]
theorem cmpP_neg (X : Nat) (e : Int) (Y : Nat) (f : Int) : -cmpP X e Y f = cmpP Y f X e := by
  unfold cmpP
  by_cases h : e < f
  · rw [if_pos h, if_neg (by omega), cmpI_neg]
  · rw [if_neg h]
    by_cases h2 : f < e
    · rw [if_pos h2, cmpI_neg]
    · rw [if_neg h2, cmpI_neg, show (e - f).toNat = 0 by omega, show (f - e).toNat = 0 by omega, Nat.pow_zero, Nat.mul_one, Nat.mul_one]
/-- Where the lengths tell. -/
theorem cmpI_bl {x y : Nat} (h : bl x ≠ bl y) : cmpI x y = cmpI (bl x) (bl y) := by
  unfold cmpI
  rcases Nat.lt_or_ge (bl x) (bl y) with k | k
  · have : x < y := by
      rcases Nat.lt_or_ge x y with q | q
      · exact q
      · have := bl_mono q; omega
    rw [if_pos k, if_pos this]
  · have : y < x := by
      rcases Nat.lt_or_ge y x with q | q
      · exact q
      · have := bl_mono q; omega
    rw [if_neg (by omega : ¬ x < y), if_pos this, if_neg (by omega : ¬ bl x < bl y), if_pos (by omega : bl y < bl x)]
theorem cmpI_range (x y : Nat) : cmpI x y = -1 ∨ cmpI x y = 0 ∨ cmpI x y = 1 := by
  unfold cmpI; split
  · exact .inl rfl
  · split
    · exact .inr (.inr rfl)
    · exact .inr (.inl rfl)
theorem cmpP_range (X : Nat) (e : Int) (Y : Nat) (f : Int) : cmpP X e Y f = -1 ∨ cmpP X e Y f = 0 ∨ cmpP X e Y f = 1 := by
  unfold cmpP; split <;> exact cmpI_range _ _

/-- The sign of a value, and how two values stand. -/
def sgn (n : Bool) (X : Nat) : Int := if X = 0 then 0 else if n then -1 else 1
def cmpV (n : Bool) (X : Nat) (e : Int) (m : Bool) (Y : Nat) (f : Int) : Int :=
  if sgn n X < sgn m Y then -1 else if sgn m Y < sgn n X then 1 else if X = 0 then 0 else if n then cmpP Y f X e else cmpP X e Y f
end Go.Proofs.YtjpaocgimdinmaaGreatDoor

/- dyad's Sign, cmpFromTop, cmpSizes, Cmp. -/
namespace Go.Proofs.YtjpaocgimdinmaaGreatDoor
open Go.RowKit
set_option linter.unusedVariables false
set_option maxRecDepth 20000
set_option linter.unusedSimpArgs false

def cmpZ (x y : Int) : Int := if x < y then -1 else if y < x then 1 else 0
theorem cmpZ_nat (x y : Nat) : cmpZ (x : Int) (y : Int) = cmpI x y := by
  unfold cmpZ cmpI
  simp only [Int.ofNat_lt]
set_option maxHeartbeats 2000000 in
theorem Sign_any3 {w : World} {a : Option Addr} {n c : Nat} {xs : List Nat} (h1 : Arg w a n c xs) (ng : Bool) (e : Int) :
    Calls Tryz.prog 130 #[.agg #[.bool ng, .slice a n c, .int .i64 e]] w fun r w' => r = .returned (.int .i64 (sgn ng (val xs))) ∧ Below w.heap.size w w' := by
  have hB : Below w.heap.size w (w.alloc (.cells #[.bool ng, .slice a n c, .int .i64 e] 33)) := below_alloc w _
  have A1 := h1.below hB
  have hbig := h1.big
  have H1 := hid (len_any xs a n c _ _ A1.len A1.cap (by omega) A1.wf A1.rd)
  obtain ⟨X, hX⟩ : ∃ X, val xs = X := ⟨_, rfl⟩
  rw [hX] at H1 ⊢
  have SB := Aside.intro hB
  clear hB A1 h1 hX hbig
  unfold sgn
  by_cases h0 : X = 0
  · rw [if_pos h0]
    have hb : bl X = 0 := by rw [h0, bl_zero]
    rw [hb] at H1
    clear h0 hb
    go_enter Tryz.func130, Tryz.ntmps130
    go_wp2_with fail
    refine (Calls.mono H1.out) ?_
    rintro r w1 ⟨rfl, rfl⟩
    go_wp2
    go_ret
    exact ⟨rfl, SB.out⟩
  · rw [if_neg h0]
    obtain ⟨b, hb⟩ : ∃ b, bl X = b := ⟨_, rfl⟩
    have hb0 : ((b : Int) == 0) = false := by have := bl_pos X h0; simp; omega
    rw [hb] at H1
    clear h0 hb
    cases ng
    · simp only [Bool.false_eq_true, if_false]
      go_enter Tryz.func130, Tryz.ntmps130
      go_wp2_with fail
      refine (Calls.mono H1.out) ?_
      rintro r w1 ⟨rfl, rfl⟩
      go_wp2
      go_ret
      exact ⟨rfl, SB.out⟩
    · simp only [if_true]
      go_enter Tryz.func130, Tryz.ntmps130
      go_wp2_with fail
      refine (Calls.mono H1.out) ?_
      rintro r w1 ⟨rfl, rfl⟩
      go_wp2
      go_ret
      exact ⟨rfl, SB.out⟩


end Go.Proofs.YtjpaocgimdinmaaGreatDoor

/- dyad's Cmp. -/
namespace Go.Proofs.YtjpaocgimdinmaaGreatDoor
open Go.RowKit
set_option linter.unusedVariables false
set_option maxRecDepth 20000
set_option linter.unusedSimpArgs false

theorem u64_apart (e f : Int) (he0 : -9223372036854775808 ≤ e) (he1 : e ≤ 9223372036854775807) (hf0 : -9223372036854775808 ≤ f) (hf1 : f ≤ 9223372036854775807) (h : f ≤ e) : IntKind.u64.wrap (IntKind.u64.wrap e - IntKind.u64.wrap f) = (((e - f).toNat : Nat) : Int) := by
  rw [IntKind.wrap_u64, IntKind.wrap_u64, IntKind.wrap_u64]
  omega
theorem bl_arg {w : World} {a : Option Addr} {n c : Nat} {xs : List Nat} (h1 : Arg w a n c xs) : bl (val xs) ≤ 1125899906842624 := by
  have := val_lt xs h1.wf
  rw [← h1.len] at this
  have := bl_pw _ _ this
  have := h1.big
  omega
theorem sgn_range (n : Bool) (X : Nat) : sgn n X = -1 ∨ sgn n X = 0 ∨ sgn n X = 1 := by
  unfold sgn; split
  · exact .inr (.inl rfl)
  · split
    · exact .inl rfl
    · exact .inr (.inr rfl)
theorem sgn_zero3 {n : Bool} {X : Nat} : sgn n X = 0 ↔ X = 0 := by
  unfold sgn
  by_cases h : X = 0
  · simp [h]
  · rw [if_neg h]; cases n <;> simp [h]
end Go.Proofs.YtjpaocgimdinmaaGreatDoor

/- Dyads as whole numbers over a common power: sums, products, what is alike, how they stand. -/
namespace Go.Proofs.YtjpaocgimdinmaaGreatDoor
open Go.RowKit
set_option linter.unusedVariables false
set_option maxRecDepth 20000

/-- A sign. -/
def sg1 (n : Bool) : Int := if n then -1 else 1
/-- The value of (n, X, e), in units of 2^B. -/
def zv (B : Int) (x : Bool × Nat × Int) : Int := sg1 x.1 * ((x.2.1 * 2 ^ (x.2.2 - B).toNat : Nat) : Int)

theorem pow_split (e l B : Int) (h : B ≤ e) (hl : 0 ≤ l) : (2 : Nat) ^ (e + l - B).toNat = 2 ^ l.toNat * 2 ^ (e - B).toNat := by
  rw [← Nat.pow_add]; congr 1; omega

theorem zv_mkS {n : Bool} {X : Nat} {e : Int} {x : Bool × Nat × Int} (h : mkS n X e = some x) (B : Int) (hB : X = 0 ∨ B ≤ e) : zv B x = sg1 n * ((X * 2 ^ (e - B).toNat : Nat) : Int) := by
  unfold mkS at h
  by_cases h0 : X = 0
  · rw [if_pos h0] at h
    cases h
    subst h0
    simp [zv]
  · rw [if_neg h0] at h
    split at h
    · cases h
    · cases h
      have hB' : B ≤ e := by rcases hB with h | h; exact absurd h h0; exact h
      obtain ⟨m, hm, hd, _⟩ := odd_part X h0
      show sg1 n * ((X / 2 ^ lo X * 2 ^ (e + (lo X : Int) - B).toNat : Nat) : Int) = _
      rw [pow_split e (lo X) B hB' (by omega), Int.toNat_natCast, ← Nat.mul_assoc]
      have hx : X / 2 ^ lo X * 2 ^ lo X = X := by rw [hd]; rw [Nat.mul_comm]; exact hm.symm
      rw [hx]

theorem sg1_ne {n m : Bool} (h : ¬ n = m) : sg1 m = -sg1 n := by cases n <;> cases m <;> first | exact absurd rfl h | rfl
theorem sg1_not (n : Bool) : sg1 (!n) = -sg1 n := by cases n <;> rfl
theorem sg1_bne (n m : Bool) : sg1 (n != m) = sg1 n * sg1 m := by cases n <;> cases m <;> rfl

theorem zv_addUp {n m : Bool} {X Y : Nat} {e f : Int} {z : Bool × Nat × Int} (h : addUp n X e m Y f = some z) (hfe : f ≤ e) (B : Int) (hB : B ≤ f) : zv B z = zv B (n, X, e) + zv B (m, Y, f) := by
  unfold addUp at h
  split at h
  · cases h
  · have key : X * 2 ^ (e - f).toNat * 2 ^ (f - B).toNat = X * 2 ^ (e - B).toNat := by
      rw [Nat.mul_assoc, ← Nat.pow_add, show (e - f).toNat + (f - B).toNat = (e - B).toNat by omega]
    show zv B z = sg1 n * ((X * 2 ^ (e - B).toNat : Nat) : Int) + sg1 m * ((Y * 2 ^ (f - B).toNat : Nat) : Int)
    generalize 2 ^ (e - f).toNat = P at h key
    split at h
    · rename_i hnm
      rw [zv_mkS h B (.inr hB), hnm, ← Int.mul_add, Nat.add_mul, key, Int.natCast_add]
    · rename_i hnm
      split at h
      · rename_i hle
        rw [zv_mkS h B (.inr hB), sg1_ne hnm, Nat.sub_mul, key, Int.ofNat_sub (by rw [← key]; exact Nat.mul_le_mul_right _ hle), Int.mul_sub, Int.neg_mul]
        omega
      · rename_i hle
        rw [zv_mkS h B (.inr hB), sg1_not, sg1_ne hnm, Nat.sub_mul, key, Int.ofNat_sub (by rw [← key]; exact Nat.mul_le_mul_right _ (by omega)), Int.mul_sub, Int.neg_mul, Int.neg_mul]
        omega

theorem zv_zero {x : Bool × Nat × Int} (B : Int) (h : x.2.1 = 0) : zv B x = 0 := by unfold zv; rw [h]; simp

theorem zv_addF {x y z : Bool × Nat × Int} (h : addF x y = some z) (B : Int) (hx : x.2.1 = 0 ∨ B ≤ x.2.2) (hy : y.2.1 = 0 ∨ B ≤ y.2.2) : zv B z = zv B x + zv B y := by
  obtain ⟨n, X, e⟩ := x
  obtain ⟨m, Y, f⟩ := y
  unfold addF at h
  simp only at h hx hy
  by_cases h0 : X = 0
  · rw [if_pos h0] at h
    cases h
    rw [zv_zero (x := (n, X, e)) B h0, Int.zero_add]
  · rw [if_neg h0] at h
    by_cases h1 : Y = 0
    · rw [if_pos h1] at h
      cases h
      rw [zv_zero (x := (m, Y, f)) B h1, Int.add_zero]
    · rw [if_neg h1] at h
      have hx' : B ≤ e := by rcases hx with k | k; exact absurd k h0; exact k
      have hy' : B ≤ f := by rcases hy with k | k; exact absurd k h1; exact k
      by_cases h2 : e < f
      · rw [if_pos h2] at h
        rw [zv_addUp h (by omega) B hx', Int.add_comm]
      · rw [if_neg h2] at h
        exact zv_addUp h (by omega) B hy'

theorem zv_mulF {x y z : Bool × Nat × Int} (h : mulF x y = some z) (B C : Int) (hx : x.2.1 = 0 ∨ B ≤ x.2.2) (hy : y.2.1 = 0 ∨ C ≤ y.2.2) : zv (B + C) z = zv B x * zv C y := by
  obtain ⟨n, X, e⟩ := x
  obtain ⟨m, Y, f⟩ := y
  unfold mulF at h
  simp only at h hx hy
  by_cases h0 : X = 0
  · subst h0
    rw [Nat.zero_mul] at h
    rw [zv_mkS h _ (.inl rfl), zv_zero (x := (n, 0, e)) B rfl]
    simp
  · by_cases h1 : Y = 0
    · subst h1
      rw [Nat.mul_zero] at h
      rw [zv_mkS h _ (.inl rfl), zv_zero (x := (m, 0, f)) C rfl]
      simp
    · have hx' : B ≤ e := by rcases hx with k | k; exact absurd k h0; exact k
      have hy' : C ≤ f := by rcases hy with k | k; exact absurd k h1; exact k
      rw [zv_mkS h _ (.inr (by omega)), sg1_bne]
      unfold zv
      simp only
      rw [show (e + f - (B + C)).toNat = (e - B).toNat + (f - C).toNat by omega, Nat.pow_add]
      rw [show X * Y * (2 ^ (e - B).toNat * 2 ^ (f - C).toNat) = (X * 2 ^ (e - B).toNat) * (Y * 2 ^ (f - C).toNat) by rw [Nat.mul_mul_mul_comm]]
      rw [Int.natCast_mul, Int.mul_assoc, Int.mul_assoc]
      congr 1
      rw [← Int.mul_assoc, ← Int.mul_assoc]
      congr 1
      exact Int.mul_comm _ _

/-- What has one value has one form. -/
theorem odd_pow {X Y : Nat} (a b : Nat) (hX : X % 2 = 1) (hY : Y % 2 = 1) (h : X * 2 ^ a = Y * 2 ^ b) : X = Y ∧ a = b := by
  have key : ∀ (a b X Y : Nat), X % 2 = 1 → Y % 2 = 1 → X * 2 ^ a = Y * 2 ^ b → a ≤ b := by
    intro a b X Y hX hY h
    rcases Nat.lt_or_ge b a with k | k
    · exfalso
      obtain ⟨d, rfl⟩ : ∃ d, a = b + (d + 1) := ⟨a - b - 1, by omega⟩
      rw [Nat.pow_add, Nat.mul_comm (2 ^ b), ← Nat.mul_assoc] at h
      have := Nat.eq_of_mul_eq_mul_right (Nat.two_pow_pos b) h
      rw [Nat.pow_succ, ← Nat.mul_assoc] at this
      omega
    · exact k
  have h1 := key a b X Y hX hY h
  have h2 := key b a Y X hY hX h.symm
  have e : a = b := by omega
  subst e
  exact ⟨Nat.eq_of_mul_eq_mul_right (Nat.two_pow_pos a) h, rfl⟩

theorem zv_inj {n m : Bool} {X Y : Nat} {e f : Int} (FX : Frm n X e) (FY : Frm m Y f) (B : Int) (hB : B ≤ -1048576) (h : zv B (n, X, e) = zv B (m, Y, f)) : n = m ∧ X = Y ∧ e = f := by
  have hx := FX.down
  have hy := FY.down
  unfold zv at h
  simp only at h
  have hpX : 0 < 2 ^ (e - B).toNat := Nat.two_pow_pos _
  have hpY : 0 < 2 ^ (f - B).toNat := Nat.two_pow_pos _
  rcases FX.odd with oX | ⟨rfl, rfl, rfl⟩
  · rcases FY.odd with oY | ⟨rfl, rfl, rfl⟩
    · have pX : 0 < X * 2 ^ (e - B).toNat := Nat.mul_pos (by omega) hpX
      have pY : 0 < Y * 2 ^ (f - B).toNat := Nat.mul_pos (by omega) hpY
      have hn : n = m := by
        generalize X * 2 ^ (e - B).toNat = P at h pX
        generalize Y * 2 ^ (f - B).toNat = Q at h pY
        cases n <;> cases m <;> first | rfl | (simp only [sg1, Bool.false_eq_true, if_true, if_false] at h; omega)
      subst hn
      have hPQ : X * 2 ^ (e - B).toNat = Y * 2 ^ (f - B).toNat := by
        generalize X * 2 ^ (e - B).toNat = P at h
        generalize Y * 2 ^ (f - B).toNat = Q at h
        cases n <;> (simp only [sg1, Bool.false_eq_true, if_true, if_false] at h; omega)
      obtain ⟨h1, h2⟩ := odd_pow _ _ oX oY hPQ
      exact ⟨rfl, h1, by omega⟩
    · exfalso
      have pX : 0 < X * 2 ^ (e - B).toNat := Nat.mul_pos (by omega) hpX
      generalize X * 2 ^ (e - B).toNat = P at h pX
      rw [Nat.zero_mul] at h
      cases n <;> (simp only [sg1, Bool.false_eq_true, if_true, if_false] at h; omega)
  · rcases FY.odd with oY | ⟨rfl, rfl, rfl⟩
    · exfalso
      have pY : 0 < Y * 2 ^ (f - B).toNat := Nat.mul_pos (by omega) hpY
      generalize Y * 2 ^ (f - B).toNat = Q at h pY
      rw [Nat.zero_mul] at h
      cases m <;> (simp only [sg1, Bool.false_eq_true, if_true, if_false] at h; omega)
    · exact ⟨rfl, rfl, rfl⟩
end Go.Proofs.YtjpaocgimdinmaaGreatDoor

/- Dyads are a ring; Cmp is the Sign of Sub. -/
namespace Go.Proofs.YtjpaocgimdinmaaGreatDoor
open Go.RowKit
set_option linter.unusedVariables false
set_option maxRecDepth 20000

theorem mkS_idem {n : Bool} {X : Nat} {e : Int} (F : Frm n X e) : mkS n X e = some (n, X, e) := by
  unfold mkS
  rcases F.odd with h | ⟨rfl, rfl, rfl⟩
  · have h1 := F.size; have h2 := F.up; have h3 := F.down
    rw [if_neg (by omega), lo_odd1 h, if_neg (by omega), Nat.pow_zero, Nat.div_one]
    simp
  · rw [if_pos rfl]
theorem addUp_frm {n m : Bool} {X Y : Nat} {e f : Int} {n' : Bool} {Z : Nat} {g : Int} (h : addUp n X e m Y f = some (n', Z, g)) : Frm n' Z g := by
  unfold addUp at h
  split at h
  · cases h
  · split at h
    · exact mkS_frm h
    · split at h
      · exact mkS_frm h
      · exact mkS_frm h
theorem addF_frm {n m : Bool} {X Y : Nat} {e f : Int} (FX : Frm n X e) (FY : Frm m Y f) {n' : Bool} {Z : Nat} {g : Int} (h : addF (n, X, e) (m, Y, f) = some (n', Z, g)) : Frm n' Z g := by
  unfold addF at h
  simp only at h
  split at h
  · cases h; exact FY
  · split at h
    · cases h; exact FX
    · split at h
      · exact addUp_frm h
      · exact addUp_frm h
theorem addD_some {o p : Option (Bool × Nat × Int)} (h : (addD o p).isSome = true) : ∃ x y z, o = some x ∧ p = some y ∧ addF x y = some z ∧ addD o p = some z := by
  cases o with
  | none => cases h
  | some x =>
    cases p with
    | none => cases h
    | some y =>
      obtain ⟨z, hz⟩ := Option.isSome_iff_exists.1 h
      exact ⟨x, y, z, rfl, rfl, hz, hz⟩
theorem mulD_some {o p : Option (Bool × Nat × Int)} (h : (mulD o p).isSome = true) : ∃ x y z, o = some x ∧ p = some y ∧ mulF x y = some z ∧ mulD o p = some z := by
  cases o with
  | none => cases h
  | some x =>
    cases p with
    | none => cases h
    | some y =>
      obtain ⟨z, hz⟩ := Option.isSome_iff_exists.1 h
      exact ⟨x, y, z, rfl, rfl, hz, hz⟩

/-- A form whose value is known. -/
structure Fv (B : Int) (o : Option (Bool × Nat × Int)) (z : Int) : Prop where
  ex : ∃ n X e, o = some (n, X, e) ∧ Frm n X e ∧ zv B (n, X, e) = z
theorem Frm.base {n : Bool} {X : Nat} {e : Int} (F : Frm n X e) {B : Int} (hB : B ≤ -1048576) : X = 0 ∨ B ≤ e := .inr (by have := F.down; omega)
theorem Fv.add {B : Int} (hB : B ≤ -1048576) {o p : Option (Bool × Nat × Int)} {x y : Int} (h1 : Fv B o x) (h2 : Fv B p y) (h : (addD o p).isSome = true) : Fv B (addD o p) (x + y) := by
  obtain ⟨n, X, e, rfl, F, rfl⟩ := h1.ex
  obtain ⟨m, Y, f, rfl, G, rfl⟩ := h2.ex
  obtain ⟨_, _, z, e1, e2, hz, hd⟩ := addD_some h
  cases e1; cases e2
  obtain ⟨n', Z, g⟩ := z
  exact ⟨n', Z, g, hd, addF_frm F G hz, zv_addF hz B (F.base hB) (G.base hB)⟩
theorem Fv.mul {B C : Int} (hB : B ≤ -1048576) (hC : C ≤ -1048576) {o p : Option (Bool × Nat × Int)} {x y : Int} (h1 : Fv B o x) (h2 : Fv C p y) (h : (mulD o p).isSome = true) : Fv (B + C) (mulD o p) (x * y) := by
  obtain ⟨n, X, e, rfl, F, rfl⟩ := h1.ex
  obtain ⟨m, Y, f, rfl, G, rfl⟩ := h2.ex
  obtain ⟨_, _, z, e1, e2, hz, hd⟩ := mulD_some h
  cases e1; cases e2
  obtain ⟨n', Z, g⟩ := z
  exact ⟨n', Z, g, hd, mkS_frm hz, zv_mulF hz B C (F.base hB) (G.base hC)⟩
theorem Fv.raw {n : Bool} {X : Nat} {e B : Int} (hB : B ≤ e) (h : (mkS n X e).isSome = true) : Fv B (mkS n X e) (sg1 n * ((X * 2 ^ (e - B).toNat : Nat) : Int)) := by
  obtain ⟨⟨n', Y, f⟩, hz⟩ := Option.isSome_iff_exists.1 h
  exact ⟨n', Y, f, hz, mkS_frm hz, zv_mkS hz B (.inr hB)⟩
theorem Fv.neg {n : Bool} {X : Nat} {e B : Int} (hB : B ≤ e) (h : (mkS n X e).isSome = true) : Fv B (mkS (!n) X e) (-(sg1 n * ((X * 2 ^ (e - B).toNat : Nat) : Int))) := by
  have h2 : (mkS (!n) X e).isSome = true := by
    unfold mkS at h ⊢
    split
    · rfl
    · rename_i h0
      rw [if_neg h0] at h
      split
      · rename_i h1; rw [if_pos h1] at h; cases h
      · rfl
  have := Fv.raw hB h2
  rw [sg1_not, Int.neg_mul] at this
  exact this

theorem cmpI_scale (x y k : Nat) (hk : 0 < k) : cmpI (x * k) (y * k) = cmpI x y := by
  unfold cmpI
  simp only [Nat.mul_lt_mul_right hk]
theorem cmpP_base (X : Nat) (e : Int) (Y : Nat) (f B : Int) (h1 : B ≤ e) (h2 : B ≤ f) : cmpP X e Y f = cmpI (X * 2 ^ (e - B).toNat) (Y * 2 ^ (f - B).toNat) := by
  unfold cmpP
  by_cases h : e < f
  · rw [if_pos h, ← cmpI_scale _ _ (2 ^ (e - B).toNat) (Nat.two_pow_pos _), Nat.mul_assoc, ← Nat.pow_add, show (f - e).toNat + (e - B).toNat = (f - B).toNat by omega]
  · rw [if_neg h, ← cmpI_scale _ _ (2 ^ (f - B).toNat) (Nat.two_pow_pos _), Nat.mul_assoc, ← Nat.pow_add, show (e - f).toNat + (f - B).toNat = (e - B).toNat by omega]
theorem pos_iff (X k : Nat) : X * 2 ^ k = 0 ↔ X = 0 := by
  constructor
  · intro h
    rcases Nat.mul_eq_zero.1 h with h | h
    · exact h
    · have := Nat.two_pow_pos k; omega
  · rintro rfl; exact Nat.zero_mul _
theorem cmpV_z (n : Bool) (X : Nat) (e : Int) (m : Bool) (Y : Nat) (f B : Int) (h1 : B ≤ e) (h2 : B ≤ f) : cmpV n X e m Y f = cmpZ (sg1 n * ((X * 2 ^ (e - B).toNat : Nat) : Int)) (sg1 m * ((Y * 2 ^ (f - B).toNat : Nat) : Int)) := by
  unfold cmpV
  rw [cmpP_base X e Y f B h1 h2, cmpP_base Y f X e B h2 h1]
  have p1 := pos_iff X (e - B).toNat
  have p2 := pos_iff Y (f - B).toNat
  generalize X * 2 ^ (e - B).toNat = P at p1
  generalize Y * 2 ^ (f - B).toNat = Q at p2
  unfold sgn cmpZ cmpI sg1
  have q1 : X = 0 ∧ P = 0 ∨ X ≠ 0 ∧ 0 < P := by
    by_cases h : X = 0
    · exact .inl ⟨h, p1.2 h⟩
    · exact .inr ⟨h, Nat.pos_of_ne_zero fun k => h (p1.1 k)⟩
  have q2 : Y = 0 ∧ Q = 0 ∨ Y ≠ 0 ∧ 0 < Q := by
    by_cases h : Y = 0
    · exact .inl ⟨h, p2.2 h⟩
    · exact .inr ⟨h, Nat.pos_of_ne_zero fun k => h (p2.1 k)⟩
  clear p1 p2
  rcases q1 with ⟨hX, hP⟩ | ⟨hX, hP⟩ <;> rcases q2 with ⟨hY, hQ⟩ | ⟨hY, hQ⟩ <;> cases n <;> cases m <;> simp only [hX, hY, if_true, if_false, Bool.false_eq_true] <;> (repeat' split) <;> omega
end Go.Proofs.YtjpaocgimdinmaaGreatDoor

/- Where a value lies among the numbers of 64 bits: plain mathematics of rounding. -/
namespace Go.Proofs.YtjpaocgimdinmaaGreatDoor
open Go.RowKit
set_option linter.unusedVariables false
set_option maxRecDepth 20000

/-- How the place of a value stands to it (units of 2^Bs). -/
theorem plc_floor (dg : Nat) (least top : Int) (X : Nat) (e : Int) (ho : X % 2 = 1) (Bs : Int) (h1 : Bs ≤ e) (h2 : Bs ≤ least) (hin : ¬ top < e + (bl X : Int)) :
    Bs ≤ (plc dg least top X e).2.1 ∧
    (((plc dg least top X e).2.2.1 = true ∧ X * 2 ^ (e - Bs).toNat = (plc dg least top X e).1 * 2 ^ ((plc dg least top X e).2.1 - Bs).toNat) ∨
     ((plc dg least top X e).2.2.1 = false ∧ (plc dg least top X e).1 * 2 ^ ((plc dg least top X e).2.1 - Bs).toNat < X * 2 ^ (e - Bs).toNat ∧ X * 2 ^ (e - Bs).toNat < ((plc dg least top X e).1 + 1) * 2 ^ ((plc dg least top X e).2.1 - Bs).toNat ∧
      ((plc dg least top X e).2.2.2 = -1 ∧ 2 * (X * 2 ^ (e - Bs).toNat) < (2 * (plc dg least top X e).1 + 1) * 2 ^ ((plc dg least top X e).2.1 - Bs).toNat ∨
       (plc dg least top X e).2.2.2 = 0 ∧ 2 * (X * 2 ^ (e - Bs).toNat) = (2 * (plc dg least top X e).1 + 1) * 2 ^ ((plc dg least top X e).2.1 - Bs).toNat ∨
       (plc dg least top X e).2.2.2 = 1 ∧ (2 * (plc dg least top X e).1 + 1) * 2 ^ ((plc dg least top X e).2.1 - Bs).toNat < 2 * (X * 2 ^ (e - Bs).toNat)))) := by
  unfold plc
  rw [if_neg hin]
  simp only
  obtain ⟨ex, hex⟩ : ∃ ex, max (e + (bl X : Int) - (dg : Int)) least = ex := ⟨_, rfl⟩
  rw [hex]
  have hle : least ≤ ex := by omega
  by_cases hoff : ex - e ≤ 0
  · rw [if_pos hoff]
    simp only
    refine ⟨by omega, .inl ⟨trivial, ?_⟩⟩
    rw [Nat.mul_assoc, ← Nat.pow_add, show (-(ex - e)).toNat + (ex - Bs).toNat = (e - Bs).toNat by omega]
  · rw [if_neg hoff]
    simp only
    obtain ⟨k, hk⟩ : ∃ k : Nat, (ex - e).toNat = k := ⟨_, rfl⟩
    have hk0 : 0 < k := by omega
    have hexB : (ex - Bs).toNat = k + (e - Bs).toNat := by omega
    have hk1 : (ex - e - 1).toNat = k - 1 := by omega
    rw [hk, hexB, hk1, Nat.pow_add]
    obtain ⟨Q, hQ⟩ : ∃ Q, 2 ^ (e - Bs).toNat = Q := ⟨_, rfl⟩
    have hQ0 : 0 < Q := by rw [← hQ]; exact Nat.two_pow_pos _
    rw [hQ]
    have hdm := Nat.div_add_mod X (2 ^ k)
    have hmod := Nat.mod_lt X (Nat.two_pow_pos k)
    obtain ⟨F, hF⟩ : ∃ F, X / 2 ^ k = F := ⟨_, rfl⟩
    obtain ⟨R, hR⟩ : ∃ R, X % 2 ^ k = R := ⟨_, rfl⟩
    have hhalf : 2 ^ k = 2 * 2 ^ (k - 1) := by rw [show k = k - 1 + 1 by omega, Nat.pow_succ, Nat.mul_comm]; rfl
    have hbit : X / 2 ^ (k - 1) % 2 = R / 2 ^ (k - 1) := by
      rw [← hR, hhalf]
      rw [Nat.mul_comm 2, Nat.mod_mul_right_div_self]
    obtain ⟨Hf, hHf⟩ : ∃ Hf, 2 ^ (k - 1) = Hf := ⟨_, rfl⟩
    have hHf0 : 0 < Hf := by rw [← hHf]; exact Nat.two_pow_pos _
    rw [hHf] at hhalf hbit ⊢
    rw [hbit]
    rw [hhalf] at hdm hmod hF hR ⊢
    rw [hF, hR] at hdm
    rw [hR] at hmod
    rw [hF]
    have hR0 : R ≠ 0 := by
      intro h
      rw [h, Nat.add_zero, Nat.mul_assoc] at hdm
      omega
    have e1 : F * (2 * Hf * Q) = (F * (2 * Hf)) * Q := (Nat.mul_assoc _ _ _).symm
    have e2 : (F + 1) * (2 * Hf * Q) = ((F + 1) * (2 * Hf)) * Q := (Nat.mul_assoc _ _ _).symm
    have e3 : (2 * F + 1) * (2 * Hf * Q) = (2 * (F * (2 * Hf)) + 2 * Hf) * Q := by
      rw [Nat.add_mul, Nat.add_mul, Nat.one_mul, Nat.mul_assoc 2 F, ← Nat.mul_assoc F, Nat.mul_assoc 2 (F * (2 * Hf)) Q]
    have e4 : 2 * (X * Q) = (2 * X) * Q := by rw [Nat.mul_assoc]
    have e5 : 2 * Hf * F = F * (2 * Hf) := Nat.mul_comm _ _
    rw [e5] at hdm
    have e6 : (F + 1) * (2 * Hf) = F * (2 * Hf) + 2 * Hf := by rw [Nat.add_mul, Nat.one_mul]
    rw [e1, e2, e3, e4, e6]
    generalize F * (2 * Hf) = G at hdm ⊢
    refine ⟨by omega, .inr ⟨trivial, Nat.mul_lt_mul_of_pos_right (by omega) hQ0, Nat.mul_lt_mul_of_pos_right (by omega) hQ0, ?_⟩⟩
    by_cases hone : ex - e = 1
    · rw [if_pos hone]
      have hk1' : k = 1 := by omega
      have hHf1 : Hf = 1 := by rw [← hHf, hk1']
      refine .inr (.inl ⟨rfl, ?_⟩)
      congr 1
      omega
    · rw [if_neg hone]
      have hHf2 : Hf % 2 = 0 := by
        rw [← hHf, show k - 1 = k - 2 + 1 by omega, Nat.pow_succ]; omega
      have hRodd : R % 2 = 1 := by
        have : G % 2 = 0 ∨ True := .inr trivial
        rw [← hR]
        rw [Nat.mod_mul_right_mod]
        exact ho
      by_cases hge : Hf ≤ R
      · have hd1 : R / Hf = 1 := by
          rw [Nat.div_eq_iff hHf0]; omega
        rw [hd1, if_pos rfl]
        refine .inr (.inr ⟨rfl, Nat.mul_lt_mul_of_pos_right ?_ hQ0⟩)
        have : R ≠ Hf := by intro h; rw [h] at hRodd; omega
        omega
      · have hd0 : R / Hf = 0 := Nat.div_eq_of_lt (by omega)
        rw [hd0, if_neg (by omega)]
        exact .inl ⟨rfl, Nat.mul_lt_mul_of_pos_right (by omega) hQ0⟩

/-- The greatest finite word that is not above a value, and the word after it. -/
def flK (X : Nat) (e : Int) : Nat := ((plc 53 (-1074) 1024 X e).2.1 + 1074).toNat * 4503599627370496 + (plc 53 (-1074) 1024 X e).1
/-- A word's value. -/
abbrev vK (K : Nat) : Nat := B.val Ieee.double K
theorem vK_lt {K L : Nat} : vK K < vK L ↔ K < L := B.val_lt_iff Ieee.double
theorem vK_word (j F : Nat) (h : j = 0 ∨ 4503599627370496 ≤ F) (hF : F ≤ 9007199254740992) : vK (j * 4503599627370496 + F) = F * 2 ^ j := by
  have := B.val_at Ieee.double j F (by rw [B.dBin]; exact h) (by rw [B.dBin]; omega)
  rw [B.dBin] at this
  exact this

/-- Where a value lies: at a word, or between it and the next one; how it stands to their middle. V: the value, S: what the words' unit is. -/
structure Lies (K : Nat) (at' : Bool) (mid : Int) (V S : Nat) : Prop where
  fin : K < 9218868437227405312
  pos : 0 < S
  one : at' = true → V = vK K * S
  low : at' = false → vK K * S < V
  mids : at' = false → V < vK (K + 1) * S → (mid = -1 ∧ 2 * V < vK K * S + vK (K + 1) * S ∨ mid = 0 ∧ 2 * V = vK K * S + vK (K + 1) * S ∨ mid = 1 ∧ vK K * S + vK (K + 1) * S < 2 * V)
  high : at' = false → V < vK (K + 1) * S ∨ (K = 9218868437227405311 ∧ mid = 1)

theorem lies (X : Nat) (e : Int) (hX : X % 2 = 1) (he0 : -1048576 ≤ e) (he1 : e ≤ 1048576) (Bs : Int) (h1 : Bs ≤ e) (h2 : Bs ≤ -1074) :
    Lies (flK X e) (plc 53 (-1074) 1024 X e).2.2.1 (plc 53 (-1074) 1024 X e).2.2.2 (X * 2 ^ (e - Bs).toNat) (2 ^ (-1074 - Bs).toNat) := by
  have hX0 : X ≠ 0 := by omega
  obtain ⟨f1, f2, f3, f4⟩ := plc_facts X e hX0 he0 he1
  obtain ⟨j, hj⟩ : ∃ j : Nat, ((plc 53 (-1074) 1024 X e).2.1 + 1074).toNat = j := ⟨_, rfl⟩
  have hS : 0 < 2 ^ (-1074 - Bs).toNat := Nat.two_pow_pos _
  have hw : ∀ F, F ≤ 9007199254740992 → (j = 0 ∨ 4503599627370496 ≤ F) → vK (j * 4503599627370496 + F) * 2 ^ (-1074 - Bs).toNat = F * 2 ^ ((plc 53 (-1074) 1024 X e).2.1 - Bs).toNat := by
    intro F hF hn
    rw [vK_word j F hn hF, Nat.mul_assoc, ← Nat.pow_add]
    congr 2
    omega
  have hn1 : j = 0 ∨ 4503599627370496 ≤ (plc 53 (-1074) 1024 X e).1 := by
    rcases f4 with h | h
    · left; omega
    · exact .inr h
  have w1 := hw (plc 53 (-1074) 1024 X e).1 (by omega) hn1
  have w2 := hw ((plc 53 (-1074) 1024 X e).1 + 1) (by omega) (by rcases hn1 with h | h; exact .inl h; exact .inr (by omega))
  have hflK : flK X e = j * 4503599627370496 + (plc 53 (-1074) 1024 X e).1 := by unfold flK; rw [hj]
  have hflK1 : flK X e + 1 = j * 4503599627370496 + ((plc 53 (-1074) 1024 X e).1 + 1) := by rw [hflK]; omega
  have hfin : flK X e < 9218868437227405312 := by rw [hflK]; omega
  rw [← hflK] at w1
  rw [← hflK1] at w2
  by_cases hin : 1024 < e + (bl X : Int)
  · have hp : plc 53 (-1074) 1024 X e = ((2 ^ 53 - 1 : Nat), ((1024 : Int) - ((53 : Nat) : Int)), false, (1 : Int)) := by unfold plc; rw [if_pos hin]
    have hK : flK X e = 9218868437227405311 := by unfold flK; rw [hp]; rfl
    refine ⟨hfin, hS, fun h => (by rw [hp] at h; cases h), fun _ => ?_, fun _ hlt => ?_, fun _ => .inr ⟨hK, (by rw [hp])⟩⟩
    · rw [w1]
      have hlow : (2 ^ 53 - 1) * 2 ^ (971 - Bs).toNat < 2 ^ 53 * 2 ^ (971 - Bs).toNat := Nat.mul_lt_mul_of_pos_right (by decide) (Nat.two_pow_pos _)
      have hup : 2 ^ 53 * 2 ^ (971 - Bs).toNat ≤ X * 2 ^ (e - Bs).toNat := by
        have hb := bl_ge X hX0
        have hbp := bl_pos X hX0
        refine Nat.le_trans ?_ (Nat.mul_le_mul_right _ hb)
        rw [← Nat.pow_add, ← Nat.pow_add]
        exact Nat.pow_le_pow_right (by omega) (by omega)
      rw [hp]
      exact Nat.lt_of_lt_of_le hlow hup
    · exfalso
      rw [w2, hp] at hlt
      have hup : 2 ^ 53 * 2 ^ (971 - Bs).toNat ≤ X * 2 ^ (e - Bs).toNat := by
        have hb := bl_ge X hX0
        have hbp := bl_pos X hX0
        refine Nat.le_trans ?_ (Nat.mul_le_mul_right _ hb)
        rw [← Nat.pow_add, ← Nat.pow_add]
        exact Nat.pow_le_pow_right (by omega) (by omega)
      exact absurd hlt (Nat.not_lt.2 hup)
  · obtain ⟨_, hfl⟩ := plc_floor 53 (-1074) 1024 X e hX Bs h1 h2 hin
    have hmid : vK (flK X e) * 2 ^ (-1074 - Bs).toNat + vK (flK X e + 1) * 2 ^ (-1074 - Bs).toNat = (2 * (plc 53 (-1074) 1024 X e).1 + 1) * 2 ^ ((plc 53 (-1074) 1024 X e).2.1 - Bs).toNat := by
      rw [w1, w2, ← Nat.add_mul]; congr 1; omega
    rcases hfl with ⟨ht, hv⟩ | ⟨hf, hlo, hhi, hm⟩
    · exact ⟨hfin, hS, fun _ => (by rw [w1]; exact hv), fun h => (by rw [ht] at h; cases h), fun h => (by rw [ht] at h; cases h), fun h => (by rw [ht] at h; cases h)⟩
    · refine ⟨hfin, hS, fun h => (by rw [hf] at h; cases h), fun _ => (by rw [w1]; exact hlo), fun _ _ => (by rw [hmid]; exact hm), fun _ => .inl (by rw [w2]; exact hhi)⟩
end Go.Proofs.YtjpaocgimdinmaaGreatDoor

/- Rounding: what is not greater is not rounded to what is greater; neighbours; the nearest. -/
namespace Go.Proofs.YtjpaocgimdinmaaGreatDoor
open Go.RowKit
set_option linter.unusedVariables false
set_option maxRecDepth 20000

theorem vS_le {K L S : Nat} (h : K ≤ L) : vK K * S ≤ vK L * S := by
  rcases Nat.lt_or_ge K L with k | k
  · exact Nat.mul_le_mul_right _ (Nat.le_of_lt (vK_lt.2 k))
  · rw [show K = L by omega]; exact Nat.le_refl _
theorem vS_lt {K L S : Nat} (hS : 0 < S) (h : K < L) : vK K * S < vK L * S := Nat.mul_lt_mul_of_pos_right (vK_lt.2 h) hS
theorem Lies.ge {K : Nat} {t : Bool} {m : Int} {V S : Nat} (h : Lies K t m V S) : vK K * S ≤ V := by
  cases ht : t
  · exact Nat.le_of_lt (h.low ht)
  · rw [h.one ht]; exact Nat.le_refl _

/-- The word that is answered. -/
def rK (mode : Int) (n : Bool) (K : Nat) (t : Bool) (m : Int) : Nat := if t then K else if outS mode K m n then K + 1 else K
theorem outS_par (mode : Int) (j F : Nat) (m : Int) (n : Bool) : outS mode (j * 4503599627370496 + F) m n = outS mode F m n := by
  unfold outS
  rw [show (j * 4503599627370496 + F) % 2 = F % 2 by omega]
theorem rndK_eq (mode : Int) (n : Bool) (X : Nat) (e : Int) : rndK mode n X e = rK mode n (flK X e) (plc 53 (-1074) 1024 X e).2.2.1 (plc 53 (-1074) 1024 X e).2.2.2 := by
  unfold rndK rK flK
  simp only
  rw [outS_par]
  split
  · rfl
  · split <;> omega

/-- Floors rise with values. -/
theorem lies_mono {K1 K2 : Nat} {t1 t2 : Bool} {m1 m2 : Int} {V1 V2 S : Nat} (h1 : Lies K1 t1 m1 V1 S) (h2 : Lies K2 t2 m2 V2 S) (h : V1 ≤ V2) : K1 ≤ K2 := by
  rcases Nat.lt_or_ge K2 K1 with k | k
  · exfalso
    have a1 := h1.ge
    have a2 : vK (K2 + 1) * S ≤ vK K1 * S := vS_le (by omega)
    have a3 : V2 < vK (K2 + 1) * S := by
      cases ht : t2
      · rcases h2.high ht with q | q
        · exact q
        · have := h1.fin; omega
      · rw [h2.one ht]; exact vS_lt h2.pos (by omega)
    omega
  · exact k

theorem rK_mono (mode : Int) (n : Bool) {K1 K2 : Nat} {t1 t2 : Bool} {m1 m2 : Int} {V1 V2 S : Nat} (h1 : Lies K1 t1 m1 V1 S) (h2 : Lies K2 t2 m2 V2 S) (h : V1 ≤ V2) : rK mode n K1 t1 m1 ≤ rK mode n K2 t2 m2 := by
  have hK := lies_mono h1 h2 h
  have u1 : rK mode n K1 t1 m1 ≤ K1 + 1 := by unfold rK; split; omega; split <;> omega
  have l2 : K2 ≤ rK mode n K2 t2 m2 := by unfold rK; split; omega; split <;> omega
  rcases Nat.lt_or_ge K1 K2 with k | k
  · omega
  · have e : K1 = K2 := by omega
    subst e
    by_cases ht1 : t1 = true
    · unfold rK at *
      rw [if_pos ht1] at *
      exact l2
    · have ht1f : t1 = false := by simpa using ht1
      have ht2f : t2 = false := by
        cases ht2 : t2
        · rfl
        · exfalso
          have a1 := h1.low ht1f
          have a2 := h2.one ht2
          omega
      have hmm : m1 ≤ m2 := by
        rcases h2.high ht2f with q2 | ⟨q2, q2'⟩
        · have q1 : V1 < vK (K1 + 1) * S := by omega
          have r1 := h1.mids ht1f q1
          have r2 := h2.mids ht2f q2
          generalize vK K1 * S + vK (K1 + 1) * S = M at r1 r2
          omega
        · rw [q2']
          rcases h1.high ht1f with q1 | ⟨q1, q1'⟩
          · have r1 := h1.mids ht1f q1
            omega
          · omega
      unfold rK
      rw [ht1f, ht2f]
      simp only [Bool.false_eq_true, if_false]
      have key : outS mode K1 m1 n = true → outS mode K1 m2 n = true := by
        unfold outS
        split
        · intro hq
          simp only [Bool.or_eq_true, Bool.and_eq_true, decide_eq_true_eq] at hq ⊢
          omega
        · split
          · exact id
          · split
            · exact id
            · split
              · intro hq
                simp only [decide_eq_true_eq] at hq ⊢
                omega
              · exact id
      by_cases ho : outS mode K1 m1 n = true
      · rw [if_pos ho, if_pos (key ho)]; exact Nat.le_refl _
      · rw [if_neg ho]; split <;> omega

/-- Toward nought it is not above, away from it not below, where it is finite. -/
theorem rK_inner (mode : Int) (n : Bool) {K : Nat} {t : Bool} {m : Int} {V S : Nat} (h : Lies K t m V S) (ho : outS mode K m n = false) : vK (rK mode n K t m) * S ≤ V := by
  unfold rK
  split
  · exact h.ge
  · rw [if_neg (by rw [ho]; exact Bool.false_ne_true)]; exact h.ge
theorem rK_outer (mode : Int) (n : Bool) {K : Nat} {t : Bool} {m : Int} {V S : Nat} (h : Lies K t m V S) (ho : outS mode K m n = true) (hf : rK mode n K t m < 9218868437227405312) : V ≤ vK (rK mode n K t m) * S := by
  unfold rK at hf ⊢
  split
  · rename_i ht; rw [h.one ht]; exact Nat.le_refl _
  · rename_i ht
    have htf : t = false := by simpa using ht
    rw [if_neg ht, if_pos ho] at hf
    try rw [if_pos ho]
    rcases h.high htf with q | ⟨q, _⟩
    · omega
    · omega

/-- A word's own value is answered as that word. -/
theorem rK_own (mode : Int) (n : Bool) {K : Nat} {t : Bool} {m : Int} {V S : Nat} (h : Lies K t m V S) (L : Nat) (hL : L < 9218868437227405312) (hV : V = vK L * S) : rK mode n K t m = L := by
  have hKL : K ≤ L := by
    rcases Nat.lt_or_ge L K with k | k
    · exfalso
      have a1 := h.ge
      have a2 := vS_lt h.pos k
      omega
    · exact k
  by_cases ht : t = true
  · have : vK K = vK L := Nat.eq_of_mul_eq_mul_right h.pos (by rw [← hV, h.one ht])
    unfold rK
    rw [if_pos ht]
    exact B.val_inj Ieee.double this
  · exfalso
    have htf : t = false := by simpa using ht
    have a1 := h.low htf
    have hlt : K < L := by
      rcases Nat.lt_or_ge K L with k | k
      · exact k
      · have : K = L := by omega
        rw [this] at a1
        omega
    rcases h.high htf with q | ⟨q, _⟩
    · have a2 : vK (K + 1) * S ≤ vK L * S := vS_le (by omega)
      omega
    · omega
end Go.Proofs.YtjpaocgimdinmaaGreatDoor

/- DyadNear: the plain mathematics of what it asks. -/
namespace Go.Proofs.YtjpaocgimdinmaaGreatDoor
open Go.RowKit
set_option linter.unusedVariables false
set_option maxRecDepth 20000

/-- A word with its sign. -/
def wd64 (s : Bool) (K : Nat) : Nat := K + (if s then 9223372036854775808 else 0)
/-- A word's signed place. -/
def sK (s : Bool) (K : Nat) : Int := if s then -(K : Int) else K
theorem wd64_bw (s : Bool) (K : Nat) (h : K ≤ 9218868437227405312) : wd64 s K = B.bw s (K / 4503599627370496) (K % 4503599627370496) ∧ K / 4503599627370496 < 2048 ∧ K % 4503599627370496 < 4503599627370496 ∧ B.odd (K / 4503599627370496) (K % 4503599627370496) = false ∧ B.pl s (K / 4503599627370496) (K % 4503599627370496) = sK s K := by
  refine ⟨?_, by omega, by omega, ?_, ?_⟩
  · unfold wd64 B.bw
    cases s
    · simp; omega
    · simp; omega
  · unfold B.odd
    simp
    omega
  · unfold B.pl B.sg sK
    rw [show K / 4503599627370496 * 4503599627370496 + K % 4503599627370496 = K by omega]
theorem gt64 (s t : Bool) (K L : Nat) (hK : K ≤ 9218868437227405312) (hL : L ≤ 9218868437227405312) : (FloatKind.f64.format.order (wd64 s K) (wd64 t L) == some .gt) = decide (sK t L < sK s K) := by
  obtain ⟨a1, a2, a3, a4, a5⟩ := wd64_bw s K hK
  obtain ⟨b1, b2, b3, b4, b5⟩ := wd64_bw t L hL
  rw [a1, b1, B.gt_f64 s t _ _ _ _ a2 a3 b2 b3, a4, b4, a5, b5]
  simp
theorem lt64 (s t : Bool) (K L : Nat) (hK : K ≤ 9218868437227405312) (hL : L ≤ 9218868437227405312) : (FloatKind.f64.format.order (wd64 s K) (wd64 t L) == some .lt) = decide (sK s K < sK t L) := by
  obtain ⟨a1, a2, a3, a4, a5⟩ := wd64_bw s K hK
  obtain ⟨b1, b2, b3, b4, b5⟩ := wd64_bw t L hL
  rw [a1, b1, B.lt_f64 s t _ _ _ _ a2 a3 b2 b3, a4, b4, a5, b5]
  simp
theorem eq64 (s t : Bool) (K L : Nat) (hK : K ≤ 9218868437227405312) (hL : L ≤ 9218868437227405312) : (FloatKind.f64.format.order (wd64 s K) (wd64 t L) == some .eq) = decide (sK s K = sK t L) := by
  obtain ⟨a1, a2, a3, a4, a5⟩ := wd64_bw s K hK
  obtain ⟨b1, b2, b3, b4, b5⟩ := wd64_bw t L hL
  rw [a1, b1, B.eq_f64 s t _ _ _ _ a2 a3 b2 b3, a4, b4, a5, b5]
  simp

/-- What a form is rounded to: the sign, the word. -/
def rS (n : Bool) (X : Nat) : Bool := if X = 0 then false else n
def rW (mode : Int) (n : Bool) (X : Nat) (e : Int) : Nat := if X = 0 then 0 else rndK mode n X e
theorem rndS_form (mode : Int) (n : Bool) (X : Nat) (e : Int) (h0 : 0 ≤ mode) (h4 : mode ≤ 4) : rndS (some (n, X, e)) mode = (wd64 (rS n X) (rW mode n X e), 0) := by
  unfold rndS
  rw [if_neg (by omega)]
  simp only
  unfold rS rW wd64
  by_cases h : X = 0
  · rw [if_pos h, if_pos h, if_pos h]; rfl
  · rw [if_neg h, if_neg h, if_neg h]
theorem rW_le (mode : Int) (n : Bool) (X : Nat) (e : Int) (F : Frm n X e) : rW mode n X e ≤ 9218868437227405312 := by
  unfold rW
  split
  · omega
  · rename_i h
    have ho : X % 2 = 1 := by rcases F.odd with k | k; exact k; exact absurd k.1 h
    have L := lies X e ho F.down F.up (min e (-1074)) (by omega) (by omega)
    rw [rndK_eq]
    have := L.fin
    unfold rK
    split
    · omega
    · split <;> omega

theorem cmpZ_le {x y : Int} : cmpZ x y ≤ 0 ↔ x ≤ y := by
  unfold cmpZ
  by_cases h : x < y
  · rw [if_pos h]; omega
  · rw [if_neg h]
    by_cases h2 : y < x
    · rw [if_pos h2]; omega
    · rw [if_neg h2]; omega
theorem cmpZ_ge {x y : Int} : 0 ≤ cmpZ x y ↔ y ≤ x := by
  unfold cmpZ
  by_cases h : x < y
  · rw [if_pos h]; omega
  · rw [if_neg h]
    by_cases h2 : y < x
    · rw [if_pos h2]; omega
    · rw [if_neg h2]; omega

theorem frm_odd {n : Bool} {X : Nat} {e : Int} (F : Frm n X e) (h : X ≠ 0) : X % 2 = 1 := by rcases F.odd with k | k; exact k; exact absurd k.1 h

/-- What is not greater is not rounded to what is greater. -/
theorem near_mono (mode : Int) {n m : Bool} {X Y : Nat} {e f : Int} (FX : Frm n X e) (FY : Frm m Y f) (h : cmpV n X e m Y f ≤ 0) : sK (rS n X) (rW mode n X e) ≤ sK (rS m Y) (rW mode m Y f) := by
  obtain ⟨Bs, hB⟩ : ∃ B : Int, B ≤ -1074 ∧ B ≤ e ∧ B ≤ f := ⟨min (-1074) (min e f), by omega⟩
  obtain ⟨hB0, hBe, hBf⟩ := hB
  rw [cmpV_z n X e m Y f Bs hBe hBf, cmpZ_le] at h
  have pX : X ≠ 0 → 0 < X * 2 ^ (e - Bs).toNat := fun k => Nat.mul_pos (by omega) (Nat.two_pow_pos _)
  have pY : Y ≠ 0 → 0 < Y * 2 ^ (f - Bs).toNat := fun k => Nat.mul_pos (by omega) (Nat.two_pow_pos _)
  unfold rS rW sK
  by_cases hX : X = 0
  · rw [if_pos hX, if_pos hX]
    by_cases hY : Y = 0
    · rw [if_pos hY, if_pos hY]; simp
    · rw [if_neg hY, if_neg hY]
      have := pY hY
      rw [hX, Nat.zero_mul] at h
      generalize Y * 2 ^ (f - Bs).toNat = Q at h this
      cases m
      · simp
      · exfalso; simp [sg1] at h; omega
  · rw [if_neg hX, if_neg hX]
    have hp := pX hX
    by_cases hY : Y = 0
    · rw [if_pos hY, if_pos hY]
      rw [hY, Nat.zero_mul] at h
      generalize X * 2 ^ (e - Bs).toNat = P at h hp
      cases n
      · exfalso; simp [sg1] at h; omega
      · simp
    · rw [if_neg hY, if_neg hY]
      have hq := pY hY
      have L1 := lies X e (frm_odd FX hX) FX.down FX.up Bs hBe hB0
      have L2 := lies Y f (frm_odd FY hY) FY.down FY.up Bs hBf hB0
      rw [rndK_eq, rndK_eq]
      generalize X * 2 ^ (e - Bs).toNat = P at h hp L1
      generalize Y * 2 ^ (f - Bs).toNat = Q at h hq L2
      cases n <;> cases m
      · have := rK_mono mode false L1 L2 (by simp [sg1] at h; omega)
        simp; omega
      · exfalso; simp [sg1] at h; omega
      · first | (simp; done) | (simp; omega)
      · have := rK_mono mode true L2 L1 (by simp [sg1] at h; omega)
        simp; omega
end Go.Proofs.YtjpaocgimdinmaaGreatDoor

/- The document's small functions on a number's bits. -/
namespace Go.Proofs.YtjpaocgimdinmaaGreatDoor
open Go.RowKit
set_option linter.unusedVariables false
set_option maxRecDepth 20000
set_option linter.unusedSimpArgs false
attribute [local go_sem] B.f64bits B.f64frombits st_float
/-- A word without its sign; is there a sign; the sign turned. -/
def magW (x : Nat) : Nat := x % 9223372036854775808
def negW (x : Nat) : Bool := decide (9223372036854775808 ≤ x)
def turnW (x : Nat) : Nat := if 9223372036854775808 ≤ x then x - 9223372036854775808 else x + 9223372036854775808

theorem rSame_w (x y : Nat) (w : World) : Calls Tryz.prog 66 #[.float .f64 x, .float .f64 y] w fun r w' => r = .returned (.bool (x == y)) ∧ w' = w := by
  have e2 : ((x : Int) == (y : Int)) = (x == y) := by rw [Bool.eq_iff_iff, beq_iff_eq, beq_iff_eq]; omega
  go_enter Tryz.func66, Tryz.ntmps66
  go_wp2
  exact bodyPost_ret (v := .bool (x == y)) (by simp [results, Tryz.results66, go_sem, e2]) rfl ⟨rfl, rfl⟩

end Go.Proofs.YtjpaocgimdinmaaGreatDoor

/- DyadNear: numbers' own values, how far apart. -/
namespace Go.Proofs.YtjpaocgimdinmaaGreatDoor
open Go.RowKit
set_option linter.unusedVariables false
set_option maxRecDepth 20000

/-- What Of answers of a word. -/
def ofK (s : Bool) (K : Nat) : Option (Bool × Nat × Int) := ofR s (K / 4503599627370496) (K % 4503599627370496)
theorem ofK_val (s : Bool) (K : Nat) (hK : K < 9218868437227405312) : ∃ n X e, ofK s K = some (n, X, e) ∧ Frm n X e ∧ (X ≠ 0 → n = s) ∧ (X = 0 ↔ K = 0) ∧ ∀ Bs : Int, Bs ≤ -1074 → zv Bs (n, X, e) = sg1 s * ((vK K * 2 ^ (-1074 - Bs).toNat : Nat) : Int) := by
  obtain ⟨x, hx⟩ : ∃ x, K / 4503599627370496 = x := ⟨_, rfl⟩
  obtain ⟨f, hf⟩ : ∃ f, K % 4503599627370496 = f := ⟨_, rfl⟩
  have hxl : x < 2047 := by omega
  have hfl : f < 4503599627370496 := by omega
  obtain ⟨M, hM⟩ : ∃ M, (if x = 0 then f else f + 4503599627370496) = M := ⟨_, rfl⟩
  obtain ⟨E, hE⟩ : ∃ E : Int, (if x = 0 then (-1074 : Int) else (x : Int) - 1075) = E := ⟨_, rfl⟩
  have hME : (x = 0 ∧ M = f ∧ E = -1074) ∨ (x ≠ 0 ∧ M = f + 4503599627370496 ∧ E = (x : Int) - 1075) := by
    by_cases h : x = 0
    · rw [if_pos h] at hM hE; exact .inl ⟨h, hM.symm, hE.symm⟩
    · rw [if_neg h] at hM hE; exact .inr ⟨h, hM.symm, hE.symm⟩
  have hMl : M < 9007199254740992 := by omega
  have hO : ofK s K = mkS s M E := by unfold ofK ofR; rw [hx, hf, if_neg (by omega), hM, hE]
  have hsome : (mkS s M E).isSome = true := by
    unfold mkS
    split
    · rfl
    · rename_i h0
      have hb := bl_le53 M hMl
      obtain ⟨_, _, _, hbb⟩ := odd_part M h0
      rw [if_neg (by omega)]
      rfl
  obtain ⟨⟨n, X, e⟩, hz⟩ := Option.isSome_iff_exists.1 hsome
  have hKw : K = (E + 1074).toNat * 4503599627370496 + M := by rcases hME with h | h <;> omega
  have hv : vK K = M * 2 ^ (E + 1074).toNat := by
    rw [hKw]; exact vK_word _ _ (by rcases hME with h | h; left; omega; right; omega) (by omega)
  have hM0 : M = 0 ↔ K = 0 := by rcases hME with h | h <;> omega
  refine ⟨n, X, e, by rw [hO, hz], mkS_frm hz, ?_, ?_, ?_⟩
  · intro hX
    unfold mkS at hz
    split at hz
    · cases hz; exact absurd rfl hX
    · split at hz
      · cases hz
      · cases hz; rfl
  · rw [← hM0]
    constructor
    · intro hX
      unfold mkS at hz
      split at hz
      · assumption
      · rename_i h0
        split at hz
        · cases hz
        · obtain ⟨m, _, hd, _⟩ := odd_part M h0
          cases hz
          omega
    · intro h0
      unfold mkS at hz
      rw [if_pos h0] at hz
      cases hz; rfl
  · intro Bs hBs
    rw [zv_mkS hz Bs (.inr (by omega)), hv, Nat.mul_assoc, ← Nat.pow_add, show (E + 1074).toNat + (-1074 - Bs).toNat = (E - Bs).toNat by omega]

/-- The word's value against a form. -/
theorem cmp_word (s : Bool) (K : Nat) (hK : K < 9218868437227405312) {n : Bool} {X : Nat} {e : Int} (F : Frm n X e) (Bs : Int) (hB : Bs ≤ -1048576) :
    cmpV (dN (ofK s K)) (dX (ofK s K)) (dE (ofK s K)) n X e = cmpZ (sg1 s * ((vK K * 2 ^ (-1074 - Bs).toNat : Nat) : Int)) (sg1 n * ((X * 2 ^ (e - Bs).toNat : Nat) : Int)) := by
  obtain ⟨n', X', e', ho, F', _, _, hv⟩ := ofK_val s K hK
  rw [ho]
  show cmpV n' X' e' n X e = _
  have hd := F.down
  have hd' := F'.down
  rw [cmpV_z n' X' e' n X e Bs (by omega) (by omega), ← hv Bs (by omega)]
  rfl

theorem near_down {n : Bool} {X : Nat} {e : Int} (F : Frm n X e) (hK : rW 3 n X e < 9218868437227405312) : cmpV (dN (ofK (rS n X) (rW 3 n X e))) (dX (ofK (rS n X) (rW 3 n X e))) (dE (ofK (rS n X) (rW 3 n X e))) n X e ≤ 0 := by
  rw [cmp_word _ _ hK F (-1048576) (by omega), cmpZ_le]
  by_cases hX : X = 0
  · unfold rS rW
    rw [if_pos hX, if_pos hX, hX]
    rw [show vK 0 = 0 from B.val_zero _, Nat.zero_mul, Nat.zero_mul, Int.natCast_zero, Int.mul_zero, Int.mul_zero]
    exact Int.le_refl _
  · have L := lies X e (frm_odd F hX) F.down F.up (-1048576) F.down (by omega)
    unfold rS
    unfold rW at hK ⊢
    rw [if_neg hX] at hK ⊢
    rw [if_neg hX]
    rw [rndK_eq] at hK ⊢
    cases n
    · have := rK_inner 3 false L (by simp [outS])
      simp only [sg1, Bool.false_eq_true, if_false, Int.one_mul]
      exact Int.ofNat_le.2 this
    · have := rK_outer 3 true L (by simp [outS]) hK
      simp only [sg1, if_true]
      have := Int.ofNat_le.2 this
      omega
theorem near_up {n : Bool} {X : Nat} {e : Int} (F : Frm n X e) (hK : rW 2 n X e < 9218868437227405312) : 0 ≤ cmpV (dN (ofK (rS n X) (rW 2 n X e))) (dX (ofK (rS n X) (rW 2 n X e))) (dE (ofK (rS n X) (rW 2 n X e))) n X e := by
  rw [cmp_word _ _ hK F (-1048576) (by omega), cmpZ_ge]
  by_cases hX : X = 0
  · unfold rS rW
    rw [if_pos hX, if_pos hX, hX]
    rw [show vK 0 = 0 from B.val_zero _, Nat.zero_mul, Nat.zero_mul, Int.natCast_zero, Int.mul_zero, Int.mul_zero]
    exact Int.le_refl _
  · have L := lies X e (frm_odd F hX) F.down F.up (-1048576) F.down (by omega)
    unfold rS
    unfold rW at hK ⊢
    rw [if_neg hX] at hK ⊢
    rw [if_neg hX]
    rw [rndK_eq] at hK ⊢
    cases n
    · have := rK_outer 2 false L (by simp [outS]) hK
      simp only [sg1, Bool.false_eq_true, if_false, Int.one_mul]
      exact Int.ofNat_le.2 this
    · have := rK_inner 2 true L (by simp [outS])
      simp only [sg1, if_true]
      have := Int.ofNat_le.2 this
      omega

theorem near_own (mode : Int) (s : Bool) (L : Nat) (hL : L < 9218868437227405312) {n : Bool} {X : Nat} {e : Int} (ho : ofK s L = some (n, X, e)) : sK (rS n X) (rW mode n X e) = sK s L := by
  obtain ⟨n', X', e', ho', F, hn, h0, hv⟩ := ofK_val s L hL
  rw [ho] at ho'
  cases ho'
  unfold rS rW
  by_cases hX : X = 0
  · rw [if_pos hX, if_pos hX, h0.1 hX]
    unfold sK
    cases s <;> simp
  · rw [if_neg hX, if_neg hX, hn hX]
    have Ls := lies X e (frm_odd F hX) F.down F.up (-1048576) F.down (by omega)
    have hz := hv (-1048576) (by omega)
    unfold zv at hz
    simp only at hz
    rw [hn hX] at hz
    have hV : X * 2 ^ (e - -1048576).toNat = vK L * 2 ^ (-1074 - -1048576 : Int).toNat := by
      generalize X * 2 ^ (e - -1048576).toNat = P at hz ⊢
      generalize vK L * 2 ^ (-1074 - -1048576 : Int).toNat = Q at hz ⊢
      cases s <;> (simp only [sg1, Bool.false_eq_true, if_true, if_false] at hz; omega)
    rw [rndK_eq, rK_own mode s Ls L hL hV]
end Go.Proofs.YtjpaocgimdinmaaGreatDoor

/- What the model's sums and products are, by words; what the document's forms are rounded to: the same word. -/
namespace Go.Proofs.YtjpaocgimdinmaaGreatDoor
open Go.RowKit J
set_option linter.unusedVariables false
set_option maxRecDepth 20000

theorem wd_word (s : Bool) (K : Nat) : wd64 s K = Ieee.double.word s K := by
  unfold wd64
  have e : Ieee.double.word s K = (if s then 9223372036854775808 + K else K) := rfl
  rw [e]
  cases s <;> simp; omega
theorem hInf : Ieee.double.infRung < Ieee.double.signWeight := by rw [B.dInf, B.dSign]; omega
theorem hBin : Ieee.double.binade ≤ Ieee.double.infRung := by rw [B.dInf, B.dBin]; omega
theorem wd_of (x : Nat) (h : x < 18446744073709551616) : x = wd64 (negW x) (magW x) := by
  unfold wd64 negW magW
  by_cases hx : 9223372036854775808 ≤ x
  · rw [decide_eq_true hx, if_pos rfl]; omega
  · rw [decide_eq_false hx, if_neg (by simp)]; omega
theorem magW_wd (s : Bool) (K : Nat) (h : K < 9223372036854775808) : magW (wd64 s K) = K ∧ negW (wd64 s K) = s ∧ wd64 s K < 18446744073709551616 := by
  unfold magW negW wd64
  cases s <;> simp <;> omega

/-- The model's sum of two finite numbers. -/
theorem add_wd (s t : Bool) (K L : Nat) (hK : K < 9218868437227405312) (hL : L < 9218868437227405312) :
    ∃ R, NE R (B.sg s (vK K) + B.sg t (vK L)).natAbs 1 ∧ Ieee.double.add (wd64 s K) (wd64 t L) = some (wd64 (if B.sg s (vK K) + B.sg t (vK L) = 0 then s && t else decide (B.sg s (vK K) + B.sg t (vK L) < 0)) (min R 9218868437227405312)) := by
  obtain ⟨m, j, e1, v1⟩ := B.read_word Ieee.double s K (by rw [B.dInf]; exact hK) hInf
  obtain ⟨n, k, e2, v2⟩ := B.read_word Ieee.double t L (by rw [B.dInf]; exact hL) hInf
  obtain ⟨mag, c, es, ev⟩ := B.sum_num s t m n j k Ieee.double.leastPlace
  rw [v1, v2] at es ev
  rw [wd_word, wd_word]
  unfold Ieee.Format.add
  rw [e1, e2, es]
  show ∃ R, NE R (B.sg s (vK K) + B.sg t (vK L)).natAbs 1 ∧ some (Ieee.double.nearest _ mag _) = _
  generalize hT : B.sg s (vK K) + B.sg t (vK L) = T at *
  by_cases hm : mag = 0
  · subst hm
    have hT0 : T = 0 := by rw [Nat.zero_mul] at ev; omega
    refine ⟨0, NEf.own (by decide) (by rw [hT0, B.val_zero]; rfl), ?_⟩
    unfold Ieee.Format.nearest
    rw [if_pos rfl, if_pos hT0, wd_word, Nat.zero_min]
  · obtain ⟨R, h1, h2⟩ := nearest_ne (if T = 0 then s && t else decide (T < 0)) mag c 0 hm
    refine ⟨R, by rw [ev, Nat.pow_zero] at h2; exact h2, ?_⟩
    rw [show Ieee.double.leastPlace + (c : Int) - ((0 : Nat) : Int) = Ieee.double.leastPlace + (c : Int) by omega] at h1
    rw [h1, wd_word, B.dInf]

theorem leastP : Ieee.double.leastPlace = -1074 := by decide
/-- The model's product of two finite numbers. -/
theorem mul_wd (a : Nat) (ha : a = 1074) (s t : Bool) (K L : Nat) (hK : K < 9218868437227405312) (hL : L < 9218868437227405312) :
    ∃ R, NE R (vK K * vK L) (2 ^ a) ∧ Ieee.double.mul (wd64 s K) (wd64 t L) = some (wd64 (s != t) (min R 9218868437227405312)) := by
  obtain ⟨m, j, e1, v1⟩ := B.read_word Ieee.double s K (by rw [B.dInf]; exact hK) hInf
  obtain ⟨n, k, e2, v2⟩ := B.read_word Ieee.double t L (by rw [B.dInf]; exact hL) hInf
  have hp : vK K * vK L = m * n * 2 ^ (j + k) := by
    show B.val Ieee.double K * B.val Ieee.double L = _
    rw [← v1, ← v2, Nat.pow_add, Nat.mul_mul_mul_comm]
  rw [wd_word, wd_word]
  unfold Ieee.Format.mul
  rw [e1, e2]
  show ∃ R, _ ∧ some (Ieee.double.nearest (s ^^ t) (m * n) (Ieee.double.leastPlace + (j : Int) + (Ieee.double.leastPlace + (k : Int)))) = _
  have hx : (s ^^ t) = (s != t) := by cases s <;> cases t <;> rfl
  rw [hx]
  by_cases hm : m * n = 0
  · refine ⟨0, NEf.own (Nat.two_pow_pos _) (by rw [hp, hm, B.val_zero, Nat.zero_mul, Nat.zero_mul]), ?_⟩
    unfold Ieee.Format.nearest
    rw [if_pos hm, wd_word, Nat.zero_min]
  · obtain ⟨R, h1, h2⟩ := nearest_ne (s != t) (m * n) (j + k) a hm
    refine ⟨R, by rw [hp]; exact h2, ?_⟩
    rw [show Ieee.double.leastPlace + (j : Int) + (Ieee.double.leastPlace + (k : Int)) = Ieee.double.leastPlace + ((j + k : Nat) : Int) - (a : Int) by rw [leastP, ha]; omega, h1, wd_word, B.dInf]

/-- What the document's search finds is the nearest, between two the even one. -/
theorem rK_ne {K R : Nat} {t n : Bool} {m : Int} {V S : Nat} (h : Lies K t m V S) (hR : NE R V S) : rK 0 n K t m = min R 9218868437227405312 := by
  have hf := h.fin
  have hS := h.pos
  cases t with
  | true =>
    have : NE K V S := NEf.own hS (h.one rfl)
    rw [hR.one this hS]
    unfold rK
    rw [if_pos rfl, Nat.min_eq_left (by omega)]
  | false =>
    have hlow : B.val Ieee.double K * S < V := h.low rfl
    have hmids : V < B.val Ieee.double (K + 1) * S → (m = -1 ∧ 2 * V < B.val Ieee.double K * S + B.val Ieee.double (K + 1) * S ∨ m = 0 ∧ 2 * V = B.val Ieee.double K * S + B.val Ieee.double (K + 1) * S ∨ m = 1 ∧ B.val Ieee.double K * S + B.val Ieee.double (K + 1) * S < 2 * V) := h.mids rfl
    have hhigh : V < B.val Ieee.double (K + 1) * S ∨ (K = 9218868437227405311 ∧ m = 1) := h.high rfl
    unfold rK
    rw [if_neg (by simp)]
    by_cases hh : V < B.val Ieee.double (K + 1) * S
    · have e : (B.val Ieee.double K + B.val Ieee.double (K + 1)) * S = B.val Ieee.double K * S + B.val Ieee.double (K + 1) * S := Nat.add_mul _ _ _
      have s2 : B.val Ieee.double (K + 1) * S < B.val Ieee.double (K + 2) * S := Nat.mul_lt_mul_of_pos_right (B.val_lt_succ Ieee.double (K + 1)) hS
      have eU : (B.val Ieee.double (K + 1) + B.val Ieee.double (K + 2)) * S = B.val Ieee.double (K + 1) * S + B.val Ieee.double (K + 2) * S := Nat.add_mul _ _ _
      have stay : (2 * V < B.val Ieee.double K * S + B.val Ieee.double (K + 1) * S ∨ 2 * V = B.val Ieee.double K * S + B.val Ieee.double (K + 1) * S ∧ K % 2 = 0) → NE K V S := by
        intro hc
        refine ⟨by rw [e]; omega, fun h1 => by rw [e] at h1; omega, fun h0 => ?_, fun h0 h1 => ?_⟩
        · have := Nat.mul_lt_mul_of_pos_right (B.val_lt Ieee.double (show K - 1 < K by omega)) hS
          rw [Nat.add_mul]; omega
        · have := Nat.mul_lt_mul_of_pos_right (B.val_lt Ieee.double (show K - 1 < K by omega)) hS
          rw [Nat.add_mul] at h1; omega
      have go : (B.val Ieee.double K * S + B.val Ieee.double (K + 1) * S < 2 * V ∨ 2 * V = B.val Ieee.double K * S + B.val Ieee.double (K + 1) * S ∧ K % 2 = 1) → NE (K + 1) V S := by
        intro hc
        refine ⟨by rw [eU]; omega, fun h1 => by rw [eU] at h1; omega, fun h0 => ?_, fun h0 h1 => ?_⟩
        · rw [show K + 1 - 1 = K from rfl, e]; omega
        · rw [show K + 1 - 1 = K from rfl, e] at h1; omega
      rcases hmids hh with ⟨h1, h2⟩ | ⟨h1, h2⟩ | ⟨h1, h2⟩
      · have ho : outS 0 K m n = false := by unfold outS; subst h1; simp
        rw [ho, if_neg (by simp), hR.one (stay (.inl h2)) hS, Nat.min_eq_left (by omega)]
      · by_cases hp : K % 2 = 1
        · have ho : outS 0 K m n = true := by unfold outS; subst h1; simp [hp]
          rw [ho, if_pos rfl, hR.one (go (.inr ⟨h2, hp⟩)) hS, Nat.min_eq_left (by omega)]
        · have ho : outS 0 K m n = false := by unfold outS; subst h1; simp [hp]
          rw [ho, if_neg (by simp), hR.one (stay (.inr ⟨h2, by omega⟩)) hS, Nat.min_eq_left (by omega)]
      · have ho : outS 0 K m n = true := by unfold outS; subst h1; simp
        rw [ho, if_pos rfl, hR.one (go (.inl h2)) hS, Nat.min_eq_left (by omega)]
    · obtain ⟨h1, h2⟩ : K = 9218868437227405311 ∧ m = 1 := by
        rcases hhigh with q | q
        · exact absurd q hh
        · exact q
      have ho : outS 0 K m n = true := by unfold outS; subst h2; simp
      rw [ho, if_pos rfl]
      have hRi : 9218868437227405312 ≤ R := by
        apply Nat.le_of_not_lt; intro hlt
        have u := hR.up
        have m1 : B.val Ieee.double R * S < B.val Ieee.double (R + 1) * S := Nat.mul_lt_mul_of_pos_right (B.val_lt_succ Ieee.double R) hS
        have m2 : B.val Ieee.double (R + 1) * S ≤ B.val Ieee.double (K + 1) * S := Nat.mul_le_mul_right S (vmono (by omega))
        rw [Nat.add_mul] at u
        omega
      rw [Nat.min_eq_right hRi]; omega

/-- A form's rounding, by its value. -/
theorem rW_ne {n : Bool} {X : Nat} {e : Int} (F : Frm n X e) (hX : X ≠ 0) (Bs : Int) (hB : Bs ≤ -1048576) {V U S R : Nat} (h1 : X * 2 ^ (e - Bs).toNat = V * S) (h2 : 2 ^ (-1074 - Bs).toNat = U * S) (hR : NE R V U) : rW 0 n X e = min R 9218868437227405312 := by
  have ho := frm_odd F hX
  have L := lies X e ho F.down F.up Bs (by have := F.down; omega) (by omega)
  have hS : 0 < S := by
    rcases Nat.eq_zero_or_pos S with h | h
    · rw [h, Nat.mul_zero] at h2; have := Nat.two_pow_pos (-1074 - Bs).toNat; omega
    · exact h
  unfold rW
  rw [if_neg hX, rndK_eq]
  rw [h1, h2] at L
  exact rK_ne L (hR.scale S hS)
end Go.Proofs.YtjpaocgimdinmaaGreatDoor

/- Forms by their values in units of 2^-2148; sums, products, roundings of forms of numbers. -/
namespace Go.Proofs.YtjpaocgimdinmaaGreatDoor
open Go.RowKit J
set_option linter.unusedVariables false
set_option maxRecDepth 20000

theorem exU (a : Nat) : ∃ u : Nat, u = 2 ^ a := ⟨_, rfl⟩
def EU : Nat := 1074
def ES : Nat := 2095004
def EH : Nat := 1047502
/-- 2^1074, 2^2095004: never reckoned. -/
noncomputable def UU : Nat := Classical.choose (exU EU)
noncomputable def SS : Nat := Classical.choose (exU ES)
theorem U_eq : UU = 2 ^ EU := Classical.choose_spec (exU EU)
theorem S_eq : SS = 2 ^ ES := Classical.choose_spec (exU ES)
theorem U_pos : 0 < UU := by rw [U_eq]; exact Nat.two_pow_pos _
theorem S_pos : 0 < SS := by rw [S_eq]; exact Nat.two_pow_pos _
theorem EUS : EU + ES = 2096078 := by unfold EU ES; rfl
theorem EHH : EH + EH = ES := by unfold EH ES; rfl
theorem US (a : Nat) (h : a = 2096078) : 2 ^ a = UU * SS := by
  rw [U_eq, S_eq, ← Nat.pow_add, EUS, h]
theorem mkSz (n : Bool) (e : Int) : mkS n 0 e = some (false, 0, 0) := by unfold mkS; rw [if_pos rfl]

/-- A form, what it stands for (in units of 2^-2148), where its bits lie. -/
structure Fo (o : Option (Bool × Nat × Int)) (z : Int) (L H : Int) : Prop where
  ex : ∃ n X e, o = some (n, X, e) ∧ Frm n X e ∧ zv (-2097152) (n, X, e) = z * (SS : Int) ∧ (X = 0 ∨ L ≤ e ∧ e + (bl X : Int) ≤ H)

theorem Fo.frm {n : Bool} {X : Nat} {e z L H : Int} (h : Fo (some (n, X, e)) z L H) : Frm n X e ∧ zv (-2097152) (n, X, e) = z * (SS : Int) ∧ (X = 0 ∨ L ≤ e ∧ e + (bl X : Int) ≤ H) := by
  obtain ⟨n', X', e', h1, h2, h3, h4⟩ := h.ex
  cases h1
  exact ⟨h2, h3, h4⟩
theorem mkS_sz (n : Bool) (Z : Nat) (f L H : Int) (hZ : Z ≠ 0) (h1 : L ≤ f) (h2 : f + (bl Z : Int) ≤ H) (hL : -1000000 ≤ L) (hH : H ≤ 1000000) (hd : H - L ≤ 262144) :
    ∃ X e, mkS n Z f = some (n, X, e) ∧ X ≠ 0 ∧ L ≤ e ∧ e + (bl X : Int) ≤ H := by
  obtain ⟨m, e0, e1, e2⟩ := odd_part Z hZ
  unfold mkS
  rw [if_neg hZ, if_neg (by omega)]
  exact ⟨_, _, rfl, by omega, by omega, by omega⟩

theorem blLe {X m : Nat} (h : X < 2 ^ m) : bl X ≤ m := by
  apply Nat.le_of_not_lt; intro hh
  have := (bl_gt X m).1 hh
  omega
theorem lt_bl (X : Nat) : X < 2 ^ bl X := bl_lt X

theorem addUp_sz (n : Bool) (X : Nat) (e : Int) (m : Bool) (Y : Nat) (f L H : Int) (hX : X ≠ 0) (hY : Y ≠ 0) (hfe : f ≤ e) (h1 : L ≤ f) (h2 : e + (bl X : Int) ≤ H) (h3 : f + (bl Y : Int) ≤ H) (hL : -1000000 ≤ L) (hH : H ≤ 999999) (hd : H - L ≤ 262143) :
    ∃ n' Z g, addUp n X e m Y f = some (n', Z, g) ∧ (Z = 0 ∨ L ≤ g ∧ g + (bl Z : Int) ≤ H + 1) := by
  obtain ⟨d, hdd⟩ : ∃ d : Nat, (e - f).toNat = d := ⟨_, rfl⟩
  have hb : X * 2 ^ d < 2 ^ (bl X + d) := by rw [Nat.pow_add]; exact Nat.mul_lt_mul_of_pos_right (lt_bl X) (Nat.two_pow_pos _)
  obtain ⟨q, hq⟩ : ∃ q : Nat, max (bl X + d) (bl Y) = q := ⟨_, rfl⟩
  have q1 : X * 2 ^ d < 2 ^ q := Nat.lt_of_lt_of_le hb (Nat.pow_le_pow_right (by decide) (by omega))
  have q2 : Y < 2 ^ q := Nat.lt_of_lt_of_le (lt_bl Y) (Nat.pow_le_pow_right (by decide) (by omega))
  have q3 : 2 ^ (q + 1) = 2 ^ q + 2 ^ q := by rw [Nat.pow_succ]; omega
  have hq4 : f + (q : Int) ≤ H := by omega
  have out : ∀ (n'' : Bool) (Z : Nat), Z < 2 ^ (q + 1) → ∃ n' Z' g, mkS n'' Z f = some (n', Z', g) ∧ (Z' = 0 ∨ L ≤ g ∧ g + (bl Z' : Int) ≤ H + 1) := by
    intro n'' Z hZ
    by_cases h0 : Z = 0
    · subst h0; rw [mkSz]; exact ⟨_, _, _, rfl, .inl rfl⟩
    · have := blLe hZ
      obtain ⟨X', e', k1, k2, k3, k4⟩ := mkS_sz n'' Z f L (H + 1) h0 h1 (by omega) hL (by omega) (by omega)
      exact ⟨_, _, _, k1, .inr ⟨k3, k4⟩⟩
  unfold addUp
  rw [hdd, if_neg (by omega)]
  split
  · exact out _ _ (by omega)
  · split
    · exact out _ _ (by omega)
    · exact out _ _ (by omega)
theorem addD_sz {o p : Option (Bool × Nat × Int)} {x y L H : Int} (h1 : Fo o x L H) (h2 : Fo p y L H) (hL : -1000000 ≤ L) (hH : H ≤ 999999) (hd : H - L ≤ 262143) : ∃ n Z g, addD o p = some (n, Z, g) ∧ (Z = 0 ∨ L ≤ g ∧ g + (bl Z : Int) ≤ H + 1) := by
  obtain ⟨n, X, e, rfl, F, _, b1⟩ := h1.ex
  obtain ⟨m, Y, f, rfl, G, _, b2⟩ := h2.ex
  unfold addD addF
  simp only
  by_cases hX : X = 0
  · rw [if_pos hX]; exact ⟨_, _, _, rfl, by omega⟩
  · rw [if_neg hX]
    by_cases hY : Y = 0
    · rw [if_pos hY]; exact ⟨_, _, _, rfl, by omega⟩
    · rw [if_neg hY]
      by_cases hlt : e < f
      · rw [if_pos hlt]; exact addUp_sz m Y f n X e L H hY hX (by omega) (by omega) (by omega) (by omega) hL hH hd
      · rw [if_neg hlt]; exact addUp_sz n X e m Y f L H hX hY (by omega) (by omega) (by omega) (by omega) hL hH hd
/-- Sums. -/
theorem Fo.add {o p : Option (Bool × Nat × Int)} {x y L H : Int} (h1 : Fo o x L H) (h2 : Fo p y L H) (hL : -1000000 ≤ L) (hH : H ≤ 999999) (hd : H - L ≤ 262143) : Fo (addD o p) (x + y) L (H + 1) := by
  obtain ⟨n, Z, g, hz, hb⟩ := addD_sz h1 h2 hL hH hd
  obtain ⟨n1, X1, e1, r1, F1, v1, _⟩ := h1.ex
  obtain ⟨n2, X2, e2, r2, F2, v2, _⟩ := h2.ex
  have V := Fv.add (B := -2097152) (by omega) ⟨n1, X1, e1, r1, F1, v1⟩ ⟨n2, X2, e2, r2, F2, v2⟩ (by rw [hz]; rfl)
  obtain ⟨n', Z', g', r, F, v⟩ := V.ex
  rw [hz] at r
  cases r
  exact ⟨n, Z, g, hz, F, by rw [v, Int.add_mul], hb⟩

theorem zvUp {x : Bool × Nat × Int} (B C : Int) (hB : x.2.1 = 0 ∨ B ≤ x.2.2) (hC : C ≤ B) : zv C x = zv B x * ((2 ^ (B - C).toNat : Nat) : Int) := by
  unfold zv
  rcases hB with h | h
  · rw [h]; simp
  · rw [show (x.2.2 - C).toNat = (x.2.2 - B).toNat + (B - C).toNat by omega, Nat.pow_add, ← Nat.mul_assoc, Int.natCast_mul, Int.mul_assoc]

theorem wide1 (a : Nat) (h : a = 1048576) : ∀ x : Int, x * (UU : Int) * (SS : Int) = x * ((2 ^ EH : Nat) : Int) * ((2 ^ a : Nat) : Int) := by
  intro x
  have e : EU + ES = EH + a := by rw [h]; unfold EU ES EH; rfl
  have e2 : UU * SS = 2 ^ EH * 2 ^ a := by rw [U_eq, S_eq, ← Nat.pow_add, ← Nat.pow_add, e]
  rw [Int.mul_assoc, Int.mul_assoc, ← Int.natCast_mul, ← Int.natCast_mul, e2]
/-- Products of what is whole in units of 2^-1074. -/
theorem Fo.mul {o p : Option (Bool × Nat × Int)} {x y L H : Int} (h1 : Fo o (x * (UU : Int)) L H) (h2 : Fo p (y * (UU : Int)) L H) (hL : -500000 ≤ L) (hH : H ≤ 500000) (hd : H - L ≤ 131072) : Fo (mulD o p) (x * y) (2 * L) (2 * H) := by
  obtain ⟨n1, X1, e1, r1, F1, v1, b1⟩ := h1.ex
  obtain ⟨n2, X2, e2, r2, F2, v2, b2⟩ := h2.ex
  have sz : ∃ n Z g, mulD o p = some (n, Z, g) ∧ (Z = 0 ∨ 2 * L ≤ g ∧ g + (bl Z : Int) ≤ 2 * H) := by
    rw [r1, r2]
    unfold mulD mulF
    simp only
    by_cases hZ : X1 * X2 = 0
    · rw [hZ, mkSz]; exact ⟨_, _, _, rfl, .inl rfl⟩
    · have hX : X1 ≠ 0 := fun h => hZ (by rw [h, Nat.zero_mul])
      have hY : X2 ≠ 0 := fun h => hZ (by rw [h, Nat.mul_zero])
      have hb : bl (X1 * X2) ≤ bl X1 + bl X2 := blLe (by rw [Nat.pow_add]; exact Nat.mul_lt_mul'' (lt_bl X1) (lt_bl X2))
      obtain ⟨X', e', k1, k2, k3, k4⟩ := mkS_sz (n1 != n2) (X1 * X2) (e1 + e2) (2 * L) (2 * H) hZ (by omega) (by omega) (by omega) (by omega) (by omega)
      exact ⟨_, _, _, k1, .inr ⟨k3, k4⟩⟩
  obtain ⟨n, Z, g, hz, hb⟩ := sz
  have half : ∀ (n : Bool) (X : Nat) (e x : Int), Frm n X e → zv (-2097152) (n, X, e) = x * (UU : Int) * (SS : Int) → zv (-1048576) (n, X, e) = x * ((2 ^ EH : Nat) : Int) := by
    intro n X e x F hv
    have up := zvUp (x := (n, X, e)) (-1048576) (-2097152) (.inr F.down) (by omega)
    rw [hv] at up
    obtain ⟨a, ha⟩ : ∃ a : Nat, (-1048576 - -2097152 : Int).toNat = a := ⟨_, rfl⟩
    rw [ha, wide1 a (by omega)] at up
    exact (Int.eq_of_mul_eq_mul_right (by have := Nat.two_pow_pos a; omega) up).symm
  have V := Fv.mul (B := -1048576) (C := -1048576) (by omega) (by omega) ⟨n1, X1, e1, r1, F1, half _ _ _ _ F1 v1⟩ ⟨n2, X2, e2, r2, F2, half _ _ _ _ F2 v2⟩ (by rw [hz]; rfl)
  obtain ⟨n', Z', g', r, F, v⟩ := V.ex
  rw [hz] at r
  cases r
  refine ⟨n, Z, g, hz, F, ?_, hb⟩
  rw [show (-2097152 : Int) = -1048576 + -1048576 by omega, v, S_eq, ← EHH, Nat.pow_add, Int.natCast_mul]
  simp only [Int.mul_assoc, Int.mul_left_comm, Int.mul_comm]
end Go.Proofs.YtjpaocgimdinmaaGreatDoor

