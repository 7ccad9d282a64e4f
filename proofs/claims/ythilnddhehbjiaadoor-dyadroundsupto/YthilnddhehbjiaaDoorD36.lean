/- dyad's Sub, the document's Add and Sub; sums and products in either order. -/
import Derived.Test.YthilnddhehbjiaaDoorD32x
import Derived.Test.YthilnddhehbjiaaDoorD34
import Derived.Deep.Cut
import Derived.Deep.RegionHeld3
namespace Go.Proofs.YthilnddhehbjiaaDoor
open Go.RowKit
set_option linter.unusedVariables false
set_option maxRecDepth 20000
set_option linter.unusedSimpArgs false

theorem sub_res (W : World) (g : Nat) (n : Bool) (v : Value) (e k : Int) (tmps : Array Value) (ht : tmps[4]?.getD undef = .pointer (some ⟨g, 0, none⟩)) (hk : tmps[5]?.getD undef = .int .i64 k) (D : Dk W g n v e) :
    (results Tryd.f29 tmps).run Tryd.prog W = .ok (.tuple #[.agg #[.bool n, v, .int .i64 e], .int .i64 k]) W := by
  obtain ⟨x0, x1, x2, xf0, xf1, xf2⟩ := D.facts
  simp [results, Tryd.results29, ht, hk, go_sem, x0, x1, x2]

theorem rsub_res (W : World) (g : Nat) (n : Bool) (v : Value) (e k : Int) (tmps : Array Value) (ht : tmps[4]?.getD undef = .pointer (some ⟨g, 0, none⟩)) (hk : tmps[5]?.getD undef = .int .i64 k) (D : Dk W g n v e) :
    (results Tryd.f32 tmps).run Tryd.prog W = .ok (.tuple #[.agg #[.bool n, v, .int .i64 e], .int .i64 k]) W := by
  obtain ⟨x0, x1, x2, xf0, xf1, xf2⟩ := D.facts
  simp [results, Tryd.results32, ht, hk, go_sem, x0, x1, x2]

set_option maxHeartbeats 4000000 in
theorem sub_core {w : World} {a b : Option Addr} {l c k d : Nat} (n m : Bool) (e f : Int) (dn : Bool) (V : Nat) (de er : Int) (lV : (ws V).length ≤ 8192)
    (HT : Hid (∀ u, Calls Tryd.prog 81 #[.agg #[.bool m, .slice b k d, .int .i64 f]] u fun r w' => r = .returned (.agg #[.bool (!m), .slice b k d, .int .i64 f]) ∧ Below u.heap.size u w'))
    (HA : Hid (∀ u, Below w.heap.size w u → Calls Tryd.prog 28 #[.agg #[.bool n, .slice a l c, .int .i64 e], .agg #[.bool (!m), .slice b k d, .int .i64 f]] u fun r w' => (∃ v, r = .returned (.tuple #[.agg #[.bool dn, v, .int .i64 de], .int .i64 er]) ∧ Nt u.heap.size w' v V) ∧ Below u.heap.size u w')) :
    Calls Tryd.prog 29 #[.agg #[.bool n, .slice a l c, .int .i64 e], .agg #[.bool m, .slice b k d, .int .i64 f]] w fun r w' => (∃ v, r = .returned (.tuple #[.agg #[.bool dn, v, .int .i64 de], .int .i64 er]) ∧ Nt w.heap.size w' v V) ∧ Below w.heap.size w w' := by
  obtain ⟨W1, hW1⟩ : ∃ W, W = ((w.alloc (.cells #[.bool n, .slice a l c, .int .i64 e] 39)).alloc (.cells #[.bool m, .slice b k d, .int .i64 f] 39)).alloc (.cells #[.bool false, .slice none 0 0, .int .i64 0] 39) := ⟨_, rfl⟩
  obtain ⟨hB, hz1, DA, DB, DR⟩ := add_begin w n m (.slice a l c) (.slice b k d) e f W1 hW1
  have T1 := hid (HT.out W1)
  have T2 := hid (HT.out W1.drew)
  obtain ⟨x0, x1, x2, xf0, xf1, xf2⟩ := DA.facts
  obtain ⟨y0, y1, y2, yf0, yf1, yf2⟩ := DB.facts
  obtain ⟨r0, r1, r2, rf0, rf1, rf2⟩ := DR.facts
  have hs1 : w.heap.size + 3 ≤ W1.heap.size := by omega
  have SB := (Aside.intro (And.intro hB (And.intro DA (And.intro DB DR))))
  clear hB hz1 DA DB DR
  go_enter Tryd.func29, Tryd.ntmps29
  go_wp2_with fail
  rw [← hW1]
  clear hW1
  have ne1 : w.heap.size ≠ w.heap.size + 1 + 1 := by omega
  have ne2 : w.heap.size + 1 ≠ w.heap.size + 1 + 1 := by omega
  have ne3 : w.heap.size + 1 + 1 ≠ w.heap.size := by omega
  have ne4 : w.heap.size + 1 + 1 ≠ w.heap.size + 1 := by omega
  go_region_held3 (fun w' => w'.cell? ⟨w.heap.size, 0, none⟩ = some (.bool n) ∧ w'.cell? ⟨w.heap.size, 1, none⟩ = some (.slice a l c) ∧ w'.cell? ⟨w.heap.size, 2, none⟩ = some (.int .i64 e) ∧ w'.cell? ⟨w.heap.size + 1, 0, none⟩ = some (.bool m) ∧ w'.cell? ⟨w.heap.size + 1, 1, none⟩ = some (.slice b k d) ∧ w'.cell? ⟨w.heap.size + 1, 2, none⟩ = some (.int .i64 f)) (go_keep) (first
    | (go_at_call 81
       first | with_reducible refine T1.out.mono ?_ | with_reducible refine T2.out.mono ?_
       rintro r u1 ⟨rfl, hb⟩
       have hb1 : Below W1.heap.size W1 u1 := by first | exact hb | exact ((Below.refl _ W1).drew).trans (hb.mono (Nat.le_refl _))
       have hs2 : W1.heap.size ≤ u1.heap.size := hb1.size
       have BW : Below w.heap.size w u1 := SB.out.1.trans (hb1.mono (by omega))
       have HA1 := hid (HA.out u1 BW)
       have KR := SB.out.2.2.2.below hb1
       obtain ⟨p0, p1, p2, pf0, pf1, pf2⟩ := KR.facts
       obtain ⟨q0, q1, q2, qf0, qf1, qf2⟩ := (SB.out.2.1.below hb1).facts
       obtain ⟨s0, s1, s2, sf0, sf1, sf2⟩ := (SB.out.2.2.1.below hb1).facts
       have S1 := (Aside.intro (And.intro BW (And.intro KR (And.intro (SB.out.2.1.below hb1) (SB.out.2.2.1.below hb1)))))
       clear hb hb1 KR BW)
    | (go_at_call 28
       with_reducible refine HA1.out.mono ?_
       rintro r u2 ⟨⟨v, rfl, hN⟩, hb⟩
       obtain ⟨a4, c4, rfl, _⟩ := hN.arg (by omega)
       have LR := S1.out.2.1.below hb
       obtain ⟨t0, t1, t2, tf0, tf1, tf2⟩ := LR.facts
       obtain ⟨i0, i1, i2, if0, if1, if2⟩ := (S1.out.2.2.1.below hb).facts
       obtain ⟨j0, j1, j2, jf0, jf1, jf2⟩ := (S1.out.2.2.2.below hb).facts
       have FV := Aside.intro (show Fin w.heap.size (w.heap.size + 3) w u2 (.slice a4 (ws V).length c4) V from ⟨hN.mono (by omega), S1.out.1.trans (hb.mono (by omega)), by have := hb.size; omega⟩)
       have S10 := Aside.intro LR
       clear hN hb LR))
  all_goals (
    go_wp2
    refine bodyPost_ret (sub_res _ (w.heap.size + 1 + 1) dn (.slice a4 (ws V).length c4) de er _ rfl rfl (S10.out.set _ _ _)) rfl ?_
    refine Fin.dans (m := w.heap.size + 3) ?_ (by omega)
    repeat (with_reducible first | exact FV.out | refine Fin.drew ?_ | refine Fin.alloc ?_ _ | refine Fin.set ?_ _ _ _ (by omega) (by omega)))

set_option maxHeartbeats 4000000 in
theorem rsub_core {w : World} {a b : Option Addr} {l c k d : Nat} (n m : Bool) (e f : Int) (dn : Bool) (V : Nat) (de er : Int) (lV : (ws V).length ≤ 8192)
    (HT : Hid (∀ u, Calls Tryd.prog 87 #[.agg #[.bool m, .slice b k d, .int .i64 f]] u fun r w' => r = .returned (.agg #[.bool (!m), .slice b k d, .int .i64 f]) ∧ Below u.heap.size u w'))
    (HA : Hid (∀ u, Below w.heap.size w u → Calls Tryd.prog 31 #[.agg #[.bool n, .slice a l c, .int .i64 e], .agg #[.bool (!m), .slice b k d, .int .i64 f]] u fun r w' => (∃ v, r = .returned (.tuple #[.agg #[.bool dn, v, .int .i64 de], .int .i64 er]) ∧ Nt u.heap.size w' v V) ∧ Below u.heap.size u w')) :
    Calls Tryd.prog 32 #[.agg #[.bool n, .slice a l c, .int .i64 e], .agg #[.bool m, .slice b k d, .int .i64 f]] w fun r w' => (∃ v, r = .returned (.tuple #[.agg #[.bool dn, v, .int .i64 de], .int .i64 er]) ∧ Nt w.heap.size w' v V) ∧ Below w.heap.size w w' := by
  obtain ⟨W1, hW1⟩ : ∃ W, W = ((w.alloc (.cells #[.bool n, .slice a l c, .int .i64 e] 39)).alloc (.cells #[.bool m, .slice b k d, .int .i64 f] 39)).alloc (.cells #[.bool false, .slice none 0 0, .int .i64 0] 39) := ⟨_, rfl⟩
  obtain ⟨hB, hz1, DA, DB, DR⟩ := add_begin w n m (.slice a l c) (.slice b k d) e f W1 hW1
  have T1 := hid (HT.out W1)
  have T2 := hid (HT.out W1.drew)
  obtain ⟨x0, x1, x2, xf0, xf1, xf2⟩ := DA.facts
  obtain ⟨y0, y1, y2, yf0, yf1, yf2⟩ := DB.facts
  obtain ⟨r0, r1, r2, rf0, rf1, rf2⟩ := DR.facts
  have hs1 : w.heap.size + 3 ≤ W1.heap.size := by omega
  have SB := (Aside.intro (And.intro hB (And.intro DA (And.intro DB DR))))
  clear hB hz1 DA DB DR
  go_enter Tryd.func32, Tryd.ntmps32
  go_wp2_with fail
  rw [← hW1]
  clear hW1
  have ne1 : w.heap.size ≠ w.heap.size + 1 + 1 := by omega
  have ne2 : w.heap.size + 1 ≠ w.heap.size + 1 + 1 := by omega
  have ne3 : w.heap.size + 1 + 1 ≠ w.heap.size := by omega
  have ne4 : w.heap.size + 1 + 1 ≠ w.heap.size + 1 := by omega
  go_region_held3 (fun w' => w'.cell? ⟨w.heap.size, 0, none⟩ = some (.bool n) ∧ w'.cell? ⟨w.heap.size, 1, none⟩ = some (.slice a l c) ∧ w'.cell? ⟨w.heap.size, 2, none⟩ = some (.int .i64 e) ∧ w'.cell? ⟨w.heap.size + 1, 0, none⟩ = some (.bool m) ∧ w'.cell? ⟨w.heap.size + 1, 1, none⟩ = some (.slice b k d) ∧ w'.cell? ⟨w.heap.size + 1, 2, none⟩ = some (.int .i64 f)) (go_keep) (first
    | (go_at_call 87
       first | with_reducible refine T1.out.mono ?_ | with_reducible refine T2.out.mono ?_
       rintro r u1 ⟨rfl, hb⟩
       have hb1 : Below W1.heap.size W1 u1 := by first | exact hb | exact ((Below.refl _ W1).drew).trans (hb.mono (Nat.le_refl _))
       have hs2 : W1.heap.size ≤ u1.heap.size := hb1.size
       have BW : Below w.heap.size w u1 := SB.out.1.trans (hb1.mono (by omega))
       have HA1 := hid (HA.out u1 BW)
       have KR := SB.out.2.2.2.below hb1
       obtain ⟨p0, p1, p2, pf0, pf1, pf2⟩ := KR.facts
       obtain ⟨q0, q1, q2, qf0, qf1, qf2⟩ := (SB.out.2.1.below hb1).facts
       obtain ⟨s0, s1, s2, sf0, sf1, sf2⟩ := (SB.out.2.2.1.below hb1).facts
       have S1 := (Aside.intro (And.intro BW (And.intro KR (And.intro (SB.out.2.1.below hb1) (SB.out.2.2.1.below hb1)))))
       clear hb hb1 KR BW)
    | (go_at_call 31
       with_reducible refine HA1.out.mono ?_
       rintro r u2 ⟨⟨v, rfl, hN⟩, hb⟩
       obtain ⟨a4, c4, rfl, _⟩ := hN.arg (by omega)
       have LR := S1.out.2.1.below hb
       obtain ⟨t0, t1, t2, tf0, tf1, tf2⟩ := LR.facts
       obtain ⟨i0, i1, i2, if0, if1, if2⟩ := (S1.out.2.2.1.below hb).facts
       obtain ⟨j0, j1, j2, jf0, jf1, jf2⟩ := (S1.out.2.2.2.below hb).facts
       have FV := Aside.intro (show Fin w.heap.size (w.heap.size + 3) w u2 (.slice a4 (ws V).length c4) V from ⟨hN.mono (by omega), S1.out.1.trans (hb.mono (by omega)), by have := hb.size; omega⟩)
       have S10 := Aside.intro LR
       clear hN hb LR))
  all_goals (
    go_wp2
    refine bodyPost_ret (rsub_res _ (w.heap.size + 1 + 1) dn (.slice a4 (ws V).length c4) de er _ rfl rfl (S10.out.set _ _ _)) rfl ?_
    refine Fin.dans (m := w.heap.size + 3) ?_ (by omega)
    repeat (with_reducible first | exact FV.out | refine Fin.drew ?_ | refine Fin.alloc ?_ _ | refine Fin.set ?_ _ _ _ (by omega) (by omega)))


theorem addUp_len (n : Bool) (X : Nat) (e : Int) (m : Bool) (Y : Nat) (f : Int) : (ws (dX (addUp n X e m Y f))).length ≤ 8192 := by
  unfold addUp
  split
  · show (ws 0).length ≤ 8192; rw [ws_zero]; exact Nat.zero_le _
  · split
    · exact mkS_len _ _ _
    · split <;> exact mkS_len _ _ _
theorem addD_len (n : Bool) (X : Nat) (e : Int) (m : Bool) (Y : Nat) (f : Int) : (ws (dX (addD (mkS n X e) (mkS m Y f)))).length ≤ 8192 := by
  have z0 : (ws 0).length ≤ 8192 := by rw [ws_zero]; exact Nat.zero_le _
  cases hx : mkS n X e with
  | none => exact z0
  | some x =>
    cases hy : mkS m Y f with
    | none => exact z0
    | some y =>
      obtain ⟨n1, X1, e1⟩ := x
      obtain ⟨m1, Y1, f1⟩ := y
      show (ws (dX (addF _ _))).length ≤ 8192
      unfold addF
      split
      · exact frm_len (mkS_frm hy)
      · split
        · exact frm_len (mkS_frm hx)
        · split <;> exact addUp_len _ _ _ _ _ _
theorem mulD_len (n : Bool) (X : Nat) (e : Int) (m : Bool) (Y : Nat) (f : Int) : (ws (dX (mulD (mkS n X e) (mkS m Y f)))).length ≤ 8192 := by
  have z0 : (ws 0).length ≤ 8192 := by rw [ws_zero]; exact Nat.zero_le _
  cases hx : mkS n X e with
  | none => exact z0
  | some x =>
    cases hy : mkS m Y f with
    | none => exact z0
    | some y => exact mkS_len _ _ _
theorem mulD_comm (o p : Option (Bool × Nat × Int)) : mulD o p = mulD p o := by
  cases o with
  | none => cases p <;> rfl
  | some x =>
    cases p with
    | none => rfl
    | some y =>
      obtain ⟨n1, X, e1⟩ := x
      obtain ⟨m1, Y, f1⟩ := y
      show mkS (n1 != m1) (X * Y) (e1 + f1) = mkS (m1 != n1) (Y * X) (f1 + e1)
      rw [Nat.mul_comm, Int.add_comm, show (n1 != m1) = (m1 != n1) by cases n1 <;> cases m1 <;> rfl]
theorem mkS_z2 (n m : Bool) (e f : Int) : mkS n 0 e = mkS m 0 f := by unfold mkS; rw [if_pos rfl, if_pos rfl]
theorem notb {n m : Bool} (h : ¬ n = m) : m = (!n) ∧ n = (!m) ∧ ¬ m = n := by
  cases n <;> cases m <;> first | exact absurd rfl h | exact ⟨rfl, rfl, fun h => by cases h⟩
theorem addF_comm {n m : Bool} {X Y : Nat} {e f : Int} (FX : Frm n X e) (FY : Frm m Y f) : addF (n, X, e) (m, Y, f) = addF (m, Y, f) (n, X, e) := by
  unfold addF
  simp only
  by_cases hX : X = 0
  · rw [if_pos hX]
    by_cases hY : Y = 0
    · rw [if_pos hY]
      have h1 : n = false ∧ e = 0 := by rcases FX.odd with h | h; omega; exact h.2
      have h2 : m = false ∧ f = 0 := by rcases FY.odd with h | h; omega; exact h.2
      rw [hX, hY, h1.1, h1.2, h2.1, h2.2]
    · rw [if_neg hY, if_pos hX]
  · rw [if_neg hX]
    by_cases hY : Y = 0
    · rw [if_pos hY, if_pos hY]
    · rw [if_neg hY, if_neg hY, if_neg hX]
      by_cases h1 : e < f
      · rw [if_pos h1, if_neg (by omega)]
      · rw [if_neg h1]
        by_cases h2 : f < e
        · rw [if_pos h2]
        · obtain rfl : e = f := by omega
          rw [if_neg h2]
          unfold addUp
          have s1 := FX.size
          have s2 := FY.size
          rw [Int.sub_self, show (0 : Int).toNat = 0 from rfl, Nat.pow_zero, Nat.mul_one, Nat.mul_one, if_neg (show ¬ 262144 < bl X + 0 by omega), if_neg (show ¬ 262144 < bl Y + 0 by omega)]
          by_cases hnm : n = m
          · rw [if_pos hnm, if_pos hnm.symm, hnm, Nat.add_comm]
          · obtain ⟨hm, hn, hmn⟩ := notb hnm
            rw [if_neg hnm, if_neg hmn]
            rcases Nat.lt_trichotomy X Y with h | h | h
            · rw [if_neg (show ¬ Y ≤ X by omega), if_pos (show X ≤ Y by omega), ← hm]
            · subst h
              simp only [Nat.le_refl, if_true, Nat.sub_self]
              exact mkS_z2 _ _ _ _
            · rw [if_pos (show Y ≤ X by omega), if_neg (show ¬ X ≤ Y by omega), ← hn]
theorem addD_comm (n : Bool) (X : Nat) (e : Int) (m : Bool) (Y : Nat) (f : Int) : addD (mkS n X e) (mkS m Y f) = addD (mkS m Y f) (mkS n X e) := by
  cases hx : mkS n X e with
  | none => cases mkS m Y f <;> rfl
  | some x =>
    cases hy : mkS m Y f with
    | none => rfl
    | some y =>
      obtain ⟨n1, X1, e1⟩ := x
      obtain ⟨m1, Y1, f1⟩ := y
      exact addF_comm (mkS_frm hx) (mkS_frm hy)

theorem rAdd_any3 {w : World} {a b : Option Addr} {l c k d : Nat} {xs ys : List Nat} (h1 : Arg w a l c xs) (h2 : Arg w b k d ys) (hl : l ≤ 2000000) (hk : k ≤ 2000000) (n m : Bool) (e f : Int) (he0 : -9223372036854775808 ≤ e) (he1 : e ≤ 9223372036854775807) (hf0 : -9223372036854775808 ≤ f) (hf1 : f ≤ 9223372036854775807) :
    Calls Tryd.prog 31 #[.agg #[.bool n, .slice a l c, .int .i64 e], .agg #[.bool m, .slice b k d, .int .i64 f]] w fun r w' => DAns w.heap.size w' r (addD (mkS n (val xs) e) (mkS m (val ys) f)) ∧ Below w.heap.size w w' := by
  have zero : ∀ {r : Ending} {w' : World}, (r = .returned (.tuple #[.agg #[.bool false, .slice none 0 0, .int .i64 0], .int .i64 2]) ∧ Below w.heap.size w w') → DAns w.heap.size w' r none ∧ Below w.heap.size w w' := fun ⟨h1, h2⟩ => ⟨⟨_, h1, Nt.nil _ _⟩, h2⟩
  have M1 := hid fun u (hu : Below w.heap.size w u) => rMade_any (h1.below hu) hl n e he0 he1
  have M2 := hid fun u (hu : Below w.heap.size w u) => rMade_any (h2.below hu) hk m f hf0 hf1
  have z0 : (ws 0).length ≤ 8192 := by rw [ws_zero]; exact Nat.zero_le _
  cases hx : mkS n (val xs) e with
  | none =>
    cases hy : mkS m (val ys) f with
    | none =>
      rw [hx] at M1; rw [hy] at M2
      exact (radd_ff n m e f false false 0 0 0 0 z0 z0 M1 M2).mono fun r w' h => zero h
    | some y =>
      obtain ⟨m1, Y, f1⟩ := y
      rw [hx] at M1; rw [hy] at M2
      exact (radd_ft n m e f false m1 0 Y 0 f1 z0 (frm_len (mkS_frm hy)) M1 M2).mono fun r w' h => zero h
  | some x =>
    obtain ⟨n1, X, e1⟩ := x
    cases hy : mkS m (val ys) f with
    | none =>
      rw [hx] at M1; rw [hy] at M2
      exact (radd_tf n m e f n1 false X 0 e1 0 (frm_len (mkS_frm hx)) z0 M1 M2).mono fun r w' h => zero h
    | some y =>
      obtain ⟨m1, Y, f1⟩ := y
      rw [hx] at M1; rw [hy] at M2
      have FX := mkS_frm hx
      have FY := mkS_frm hy
      have lX := frm_len FX
      have lY := frm_len FY
      have := FX.up; have := FX.down; have := FY.up; have := FY.down
      show Calls _ _ _ _ fun r w' => DAns w.heap.size w' r (addF (n1, X, e1) (m1, Y, f1)) ∧ _
      unfold addF
      simp only
      by_cases hX0 : X = 0
      · rw [if_pos hX0]
        exact radd_left n m e f n1 m1 X Y e1 f1 lX lY ((ws_len_zero X).2 hX0) M1 M2
      · rw [if_neg hX0]
        by_cases hY0 : Y = 0
        · rw [if_pos hY0]
          exact radd_right n m e f n1 m1 X Y e1 f1 lX lY (len_ne hX0) ((ws_len_zero Y).2 hY0) M1 M2
        · rw [if_neg hY0]
          obtain ⟨g, hg⟩ : ∃ g, min e1 f1 = g := ⟨_, rfl⟩
          have hg2 : g = f1 ∧ f1 < e1 ∨ g = e1 ∧ e1 ≤ f1 := by omega
          have up : ∀ (d : Int) (Z : Nat), 0 ≤ d → (if d < 0 then Z / 2 ^ (-d).toNat else Z * 2 ^ d.toNat) = Z * 2 ^ d.toNat := fun d Z h => if_neg (by omega)
          obtain ⟨P, hP⟩ : ∃ P, X * 2 ^ (e1 - g).toNat = P := ⟨_, rfl⟩
          obtain ⟨Q, hQ⟩ : ∃ Q, Y * 2 ^ (f1 - g).toNat = Q := ⟨_, rfl⟩
          have HP : Hid (∀ (u : World) (v : Value), Below w.heap.size w u → Nt (w.heap.size + 3) u v X → Calls Tryd.prog 83 #[v, .int .i64 (e1 - g)] u fun r w' => ∃ v, r = .returned v ∧ Nt u.heap.size w' v P ∧ Below u.heap.size u w') := fun u v hu hN => by
            have := moved_any hN (e1 - g) (by omega) (by omega) hX0 (by omega)
            rw [up _ _ (by omega), hP] at this
            exact this
          have HQ : Hid (∀ (u : World) (v : Value), Below w.heap.size w u → Nt (w.heap.size + 3) u v Y → Calls Tryd.prog 83 #[v, .int .i64 (f1 - g)] u fun r w' => ∃ v, r = .returned v ∧ Nt u.heap.size w' v Q ∧ Below u.heap.size u w') := fun u v hu hN => by
            have := moved_any hN (f1 - g) (by omega) (by omega) hY0 (by omega)
            rw [up _ _ (by omega), hQ] at this
            exact this
          have bP : bl P = bl X + (e1 - g).toNat := by rw [← hP]; exact bl_up _ _ hX0
          have bQ : bl Q = bl Y + (f1 - g).toNat := by rw [← hQ]; exact bl_up _ _ hY0
          have s1 := FX.size
          have s2 := FY.size
          have wP := ws_len_bl P
          have wQ := ws_len_bl Q
          have kind : (if e1 < f1 then addUp m1 Y f1 n1 X e1 else addUp n1 X e1 m1 Y f1) = (if 8192 < (ws P).length ∨ 8192 < (ws Q).length then none else if n1 = m1 then mkS n1 (P + Q) g else if Q ≤ P then mkS n1 (P - Q) g else mkS m1 (Q - P) g) := by
            rcases hg2 with ⟨rfl, h⟩ | ⟨rfl, h⟩
            · rw [if_neg (by omega)]
              rw [Int.sub_self, show (0 : Int).toNat = 0 from rfl, Nat.pow_zero, Nat.mul_one] at hQ
              subst hQ
              unfold addUp
              rw [hP]
              by_cases hL : 262144 < bl X + (e1 - g).toNat
              · rw [if_pos hL, if_pos (.inl (by omega))]
              · rw [if_neg hL, if_neg (show ¬ (8192 < (ws P).length ∨ 8192 < (ws Y).length) by omega)]
                by_cases hs : n1 = m1
                · rw [if_pos hs, if_pos hs]
                · rw [if_neg hs, if_neg hs, ← (notb hs).1]
            · rw [Int.sub_self, show (0 : Int).toNat = 0 from rfl, Nat.pow_zero, Nat.mul_one] at hP
              subst hP
              by_cases he : g < f1
              · rw [if_pos he]
                unfold addUp
                rw [hQ]
                by_cases hL : 262144 < bl Y + (f1 - g).toNat
                · rw [if_pos hL, if_pos (.inr (by omega))]
                · rw [if_neg hL, if_neg (show ¬ (8192 < (ws X).length ∨ 8192 < (ws Q).length) by omega)]
                  by_cases hs : m1 = n1
                  · rw [if_pos hs, if_pos hs.symm, hs, Nat.add_comm]
                  · rw [if_neg hs, if_neg (notb hs).2.2, ← (notb hs).1]
                    rcases Nat.lt_trichotomy X Q with q | q | q
                    · rw [if_pos (show X ≤ Q by omega), if_neg (show ¬ Q ≤ X by omega)]
                    · rw [q]
                      simp only [Nat.le_refl, if_true, Nat.sub_self]
                      exact mkS_z2 _ _ _ _
                    · rw [if_neg (show ¬ X ≤ Q by omega), if_pos (show Q ≤ X by omega)]
              · obtain rfl : g = f1 := by omega
                rw [if_neg he]
                rw [Int.sub_self, show (0 : Int).toNat = 0 from rfl, Nat.pow_zero, Nat.mul_one] at hQ
                subst hQ
                unfold addUp
                rw [Int.sub_self, show (0 : Int).toNat = 0 from rfl, Nat.pow_zero, Nat.mul_one, if_neg (show ¬ 262144 < bl X + 0 by omega), if_neg (show ¬ (8192 < (ws X).length ∨ 8192 < (ws Y).length) by omega)]
                by_cases hs : n1 = m1
                · rw [if_pos hs, if_pos hs]
                · rw [if_neg hs, if_neg hs, ← (notb hs).1]
          rw [kind]
          clear kind
          have cmpz : ∀ u p q s t, Arg u p (ws P).length s (ws P) → Arg u q (ws Q).length t (ws Q) → Calls Tryd.prog 85 #[.slice p (ws P).length s, .slice q (ws Q).length t] u fun r w' => r = .returned (.int .i64 (cmpI P Q)) ∧ Below u.heap.size u w' := fun u p q s t hA hB => rCmp_arg hA hB (cmpI P Q) (by rw [val_ws, val_ws])
          by_cases c1 : 8192 < (ws P).length
          · rw [if_pos (.inl c1)]
            exact (radd_lp n m e f n1 m1 X Y e1 f1 lX lY (len_ne hX0) (len_ne hY0) (by omega) (by omega) (by omega) (by omega) g hg (by omega) (by omega) P Q (by omega) (by omega) c1 M1 M2 HP HQ).mono fun r w' h => zero h
          · by_cases c2 : 8192 < (ws Q).length
            · rw [if_pos (.inr c2)]
              exact (radd_lq n m e f n1 m1 X Y e1 f1 lX lY (len_ne hX0) (len_ne hY0) (by omega) (by omega) (by omega) (by omega) g hg (by omega) (by omega) P Q (by omega) (by omega) (by omega) c2 M1 M2 HP HQ).mono fun r w' h => zero h
            · rw [if_neg (by omega)]
              by_cases hs : n1 = m1
              · rw [if_pos hs]
                have lL : (ws (P + Q)).length ≤ 8193 := by
                  have h1 : P < pw 8192 := (ws_len_le _ _).1 (by omega)
                  have h2 : Q < pw 8192 := (ws_len_le _ _).1 (by omega)
                  exact (ws_len_le _ _).2 (pw_add_lt h1 h2)
                exact radd_sum n m e f n1 m1 X Y e1 f1 lX lY (len_ne hX0) (len_ne hY0) (by omega) (by omega) (by omega) (by omega) g hg (by omega) (by omega) P Q (by omega) (by omega) (by omega) (by omega) (by simp [hs]) (P + Q) (by omega) _ _ _ _ (mkS_len n1 (P + Q) g) M1 M2 HP HQ
                  (hid fun u p q s t hu hA hB => rPlus_arg hA hB (by omega) (by omega) (by rw [val_ws, val_ws]))
                  (hid fun u p s hu hA => by have := rtold_any hA (by omega) n1 g (by omega) (by omega); rw [val_ws] at this; exact this)
              · rw [if_neg hs]
                by_cases hq : Q ≤ P
                · rw [if_pos hq]
                  have lL : (ws (P - Q)).length ≤ 8192 := (ws_len_le _ _).2 (Nat.lt_of_le_of_lt (Nat.sub_le _ _) ((ws_len_le P 8192).1 (by omega)))
                  have hz : 0 ≤ cmpI P Q := by unfold cmpI; rw [if_neg (by omega)]; split <;> omega
                  exact radd_ge n m e f n1 m1 X Y e1 f1 lX lY (len_ne hX0) (len_ne hY0) (by omega) (by omega) (by omega) (by omega) g hg (by omega) (by omega) P Q (by omega) (by omega) (by omega) (by omega) (by simp [hs]) (cmpI P Q) hz (P - Q) (by omega) _ _ _ _ (mkS_len n1 (P - Q) g) M1 M2 HP HQ
                    (hid fun u p q s t hu hA hB => cmpz u p q s t hA hB)
                    (hid fun u p q s t hu hA hB => rMinus_arg hA hB (by omega) (by omega) (by rw [val_ws, val_ws]; omega))
                    (hid fun u p s hu hA => by have := rtold_any hA (by omega) n1 g (by omega) (by omega); rw [val_ws] at this; exact this)
                · rw [if_neg hq]
                  have lL : (ws (Q - P)).length ≤ 8192 := (ws_len_le _ _).2 (Nat.lt_of_le_of_lt (Nat.sub_le _ _) ((ws_len_le Q 8192).1 (by omega)))
                  have hz : cmpI P Q < 0 := by unfold cmpI; rw [if_pos (by omega)]; omega
                  exact radd_lt n m e f n1 m1 X Y e1 f1 lX lY (len_ne hX0) (len_ne hY0) (by omega) (by omega) (by omega) (by omega) g hg (by omega) (by omega) P Q (by omega) (by omega) (by omega) (by omega) (by simp [hs]) (cmpI P Q) hz (Q - P) (by omega) _ _ _ _ (mkS_len m1 (Q - P) g) M1 M2 HP HQ
                    (hid fun u p q s t hu hA hB => cmpz u p q s t hA hB)
                    (hid fun u p q s t hu hA hB => rMinus_arg hA hB (by omega) (by omega) (by rw [val_ws, val_ws]; omega))
                    (hid fun u p s hu hA => by have := rtold_any hA (by omega) m1 g (by omega) (by omega); rw [val_ws] at this; exact this)

theorem Sub_any3 {w : World} {a b : Option Addr} {l c k d : Nat} {xs ys : List Nat} (h1 : Arg w a l c xs) (h2 : Arg w b k d ys) (hT : Tab w) (n m : Bool) (e f : Int) (he0 : -9223372036854775808 ≤ e) (he1 : e ≤ 9223372036854775807) (hf0 : -9223372036854775808 ≤ f) (hf1 : f ≤ 9223372036854775807) :
    Calls Tryd.prog 29 #[.agg #[.bool n, .slice a l c, .int .i64 e], .agg #[.bool m, .slice b k d, .int .i64 f]] w fun r w' => DAns w.heap.size w' r (addD (mkS n (val xs) e) (mkS (!m) (val ys) f)) ∧ Below w.heap.size w w' :=
  sub_core n m e f _ _ _ _ (addD_len n (val xs) e (!m) (val ys) f) (hid fun u => turned_any b k d m f u) (hid fun u hu => Add_any3 (h1.below hu) (h2.below hu) (hT.belows hu) n (!m) e f he0 he1 hf0 hf1)
theorem rSub_any3 {w : World} {a b : Option Addr} {l c k d : Nat} {xs ys : List Nat} (h1 : Arg w a l c xs) (h2 : Arg w b k d ys) (hl : l ≤ 2000000) (hk : k ≤ 2000000) (n m : Bool) (e f : Int) (he0 : -9223372036854775808 ≤ e) (he1 : e ≤ 9223372036854775807) (hf0 : -9223372036854775808 ≤ f) (hf1 : f ≤ 9223372036854775807) :
    Calls Tryd.prog 32 #[.agg #[.bool n, .slice a l c, .int .i64 e], .agg #[.bool m, .slice b k d, .int .i64 f]] w fun r w' => DAns w.heap.size w' r (addD (mkS n (val xs) e) (mkS (!m) (val ys) f)) ∧ Below w.heap.size w w' :=
  rsub_core n m e f _ _ _ _ (addD_len n (val xs) e (!m) (val ys) f) (hid fun u => rturned_any b k d m f u) (hid fun u hu => rAdd_any3 (h1.below hu) (h2.below hu) hl hk n (!m) e f he0 he1 hf0 hf1)
end Go.Proofs.YthilnddhehbjiaaDoor
