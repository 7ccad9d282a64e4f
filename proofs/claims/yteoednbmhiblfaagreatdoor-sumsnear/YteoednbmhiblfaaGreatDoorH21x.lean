/- The law's off: its chain of calls. -/
import Derived.Test.YteoednbmhiblfaaGreatDoorH11x
import Derived.Test.YteoednbmhiblfaaGreatDoorW43x
import Derived.Test.YteoednbmhiblfaaGreatDoorD8x
import Derived.Test.YteoednbmhiblfaaGreatDoorJ14x
import Derived.Test.YteoednbmhiblfaaGreatDoorD21x
import Derived.Test.YteoednbmhiblfaaGreatDoorD16x
import Derived.Test.YteoednbmhiblfaaGreatDoorD32dx
import Derived.Test.YteoednbmhiblfaaGreatDoorH6x
namespace Go.Proofs.YteoednbmhiblfaaGreatDoor
open Go.RowKit
set_option linter.unusedVariables false
set_option maxRecDepth 20000
set_option linter.unusedSimpArgs false

theorem st3_but10 (g : Nat) (u : World) (x y z : Value) : But g u (st3 u g x y z) := (((But.refl g u).set 0 x).set 1 y).set 2 z
theorem Nt.dk9 {lo : Nat} {w w' : World} {v : Value} {X : Nat} (h : Nt lo w v X) {g : Nat} {n : Bool} {u : Value} {e : Int} (hD : Dk w g n u e) (hb : But g w w') : Nt lo w' v X := by
  refine ⟨h.1, ?_⟩
  rcases h.2 with hn | ⟨g', cap, cur, rfl, hlo, hgc, rest⟩
  · exact .inl hn
  · refine .inr ⟨g', cap, cur, rfl, hlo, (hb.block g' (Array.getElem?_eq_some_iff.1 hgc).1 ?_).trans hgc, rest⟩
    rintro rfl
    unfold Dk at hD
    rw [hD] at hgc
    cases hgc
set_option maxHeartbeats 4000000 in
theorem off_pos (x n : Nat) (n1 n2 n3 n4 n5 nS nA : Bool) (X1 X2 X3 X4 X5 XS XA : Nat) (e1 e2 e3 e4 e5 eS eA sg cz : Int) (w : World) (p q : Option Addr) (cp cq : Nat)
    (l1 : (ws X1).length ≤ 8192) (l2 : (ws X2).length ≤ 8192) (l3 : (ws X3).length ≤ 8192) (l4 : (ws X4).length ≤ 8192) (l5 : (ws X5).length ≤ 8192)
    (A1 : Arg w p (ws XS).length cp (ws XS)) (A2 : Arg w q (ws XA).length cq (ws XA)) (hsg : decide (sg < 0) = false) (bz : Bool) (hcz : decide (cz ≤ 0) = bz) (hn : n ≤ 300)
    (HO : Hid (∀ u : World, Below w.heap.size w u → Calls Tryz.prog 21 #[.float .f64 x] u fun r w' => (∃ v, r = .returned (.tuple #[.agg #[.bool n1, v, .int .i64 e1], .int .i64 0]) ∧ Nt u.heap.size w' v X1) ∧ Below u.heap.size u w'))
    (HS : Hid (∀ (u : World) (a b : Option Addr) (c d : Nat), Below w.heap.size w u → Arg u a (ws X1).length c (ws X1) → Arg u b (ws XS).length d (ws XS) → Calls Tryz.prog 56 #[.agg #[.bool n1, .slice a (ws X1).length c, .int .i64 e1], .agg #[.bool nS, .slice b (ws XS).length d, .int .i64 eS]] u fun r w' => (∃ v, r = .returned (.tuple #[.agg #[.bool n2, v, .int .i64 e2], .int .i64 0]) ∧ Nt u.heap.size w' v X2) ∧ Below u.heap.size u w'))
    (HG : Hid (∀ (u : World) (a : Option Addr) (c : Nat), Arg u a (ws X2).length c (ws X2) → Calls Tryz.prog 23 #[.agg #[.bool n2, .slice a (ws X2).length c, .int .i64 e2]] u fun r w' => r = .returned (.int .i64 sg) ∧ Below u.heap.size u w'))
    (HM : Hid (∀ (u : World) (a : Option Addr), Below w.heap.size w u → Arg u a 1 1 [n] → Calls Tryz.prog 47 #[.bool false, .slice a 1 1, .int .i64 (-53)] u fun r w' => (∃ v, r = .returned (.tuple #[.agg #[.bool n4, v, .int .i64 e4], .int .i64 0]) ∧ Nt u.heap.size w' v X4) ∧ Below u.heap.size u w'))
    (HP : Hid (∀ (u : World) (a b : Option Addr) (c d : Nat), Below w.heap.size w u → Arg u a (ws X4).length c (ws X4) → Arg u b (ws XA).length d (ws XA) → Calls Tryz.prog 57 #[.agg #[.bool n4, .slice a (ws X4).length c, .int .i64 e4], .agg #[.bool nA, .slice b (ws XA).length d, .int .i64 eA]] u fun r w' => (∃ v, r = .returned (.tuple #[.agg #[.bool n5, v, .int .i64 e5], .int .i64 0]) ∧ Nt u.heap.size w' v X5) ∧ Below u.heap.size u w'))
    (HC : Hid (∀ (u : World) (a b : Option Addr) (c d : Nat), Arg u a (ws X2).length c (ws X2) → Arg u b (ws X5).length d (ws X5) → Calls Tryz.prog 58 #[.agg #[.bool n2, .slice a (ws X2).length c, .int .i64 e2], .agg #[.bool n5, .slice b (ws X5).length d, .int .i64 e5]] u fun r w' => r = .returned (.int .i64 cz) ∧ Below u.heap.size u w'))
    :
    Calls Tryz.prog 25 #[.float .f64 x, .agg #[.bool nS, .slice p (ws XS).length cp, .int .i64 eS], .int .i64 (n : Nat), .agg #[.bool nA, .slice q (ws XA).length cq, .int .i64 eA]] w fun r w' => r = .returned (.bool bz) ∧ Below w.heap.size w w' := by
  have HAr := Aside.intro (And.intro A1 (And.intro A2 (And.intro l1 (And.intro l2 (And.intro l3 (And.intro l4 l5))))))
  obtain ⟨W, hW⟩ : ∃ W, W = (w.alloc (Obj.cells #[.bool nS, .slice p (ws XS).length cp, .int .i64 eS] 37)).alloc (Obj.cells #[.bool nA, .slice q (ws XA).length cq, .int .i64 eA] 37) := ⟨_, rfl⟩
  have HW : Aside (Dk W w.heap.size nS (.slice p (ws XS).length cp) eS ∧ Dk W (w.heap.size + 1) nA (.slice q (ws XA).length cq) eA ∧ Below w.heap.size w W ∧ w.heap.size + 1 < W.heap.size) := by
    rw [hW]
    have h2 := Dk.new (w.alloc (Obj.cells #[.bool nS, .slice p (ws XS).length cp, .int .i64 eS] 37)) nA (.slice q (ws XA).length cq) eA
    rw [World.size_alloc] at h2
    exact ⟨(Dk.new _ _ _ _).alloc _, h2, (below_alloc _ _).trans ((below_alloc _ _).mono (by simp)), by simp⟩
  have hnw : IntKind.u32.wrap (n : Int) = (n : Int) := by rw [IntKind.wrap_u32]; omega
  have hsz : w.heap.size ≠ w.heap.size + 1 := by omega
  clear A1 A2 l1 l2 l3 l4 l5
  go_enter Tryz.func25, Tryz.ntmps25
  go_wp2_with fail
  rw [← hW]
  clear hW
  refine (HO.out _ HW.out.2.2.1).mono ?_
  rintro r u1 ⟨⟨v1, rfl, hN1⟩, hb1⟩
  obtain ⟨a1, c1, rfl, _⟩ := hN1.arg (Nat.le_trans HAr.out.2.2.1 (by decide))
  obtain ⟨U1, hU1⟩ : ∃ U, U = u1.alloc (Obj.cells #[.bool n1, .slice a1 (ws X1).length c1, .int .i64 e1] 37) := ⟨_, rfl⟩
  have K1 : Aside (Dk U1 u1.heap.size n1 (.slice a1 (ws X1).length c1) e1 ∧ Nt 0 U1 (.slice a1 (ws X1).length c1) X1 ∧ Below W.heap.size W U1 ∧ W.heap.size ≤ u1.heap.size) := by
    rw [hU1]
    exact ⟨Dk.new _ _ _ _, (hN1.below (below_alloc _ _)).mono (Nat.zero_le _), hb1.trans ((below_alloc _ _).mono hb1.size), hb1.size⟩
  clear hN1 hb1 HO
  have s0 := (HW.out.1.below K1.out.2.2.1).facts
  have x0 := K1.out.1.facts
  have HU1 := Aside.intro hU1
  clear hU1
  obtain ⟨s0, s1, s2, _, _, _⟩ := s0
  obtain ⟨x0, x1, x2, _, _, _⟩ := x0
  go_upto_region 4 with fail
  rw [← HU1.out]
  go_wp2_with fail
  have b1 := HW.out.2.2.1.trans (K1.out.2.2.1.mono HW.out.2.2.1.size)
  refine (HS.out U1 a1 p c1 cp b1 (K1.out.2.1.arg' (Nat.le_trans HAr.out.2.2.1 (by decide))).2 (HAr.out.1.below b1)).mono ?_
  rintro r u2 ⟨⟨v2, rfl, hN2⟩, hb2⟩
  obtain ⟨a2, c2, rfl, _⟩ := hN2.arg (Nat.le_trans HAr.out.2.2.2.1 (by decide))
  obtain ⟨U2, hU2⟩ : ∃ U, U = u2.alloc (Obj.cells #[.bool n2, .slice a2 (ws X2).length c2, .int .i64 e2] 37) := ⟨_, rfl⟩
  have K2 : Aside (Dk U2 u2.heap.size n2 (.slice a2 (ws X2).length c2) e2 ∧ Nt 0 U2 (.slice a2 (ws X2).length c2) X2 ∧ Below w.heap.size w U2 ∧ Dk U2 (w.heap.size + 1) nA (.slice q (ws XA).length cq) eA ∧ w.heap.size + 1 < u2.heap.size) := by
    rw [hU2]
    have hs := K1.out.2.2.1.size
    have hw := HW.out.2.2.2
    refine ⟨Dk.new _ _ _ _, (hN2.below (below_alloc _ _)).mono (Nat.zero_le _), (b1.trans (hb2.mono b1.size)).trans ((below_alloc _ _).mono (Nat.le_trans b1.size hb2.size)), ((HW.out.2.1.below K1.out.2.2.1).below hb2).alloc _, by have := hb2.size; omega⟩
  clear hN2 hb2 HS b1 s0 s1 s2 x0 x1 x2 K1 HU1
  obtain ⟨y0, y1, y2, yf0, yf1, yf2⟩ := K2.out.1.facts
  have HU2 := Aside.intro hU2
  clear hU2
  go_upto_region 5 with fail
  rw [← HU2.out]
  clear HU2
  go_wp2_with fail
  refine (HG.out U2 a2 c2 (K2.out.2.1.arg' (Nat.le_trans HAr.out.2.2.2.1 (by decide))).2).mono ?_
  rintro r u3 ⟨rfl, hb3⟩
  have K3 := Aside.intro (And.intro (K2.out.1.below hb3) (And.intro (K2.out.2.1.below hb3) (And.intro (K2.out.2.2.1.trans (hb3.mono K2.out.2.2.1.size)) (And.intro (K2.out.2.2.2.1.below hb3) K2.out.2.2.2.2))))
  clear hb3 HG K2 y0 y1 y2 yf0 yf1 yf2
  obtain ⟨y0, y1, y2, yf0, yf1, yf2⟩ := K3.out.1.facts
  have K4 := K3
  go_upto_region 7 with fail
  clear K3 y0 y1 y2 yf0 yf1 yf2
  obtain ⟨V, hV⟩ : ∃ V, V = u3.alloc (.cells #[.int .u32 (n : Int)] 69) := ⟨_, rfl⟩
  have KV : Aside (Arg V (some ⟨u3.heap.size, 0, none⟩) 1 1 [n] ∧ Below u3.heap.size u3 V) := by
    rw [hV]; exact ⟨lit_arg _ n (by omega), below_alloc _ _⟩
  have HV := Aside.intro hV
  clear hV
  go_wp2_with fail
  rw [← HV.out]
  clear HV
  have bV := K4.out.2.2.1.trans (KV.out.2.mono K4.out.2.2.1.size)
  refine (HM.out V _ bV KV.out.1).mono ?_
  rintro r u5 ⟨⟨v4, rfl, hN4⟩, hb5⟩
  obtain ⟨a4, c4, rfl, _⟩ := hN4.arg (Nat.le_trans HAr.out.2.2.2.2.2.1 (by decide))
  obtain ⟨U5, hU5⟩ : ∃ U, U = u5.alloc (Obj.cells #[.bool n4, .slice a4 (ws X4).length c4, .int .i64 e4] 37) := ⟨_, rfl⟩
  have bU : Below u3.heap.size u3 u5 := KV.out.2.trans (hb5.mono KV.out.2.size)
  have K5 : Aside (Dk U5 u5.heap.size n4 (.slice a4 (ws X4).length c4) e4 ∧ Nt 0 U5 (.slice a4 (ws X4).length c4) X4 ∧ Below w.heap.size w U5 ∧ Dk U5 (w.heap.size + 1) nA (.slice q (ws XA).length cq) eA ∧ Dk U5 u2.heap.size n2 (.slice a2 (ws X2).length c2) e2 ∧ Nt 0 U5 (.slice a2 (ws X2).length c2) X2) := by
    rw [hU5]
    have b5 := bV.trans (hb5.mono bV.size)
    exact ⟨Dk.new _ _ _ _, (hN4.below (below_alloc _ _)).mono (Nat.zero_le _), b5.trans ((below_alloc _ _).mono b5.size), (K4.out.2.2.2.1.below bU).alloc _, (K4.out.1.below bU).alloc _, (K4.out.2.1.below bU).below (below_alloc _ _)⟩
  clear hN4 hb5 HM bV bU KV K4
  obtain ⟨p0, p1, p2, _, _, _⟩ := K5.out.1.facts
  obtain ⟨q0, q1, q2, _, _, _⟩ := K5.out.2.2.2.1.facts
  have HU5 := Aside.intro hU5
  clear hU5
  go_upto_region 8 with fail
  rw [← HU5.out]
  clear HU5
  go_wp2_with fail
  refine (HP.out U5 a4 q c4 cq K5.out.2.2.1 (K5.out.2.1.arg' (Nat.le_trans HAr.out.2.2.2.2.2.1 (by decide))).2 (HAr.out.2.1.below K5.out.2.2.1)).mono ?_
  rintro r u6 ⟨⟨v5, rfl, hN5⟩, hb6⟩
  obtain ⟨a5, c5, rfl, _⟩ := hN5.arg (Nat.le_trans HAr.out.2.2.2.2.2.2 (by decide))
  obtain ⟨U6, hU6⟩ : ∃ U, U = u6.alloc (Obj.cells #[.bool n5, .slice a5 (ws X5).length c5, .int .i64 e5] 37) := ⟨_, rfl⟩
  have K6 : Aside (Dk U6 u6.heap.size n5 (.slice a5 (ws X5).length c5) e5 ∧ Nt 0 U6 (.slice a5 (ws X5).length c5) X5 ∧ Below w.heap.size w U6 ∧ Dk U6 u2.heap.size n2 (.slice a2 (ws X2).length c2) e2 ∧ Nt 0 U6 (.slice a2 (ws X2).length c2) X2) := by
    rw [hU6]
    have b6 := K5.out.2.2.1.trans (hb6.mono K5.out.2.2.1.size)
    exact ⟨Dk.new _ _ _ _, (hN5.below (below_alloc _ _)).mono (Nat.zero_le _), b6.trans ((below_alloc _ _).mono b6.size), (K5.out.2.2.2.2.1.below hb6).alloc _, (K5.out.2.2.2.2.2.below hb6).below (below_alloc _ _)⟩
  clear hN5 hb6 HP p0 p1 p2 q0 q1 q2 K5
  obtain ⟨p0, p1, p2, _, _, _⟩ := K6.out.1.facts
  obtain ⟨q0, q1, q2, _, _, _⟩ := K6.out.2.2.2.1.facts
  have HU6 := Aside.intro hU6
  clear hU6
  go_upto_region 9 with fail
  rw [← HU6.out]
  clear HU6
  go_wp2_with fail
  refine (HC.out U6 a2 a5 c2 c5 (K6.out.2.2.2.2.arg' (Nat.le_trans HAr.out.2.2.2.1 (by decide))).2 (K6.out.2.1.arg' (Nat.le_trans HAr.out.2.2.2.2.2.2 (by decide))).2).mono ?_
  rintro r u7 ⟨rfl, hb7⟩
  have K7 := Aside.intro (K6.out.2.2.1.trans (hb7.mono K6.out.2.2.1.size))
  clear hb7 HC p0 p1 p2 q0 q1 q2
  go_wp2
  go_ret
  exact ⟨rfl, K7.out⟩
set_option maxHeartbeats 4000000 in
theorem off_neg (x n : Nat) (n1 n2 n3 n4 n5 nS nA : Bool) (X1 X2 X3 X4 X5 XS XA : Nat) (e1 e2 e3 e4 e5 eS eA sg cz : Int) (w : World) (p q : Option Addr) (cp cq : Nat)
    (l1 : (ws X1).length ≤ 8192) (l2 : (ws X2).length ≤ 8192) (l3 : (ws X3).length ≤ 8192) (l4 : (ws X4).length ≤ 8192) (l5 : (ws X5).length ≤ 8192)
    (A1 : Arg w p (ws XS).length cp (ws XS)) (A2 : Arg w q (ws XA).length cq (ws XA)) (hsg : decide (sg < 0) = true) (bz : Bool) (hcz : decide (cz ≤ 0) = bz) (hn : n ≤ 300)
    (HO : Hid (∀ u : World, Below w.heap.size w u → Calls Tryz.prog 21 #[.float .f64 x] u fun r w' => (∃ v, r = .returned (.tuple #[.agg #[.bool n1, v, .int .i64 e1], .int .i64 0]) ∧ Nt u.heap.size w' v X1) ∧ Below u.heap.size u w'))
    (HS : Hid (∀ (u : World) (a b : Option Addr) (c d : Nat), Below w.heap.size w u → Arg u a (ws X1).length c (ws X1) → Arg u b (ws XS).length d (ws XS) → Calls Tryz.prog 56 #[.agg #[.bool n1, .slice a (ws X1).length c, .int .i64 e1], .agg #[.bool nS, .slice b (ws XS).length d, .int .i64 eS]] u fun r w' => (∃ v, r = .returned (.tuple #[.agg #[.bool n2, v, .int .i64 e2], .int .i64 0]) ∧ Nt u.heap.size w' v X2) ∧ Below u.heap.size u w'))
    (HG : Hid (∀ (u : World) (a : Option Addr) (c : Nat), Arg u a (ws X2).length c (ws X2) → Calls Tryz.prog 23 #[.agg #[.bool n2, .slice a (ws X2).length c, .int .i64 e2]] u fun r w' => r = .returned (.int .i64 sg) ∧ Below u.heap.size u w'))
    (HN : Hid (∀ (u : World) (a : Option Addr) (c : Nat), Below w.heap.size w u → Arg u a (ws X2).length c (ws X2) → Calls Tryz.prog 24 #[.agg #[.bool n2, .slice a (ws X2).length c, .int .i64 e2]] u fun r w' => (∃ v, r = .returned (.agg #[.bool n3, v, .int .i64 e3]) ∧ Nt u.heap.size w' v X3) ∧ Below u.heap.size u w'))
    (HM : Hid (∀ (u : World) (a : Option Addr), Below w.heap.size w u → Arg u a 1 1 [n] → Calls Tryz.prog 47 #[.bool false, .slice a 1 1, .int .i64 (-53)] u fun r w' => (∃ v, r = .returned (.tuple #[.agg #[.bool n4, v, .int .i64 e4], .int .i64 0]) ∧ Nt u.heap.size w' v X4) ∧ Below u.heap.size u w'))
    (HP : Hid (∀ (u : World) (a b : Option Addr) (c d : Nat), Below w.heap.size w u → Arg u a (ws X4).length c (ws X4) → Arg u b (ws XA).length d (ws XA) → Calls Tryz.prog 57 #[.agg #[.bool n4, .slice a (ws X4).length c, .int .i64 e4], .agg #[.bool nA, .slice b (ws XA).length d, .int .i64 eA]] u fun r w' => (∃ v, r = .returned (.tuple #[.agg #[.bool n5, v, .int .i64 e5], .int .i64 0]) ∧ Nt u.heap.size w' v X5) ∧ Below u.heap.size u w'))
    (HC : Hid (∀ (u : World) (a b : Option Addr) (c d : Nat), Arg u a (ws X3).length c (ws X3) → Arg u b (ws X5).length d (ws X5) → Calls Tryz.prog 58 #[.agg #[.bool n3, .slice a (ws X3).length c, .int .i64 e3], .agg #[.bool n5, .slice b (ws X5).length d, .int .i64 e5]] u fun r w' => r = .returned (.int .i64 cz) ∧ Below u.heap.size u w'))
    :
    Calls Tryz.prog 25 #[.float .f64 x, .agg #[.bool nS, .slice p (ws XS).length cp, .int .i64 eS], .int .i64 (n : Nat), .agg #[.bool nA, .slice q (ws XA).length cq, .int .i64 eA]] w fun r w' => r = .returned (.bool bz) ∧ Below w.heap.size w w' := by
  have HAr := Aside.intro (And.intro A1 (And.intro A2 (And.intro l1 (And.intro l2 (And.intro l3 (And.intro l4 l5))))))
  obtain ⟨W, hW⟩ : ∃ W, W = (w.alloc (Obj.cells #[.bool nS, .slice p (ws XS).length cp, .int .i64 eS] 37)).alloc (Obj.cells #[.bool nA, .slice q (ws XA).length cq, .int .i64 eA] 37) := ⟨_, rfl⟩
  have HW : Aside (Dk W w.heap.size nS (.slice p (ws XS).length cp) eS ∧ Dk W (w.heap.size + 1) nA (.slice q (ws XA).length cq) eA ∧ Below w.heap.size w W ∧ w.heap.size + 1 < W.heap.size) := by
    rw [hW]
    have h2 := Dk.new (w.alloc (Obj.cells #[.bool nS, .slice p (ws XS).length cp, .int .i64 eS] 37)) nA (.slice q (ws XA).length cq) eA
    rw [World.size_alloc] at h2
    exact ⟨(Dk.new _ _ _ _).alloc _, h2, (below_alloc _ _).trans ((below_alloc _ _).mono (by simp)), by simp⟩
  have hnw : IntKind.u32.wrap (n : Int) = (n : Int) := by rw [IntKind.wrap_u32]; omega
  have hsz : w.heap.size ≠ w.heap.size + 1 := by omega
  clear A1 A2 l1 l2 l3 l4 l5
  go_enter Tryz.func25, Tryz.ntmps25
  go_wp2_with fail
  rw [← hW]
  clear hW
  refine (HO.out _ HW.out.2.2.1).mono ?_
  rintro r u1 ⟨⟨v1, rfl, hN1⟩, hb1⟩
  obtain ⟨a1, c1, rfl, _⟩ := hN1.arg (Nat.le_trans HAr.out.2.2.1 (by decide))
  obtain ⟨U1, hU1⟩ : ∃ U, U = u1.alloc (Obj.cells #[.bool n1, .slice a1 (ws X1).length c1, .int .i64 e1] 37) := ⟨_, rfl⟩
  have K1 : Aside (Dk U1 u1.heap.size n1 (.slice a1 (ws X1).length c1) e1 ∧ Nt 0 U1 (.slice a1 (ws X1).length c1) X1 ∧ Below W.heap.size W U1 ∧ W.heap.size ≤ u1.heap.size) := by
    rw [hU1]
    exact ⟨Dk.new _ _ _ _, (hN1.below (below_alloc _ _)).mono (Nat.zero_le _), hb1.trans ((below_alloc _ _).mono hb1.size), hb1.size⟩
  clear hN1 hb1 HO
  have s0 := (HW.out.1.below K1.out.2.2.1).facts
  have x0 := K1.out.1.facts
  have HU1 := Aside.intro hU1
  clear hU1
  obtain ⟨s0, s1, s2, _, _, _⟩ := s0
  obtain ⟨x0, x1, x2, _, _, _⟩ := x0
  go_upto_region 4 with fail
  rw [← HU1.out]
  go_wp2_with fail
  have b1 := HW.out.2.2.1.trans (K1.out.2.2.1.mono HW.out.2.2.1.size)
  refine (HS.out U1 a1 p c1 cp b1 (K1.out.2.1.arg' (Nat.le_trans HAr.out.2.2.1 (by decide))).2 (HAr.out.1.below b1)).mono ?_
  rintro r u2 ⟨⟨v2, rfl, hN2⟩, hb2⟩
  obtain ⟨a2, c2, rfl, _⟩ := hN2.arg (Nat.le_trans HAr.out.2.2.2.1 (by decide))
  obtain ⟨U2, hU2⟩ : ∃ U, U = u2.alloc (Obj.cells #[.bool n2, .slice a2 (ws X2).length c2, .int .i64 e2] 37) := ⟨_, rfl⟩
  have K2 : Aside (Dk U2 u2.heap.size n2 (.slice a2 (ws X2).length c2) e2 ∧ Nt 0 U2 (.slice a2 (ws X2).length c2) X2 ∧ Below w.heap.size w U2 ∧ Dk U2 (w.heap.size + 1) nA (.slice q (ws XA).length cq) eA ∧ w.heap.size + 1 < u2.heap.size) := by
    rw [hU2]
    have hs := K1.out.2.2.1.size
    have hw := HW.out.2.2.2
    refine ⟨Dk.new _ _ _ _, (hN2.below (below_alloc _ _)).mono (Nat.zero_le _), (b1.trans (hb2.mono b1.size)).trans ((below_alloc _ _).mono (Nat.le_trans b1.size hb2.size)), ((HW.out.2.1.below K1.out.2.2.1).below hb2).alloc _, by have := hb2.size; omega⟩
  clear hN2 hb2 HS b1 s0 s1 s2 x0 x1 x2 K1 HU1
  obtain ⟨y0, y1, y2, yf0, yf1, yf2⟩ := K2.out.1.facts
  have HU2 := Aside.intro hU2
  clear hU2
  go_upto_region 5 with fail
  rw [← HU2.out]
  clear HU2
  go_wp2_with fail
  refine (HG.out U2 a2 c2 (K2.out.2.1.arg' (Nat.le_trans HAr.out.2.2.2.1 (by decide))).2).mono ?_
  rintro r u3 ⟨rfl, hb3⟩
  have K3 := Aside.intro (And.intro (K2.out.1.below hb3) (And.intro (K2.out.2.1.below hb3) (And.intro (K2.out.2.2.1.trans (hb3.mono K2.out.2.2.1.size)) (And.intro (K2.out.2.2.2.1.below hb3) K2.out.2.2.2.2))))
  clear hb3 HG K2 y0 y1 y2 yf0 yf1 yf2
  obtain ⟨y0, y1, y2, yf0, yf1, yf2⟩ := K3.out.1.facts
  go_wp2_with fail
  refine (HN.out u3 a2 c2 K3.out.2.2.1 (K3.out.2.1.arg' (Nat.le_trans HAr.out.2.2.2.1 (by decide))).2).mono ?_
  rintro r u4 ⟨⟨v3, rfl, hN3⟩, hb4⟩
  obtain ⟨a3, c3, rfl, _⟩ := hN3.arg (Nat.le_trans HAr.out.2.2.2.2.1 (by decide))
  have hD4 := K3.out.1.below hb4
  have hbt := st3_but10 u2.heap.size u4 (.bool n3) (.slice a3 (ws X3).length c3) (.int .i64 e3)
  have hb5 := K3.out.2.2.1.trans (hb4.mono K3.out.2.2.1.size)
  have K4 : Aside (Dk (st3 u4 u2.heap.size (.bool n3) (.slice a3 (ws X3).length c3) (.int .i64 e3)) u2.heap.size n3 (.slice a3 (ws X3).length c3) e3 ∧ Nt 0 (st3 u4 u2.heap.size (.bool n3) (.slice a3 (ws X3).length c3) (.int .i64 e3)) (.slice a3 (ws X3).length c3) X3 ∧ Below w.heap.size w (st3 u4 u2.heap.size (.bool n3) (.slice a3 (ws X3).length c3) (.int .i64 e3)) ∧ Dk (st3 u4 u2.heap.size (.bool n3) (.slice a3 (ws X3).length c3) (.int .i64 e3)) (w.heap.size + 1) nA (.slice q (ws XA).length cq) eA ∧ w.heap.size + 1 < u2.heap.size) :=
    ⟨hD4.set _ _ _, (hN3.dk9 hD4 hbt).mono (Nat.zero_le _), But.below hb5 hbt hb5.size (by have := K3.out.2.2.2.2; omega), (K3.out.2.2.2.1.below hb4).but hbt (by have := K3.out.2.2.2.2; omega), K3.out.2.2.2.2⟩
  obtain ⟨z0, z1, z2, zf0, zf1, zf2⟩ := hD4.facts
  clear hN3 hb4 HN hD4 hbt hb5 K3 y0 y1 y2 yf0 yf1 yf2
  unfold st3 at K4
  obtain ⟨U4, hU4⟩ : ∃ U, U = ((u4.setCell ⟨u2.heap.size, 0, none⟩ (.bool n3)).setCell ⟨u2.heap.size, 1, none⟩ (.slice a3 (ws X3).length c3)).setCell ⟨u2.heap.size, 2, none⟩ (.int .i64 e3) := ⟨_, rfl⟩
  rw [← hU4] at K4
  have HU4 := Aside.intro hU4
  clear hU4
  go_upto_region 7 with fail
  rw [← HU4.out]
  clear HU4 z0 z1 z2 zf0 zf1 zf2
  obtain ⟨V, hV⟩ : ∃ V, V = U4.alloc (.cells #[.int .u32 (n : Int)] 69) := ⟨_, rfl⟩
  have KV : Aside (Arg V (some ⟨U4.heap.size, 0, none⟩) 1 1 [n] ∧ Below U4.heap.size U4 V) := by
    rw [hV]; exact ⟨lit_arg _ n (by omega), below_alloc _ _⟩
  have HV := Aside.intro hV
  clear hV
  go_wp2_with fail
  rw [← HV.out]
  clear HV
  have bV := K4.out.2.2.1.trans (KV.out.2.mono K4.out.2.2.1.size)
  refine (HM.out V _ bV KV.out.1).mono ?_
  rintro r u5 ⟨⟨v4, rfl, hN4⟩, hb5⟩
  obtain ⟨a4, c4, rfl, _⟩ := hN4.arg (Nat.le_trans HAr.out.2.2.2.2.2.1 (by decide))
  obtain ⟨U5, hU5⟩ : ∃ U, U = u5.alloc (Obj.cells #[.bool n4, .slice a4 (ws X4).length c4, .int .i64 e4] 37) := ⟨_, rfl⟩
  have bU : Below U4.heap.size U4 u5 := KV.out.2.trans (hb5.mono KV.out.2.size)
  have K5 : Aside (Dk U5 u5.heap.size n4 (.slice a4 (ws X4).length c4) e4 ∧ Nt 0 U5 (.slice a4 (ws X4).length c4) X4 ∧ Below w.heap.size w U5 ∧ Dk U5 (w.heap.size + 1) nA (.slice q (ws XA).length cq) eA ∧ Dk U5 u2.heap.size n3 (.slice a3 (ws X3).length c3) e3 ∧ Nt 0 U5 (.slice a3 (ws X3).length c3) X3) := by
    rw [hU5]
    have b5 := bV.trans (hb5.mono bV.size)
    exact ⟨Dk.new _ _ _ _, (hN4.below (below_alloc _ _)).mono (Nat.zero_le _), b5.trans ((below_alloc _ _).mono b5.size), (K4.out.2.2.2.1.below bU).alloc _, (K4.out.1.below bU).alloc _, (K4.out.2.1.below bU).below (below_alloc _ _)⟩
  clear hN4 hb5 HM bV bU KV K4
  obtain ⟨p0, p1, p2, _, _, _⟩ := K5.out.1.facts
  obtain ⟨q0, q1, q2, _, _, _⟩ := K5.out.2.2.2.1.facts
  have HU5 := Aside.intro hU5
  clear hU5
  go_upto_region 8 with fail
  rw [← HU5.out]
  clear HU5
  go_wp2_with fail
  refine (HP.out U5 a4 q c4 cq K5.out.2.2.1 (K5.out.2.1.arg' (Nat.le_trans HAr.out.2.2.2.2.2.1 (by decide))).2 (HAr.out.2.1.below K5.out.2.2.1)).mono ?_
  rintro r u6 ⟨⟨v5, rfl, hN5⟩, hb6⟩
  obtain ⟨a5, c5, rfl, _⟩ := hN5.arg (Nat.le_trans HAr.out.2.2.2.2.2.2 (by decide))
  obtain ⟨U6, hU6⟩ : ∃ U, U = u6.alloc (Obj.cells #[.bool n5, .slice a5 (ws X5).length c5, .int .i64 e5] 37) := ⟨_, rfl⟩
  have K6 : Aside (Dk U6 u6.heap.size n5 (.slice a5 (ws X5).length c5) e5 ∧ Nt 0 U6 (.slice a5 (ws X5).length c5) X5 ∧ Below w.heap.size w U6 ∧ Dk U6 u2.heap.size n3 (.slice a3 (ws X3).length c3) e3 ∧ Nt 0 U6 (.slice a3 (ws X3).length c3) X3) := by
    rw [hU6]
    have b6 := K5.out.2.2.1.trans (hb6.mono K5.out.2.2.1.size)
    exact ⟨Dk.new _ _ _ _, (hN5.below (below_alloc _ _)).mono (Nat.zero_le _), b6.trans ((below_alloc _ _).mono b6.size), (K5.out.2.2.2.2.1.below hb6).alloc _, (K5.out.2.2.2.2.2.below hb6).below (below_alloc _ _)⟩
  clear hN5 hb6 HP p0 p1 p2 q0 q1 q2 K5
  obtain ⟨p0, p1, p2, _, _, _⟩ := K6.out.1.facts
  obtain ⟨q0, q1, q2, _, _, _⟩ := K6.out.2.2.2.1.facts
  have HU6 := Aside.intro hU6
  clear hU6
  go_upto_region 9 with fail
  rw [← HU6.out]
  clear HU6
  go_wp2_with fail
  refine (HC.out U6 a3 a5 c3 c5 (K6.out.2.2.2.2.arg' (Nat.le_trans HAr.out.2.2.2.2.1 (by decide))).2 (K6.out.2.1.arg' (Nat.le_trans HAr.out.2.2.2.2.2.2 (by decide))).2).mono ?_
  rintro r u7 ⟨rfl, hb7⟩
  have K7 := Aside.intro (K6.out.2.2.1.trans (hb7.mono K6.out.2.2.1.size))
  clear hb7 HC p0 p1 p2 q0 q1 q2
  go_wp2
  go_ret
  exact ⟨rfl, K7.out⟩
end Go.Proofs.YteoednbmhiblfaaGreatDoor

/- How far sums by steps may be off: plain mathematics, then by words. -/
namespace Go.Proofs.YteoednbmhiblfaaGreatDoor
open Go.RowKit J
set_option linter.unusedVariables false
set_option maxRecDepth 20000
set_option linter.unusedSimpArgs false

/-- So near. -/
def Nr (n : Nat) (S A s : Int) : Prop := 1 ≤ n ∧ -A ≤ S ∧ S ≤ A ∧ 9007199254740992 * (s - S) ≤ ((n - 1 : Nat) : Int) * A ∧ -(9007199254740992 * (s - S)) ≤ ((n - 1 : Nat) : Int) * A
theorem near_step (a b : Int) (ha : 0 ≤ a) (hb : 0 ≤ b) (S1 S2 s1 s2 s A1 A2 : Int) (a1 : -A1 ≤ S1) (a2 : S1 ≤ A1) (b1 : -A2 ≤ S2) (b2 : S2 ≤ A2)
    (e1 : 9007199254740992 * (s1 - S1) ≤ a * A1) (e2 : -(9007199254740992 * (s1 - S1)) ≤ a * A1) (f1 : 9007199254740992 * (s2 - S2) ≤ b * A2) (f2 : -(9007199254740992 * (s2 - S2)) ≤ b * A2)
    (hr : 9007199254740992 * (s - (s1 + s2)).natAbs ≤ (s1 + s2).natAbs) (h1 : (s - (s1 + s2)).natAbs ≤ s1.natAbs) (h2 : (s - (s1 + s2)).natAbs ≤ s2.natAbs) :
    9007199254740992 * (s - (S1 + S2)) ≤ (a + b + 1) * (A1 + A2) ∧ -(9007199254740992 * (s - (S1 + S2))) ≤ (a + b + 1) * (A1 + A2) := by
  have hA1 : 0 ≤ A1 := by omega
  have hA2 : 0 ≤ A2 := by omega
  have e : (a + b + 1) * (A1 + A2) = a * A1 + a * A2 + b * A1 + b * A2 + A1 + A2 := by
    rw [Int.add_mul, Int.add_mul, Int.mul_add, Int.mul_add, Int.one_mul]; omega
  rw [e]
  have p1 := Int.mul_nonneg ha hA1
  have p2 := Int.mul_nonneg ha hA2
  have p3 := Int.mul_nonneg hb hA1
  have p4 := Int.mul_nonneg hb hA2
  obtain ⟨d, hd⟩ : ∃ d, d = s - (s1 + s2) := ⟨_, rfl⟩
  rw [← hd] at hr h1 h2
  have key : 9007199254740992 * (d.natAbs : Int) ≤ b * A1 + A1 + a * A2 + A2 := by
    by_cases c1 : 9007199254740992 * A2 ≤ A1
    · have q := Int.mul_le_mul_of_nonneg_left (show A2 ≤ A1 by omega) hb
      generalize a * A1 = x1 at *
      generalize a * A2 = x2 at *
      generalize b * A1 = x3 at *
      generalize b * A2 = x4 at *
      omega
    · by_cases c2 : 9007199254740992 * A1 ≤ A2
      · have q := Int.mul_le_mul_of_nonneg_left (show A1 ≤ A2 by omega) ha
        generalize a * A1 = x1 at *
        generalize a * A2 = x2 at *
        generalize b * A1 = x3 at *
        generalize b * A2 = x4 at *
        omega
      · have q1 := Int.mul_le_mul_of_nonneg_left (show A1 ≤ 9007199254740992 * A2 by omega) ha
        have q2 := Int.mul_le_mul_of_nonneg_left (show A2 ≤ 9007199254740992 * A1 by omega) hb
        rw [Int.mul_left_comm] at q1 q2
        generalize a * A1 = x1 at *
        generalize a * A2 = x2 at *
        generalize b * A1 = x3 at *
        generalize b * A2 = x4 at *
        omega
  generalize a * A1 = x1 at *
  generalize a * A2 = x2 at *
  generalize b * A1 = x3 at *
  generalize b * A2 = x4 at *
  omega
theorem Nr.step {n1 n2 : Nat} {S1 S2 s1 s2 s A1 A2 : Int} (h1 : Nr n1 S1 A1 s1) (h2 : Nr n2 S2 A2 s2) (hr : 9007199254740992 * (s - (s1 + s2)).natAbs ≤ (s1 + s2).natAbs) (k1 : (s - (s1 + s2)).natAbs ≤ s1.natAbs) (k2 : (s - (s1 + s2)).natAbs ≤ s2.natAbs) : Nr (n1 + n2) (S1 + S2) (A1 + A2) s := by
  obtain ⟨c1, c2, c3, c4, c5⟩ := h1
  obtain ⟨d1, d2, d3, d4, d5⟩ := h2
  obtain ⟨r1, r2⟩ := near_step ((n1 - 1 : Nat) : Int) ((n2 - 1 : Nat) : Int) (by omega) (by omega) S1 S2 s1 s2 s A1 A2 c2 c3 d2 d3 c4 c5 d4 d5 hr k1 k2
  have e : ((n1 + n2 - 1 : Nat) : Int) = ((n1 - 1 : Nat) : Int) + ((n2 - 1 : Nat) : Int) + 1 := by omega
  exact ⟨by omega, by omega, by omega, by rw [e]; exact r1, by rw [e]; exact r2⟩

/-- A step that comes to a finite number. -/
theorem pl_back {x y : Nat} (hx : x < 18446744073709551616) (hy : y < 18446744073709551616) (h : finW (plF x y)) : finW x ∧ finW y ∧ IsRn (fvW x + fvW y) (fvW (plF x y)) := by
  have hodd : ¬ finW oddW := by unfold finW magW oddW; decide
  rcases kinds x hx with ⟨a1, a2, a3, a4⟩ | ⟨a1, a2, a3, a4⟩ | ⟨a1, a2, a4⟩
  · rw [show plF x y = oddW from add_nan_l y a1] at h
    exact absurd h hodd
  · have hr := read_infW x hx a4
    exfalso
    rcases kinds y hy with ⟨b1, b2, b3, b4⟩ | ⟨b1, b2, b3, b4⟩ | ⟨b1, b2, b4⟩
    · rw [show plF x y = oddW from add_nan_r hx b1] at h
      exact absurd h hodd
    · have hr2 := read_infW y hy b4
      have e : arW .add x y = if negW x = negW y then x else oddW := by
        rw [arW_add, hr, hr2]
        unfold Ieee.Datum.sum
        simp only
        split
        · rw [Option.map_some, write_infW, ← a4, ← wd_of x hx]; rfl
        · rfl
      rw [show plF x y = _ from e] at h
      split at h
      · exact absurd h (by unfold finW; omega)
      · exact absurd h hodd
    · obtain ⟨m, k, hr2, _⟩ := read_finW y hy b4
      have e : arW .add x y = x := by
        rw [arW_add, hr, hr2]
        show Ieee.double.write (.infinity (negW x)) = x
        rw [write_infW, ← a4, ← wd_of x hx]
      rw [show plF x y = _ from e] at h
      exact absurd h (by unfold finW; omega)
  · rcases kinds y hy with ⟨b1, b2, b3, b4⟩ | ⟨b1, b2, b3, b4⟩ | ⟨b1, b2, b4⟩
    · rw [show plF x y = oddW from add_nan_r hx b1] at h
      exact absurd h hodd
    · obtain ⟨m, k, hr, _⟩ := read_finW x hx a4
      have hr2 := read_infW y hy b4
      have e : arW .add x y = y := by
        rw [arW_add, hr, hr2]
        show Ieee.double.write (.infinity (negW y)) = y
        rw [write_infW, ← b4, ← wd_of y hy]
      rw [show plF x y = _ from e] at h
      exact absurd h (by unfold finW; omega)
    · refine ⟨a4, b4, ?_⟩
      obtain ⟨R, hR, hA⟩ := add_wd (negW x) (negW y) (magW x) (magW y) a4 b4
      rw [← wd_of x hx, ← wd_of y hy] at hA
      have e : plF x y = wd64 (if fvW x + fvW y = 0 then negW x && negW y else decide (fvW x + fvW y < 0)) (min R 9218868437227405312) := by
        show (Ieee.double.add x y).getD oddW = _
        rw [hA]; rfl
      have hf : R < 9218868437227405312 := by
        rw [e] at h
        have hm := (magW_wd (if fvW x + fvW y = 0 then negW x && negW y else decide (fvW x + fvW y < 0)) (min R 9218868437227405312) (by omega)).1
        unfold finW at h
        rw [hm] at h
        omega
      rw [Nat.min_eq_left (by omega)] at e
      obtain ⟨k1, k2⟩ := fv_wd (if fvW x + fvW y = 0 then negW x && negW y else decide (fvW x + fvW y < 0)) R hf
      rw [e, k2]
      exact ne_rn (T := fvW x + fvW y) hR (fun h => if_neg h)
theorem rn_near {x y s : Int} (hx : IsF x) (hy : IsF y) (h : IsRn (x + y) s) : 9007199254740992 * (s - (x + y)).natAbs ≤ (x + y).natAbs ∧ (s - (x + y)).natAbs ≤ x.natAbs ∧ (s - (x + y)).natAbs ≤ y.natAbs := by
  refine ⟨h.rel, ?_, ?_⟩
  · have := h.2 y hy; omega
  · have := h.2 x hx; omega
theorem nr_pl {x y : Nat} (hx : x < 18446744073709551616) (hy : y < 18446744073709551616) (h : finW (plF x y)) {n1 n2 : Nat} {S1 S2 A1 A2 : Int} (h1 : finW x → Nr n1 S1 A1 (fvW x)) (h2 : finW y → Nr n2 S2 A2 (fvW y)) : Nr (n1 + n2) (S1 + S2) (A1 + A2) (fvW (plF x y)) := by
  obtain ⟨f1, f2, hr⟩ := pl_back hx hy h
  obtain ⟨r1, r2, r3⟩ := rn_near (fv_F x) (fv_F y) hr
  exact (h1 f1).step (h2 f2) r1 r2 r3
/-- What nodes come to. -/
def sN : List (Nat × Nat × Int × Int) → Nat × Int × Int
  | [] => (0, 0, 0)
  | d :: l => (d.2.1 + (sN l).1, d.2.2.1 + (sN l).2.1, d.2.2.2 + (sN l).2.2)
theorem sN_app : ∀ (l m : List (Nat × Nat × Int × Int)), sN (l ++ m) = ((sN l).1 + (sN m).1, (sN l).2.1 + (sN m).2.1, (sN l).2.2 + (sN m).2.2)
  | [], m => by simp [sN]
  | d :: l, m => by
    have := sN_app l m
    simp only [List.cons_append, sN, this, Prod.mk.injEq]
    refine ⟨by omega, by omega, by omega⟩
theorem nrm_fin {x : Nat} (h : finW x) : nrm x = x := by
  unfold nrm nanW
  have : magW x < 9218868437227405312 := h
  unfold magW at this
  rw [if_neg (by simp; omega)]
theorem fin_nrm {x : Nat} (h : finW (nrm x)) : finW x := by
  by_cases hn : nanW x = true
  · unfold nrm at h
    rw [hn, if_pos rfl] at h
    exact absurd h (by unfold finW magW oddW; decide)
  · unfold nrm at h
    rw [if_neg hn] at h
    exact h
/-- A running sum of nodes: each is a word, how many numbers, their sum, their sizes' sum. -/
theorem run_nr (N : List (Nat × Nat × Int × Int)) (hN : ∀ d ∈ N, d.1 < 18446744073709551616 ∧ (finW d.1 → Nr d.2.1 d.2.2.1 d.2.2.2 (fvW d.1))) (hne : N ≠ []) (h : finW (runF (N.map (·.1)))) : Nr (sN N).1 (sN N).2.1 (sN N).2.2 (fvW (runF (N.map (·.1)))) := by
  have key : ∀ (k : Nat) (N : List (Nat × Nat × Int × Int)), N.length = k + 1 → (∀ d ∈ N, d.1 < 18446744073709551616 ∧ (finW d.1 → Nr d.2.1 d.2.2.1 d.2.2.2 (fvW d.1))) → finW (runF (N.map (·.1))) → Nr (sN N).1 (sN N).2.1 (sN N).2.2 (fvW (runF (N.map (·.1)))) := by
    intro k
    induction k with
    | zero =>
      intro N hl hN h
      match N, hl with
      | [d], _ =>
        have e : runF ([d].map (·.1)) = nrm d.1 := rfl
        rw [e] at h ⊢
        have hf := fin_nrm h
        rw [nrm_fin hf]
        have := (hN d (by simp)).2 hf
        simpa [sN] using this
    | succ k ih =>
      intro N hl hN h
      obtain ⟨M, d, rfl⟩ : ∃ M d, N = M ++ [d] := by
        have hne : N ≠ [] := by intro e; subst e; simp at hl
        exact ⟨N.dropLast, N.getLast hne, (List.dropLast_concat_getLast hne).symm⟩
      have hM : M.length = k + 1 := by simp at hl; omega
      have hMne : M.map (·.1) ≠ [] := by intro e; have := congrArg List.length e; simp at this; subst this; simp at hM
      have e : runF ((M ++ [d]).map (·.1)) = plF (runF (M.map (·.1))) d.1 := by
        rw [List.map_append]
        exact runF_snoc _ _ hMne
      rw [e] at h ⊢
      have hMd : ∀ d ∈ M, d.1 < 18446744073709551616 ∧ (finW d.1 → Nr d.2.1 d.2.2.1 d.2.2.2 (fvW d.1)) := fun c hc => hN c (by simp [hc])
      have hw := runF_ok (M.map (·.1)) (fun x hx => by obtain ⟨c, hc, rfl⟩ := List.mem_map.1 hx; exact (hMd c hc).1)
      have hd := hN d (by simp)
      rw [sN_app]
      simp only [sN, Nat.add_zero, Int.add_zero]
      exact nr_pl hw.1 hd.1 h (fun hf => ih M hM hMd hf) hd.2
  obtain ⟨k, hk⟩ : ∃ k, N.length = k + 1 := ⟨N.length - 1, by have := List.length_pos_iff.2 hne; omega⟩
  exact key k N hk hN h
/-- A list's sum, its sizes' sum. -/
def sV : List Nat → Int
  | [] => 0
  | x :: l => fvW x + sV l
def aV : List Nat → Int
  | [] => 0
  | x :: l => ((fvW x).natAbs : Int) + aV l
theorem sV_app : ∀ l m, sV (l ++ m) = sV l + sV m
  | [], m => by simp [sV]
  | x :: l, m => by simp only [List.cons_append, sV, sV_app l m]; omega
theorem aV_app : ∀ l m, aV (l ++ m) = aV l + aV m
  | [], m => by simp [aV]
  | x :: l, m => by simp only [List.cons_append, aV, aV_app l m]; omega
def leafs (l : List Nat) : List (Nat × Nat × Int × Int) := l.map fun x => (x, 1, fvW x, ((fvW x).natAbs : Int))
theorem leafs_fst (l : List Nat) : (leafs l).map (·.1) = l := by unfold leafs; rw [List.map_map]; exact List.map_id' _
theorem leafs_sum : ∀ l, sN (leafs l) = (l.length, sV l, aV l)
  | [] => rfl
  | x :: l => by
    have e : sN (leafs (x :: l)) = (1 + (sN (leafs l)).1, fvW x + (sN (leafs l)).2.1, ((fvW x).natAbs : Int) + (sN (leafs l)).2.2) := rfl
    rw [e, leafs_sum l]
    simp only [sV, aV, List.length_cons, Nat.add_comm]
theorem nr_one (s : Int) : Nr 1 s (s.natAbs : Int) s := by
  refine ⟨by omega, by omega, by omega, ?_, ?_⟩ <;> simp
theorem run_near (l : List Nat) (hl : ∀ x ∈ l, x < 18446744073709551616) (hne : l ≠ []) (h : finW (runF l)) : Nr l.length (sV l) (aV l) (fvW (runF l)) := by
  have := run_nr (leafs l) (fun d hd => by
    obtain ⟨x, hx, rfl⟩ := List.mem_map.1 hd
    exact ⟨hl x hx, fun _ => nr_one _⟩) (by intro e; apply hne; rw [← leafs_fst l, e]; rfl) (by rw [leafs_fst]; exact h)
  rw [leafs_fst, leafs_sum] at this
  exact this
/-- By halves. -/
theorem hv_near : ∀ (m : Nat) (l : List Nat), l.length ≤ m → (∀ x ∈ l, x < 18446744073709551616) → l ≠ [] → finW (hvF l) → Nr l.length (sV l) (aV l) (fvW (hvF l))
  | 0, l, hm, hl, hne, h => absurd (List.eq_nil_of_length_eq_zero (by omega)) hne
  | m + 1, l, hm, hl, hne, h => by
    by_cases h1 : l.length ≤ 1
    · have e := hv_short l h1
      match l, hne, h1 with
      | [x], _, _ =>
        rw [List.getD_cons_zero] at e
        rw [e] at h ⊢
        have hf := fin_nrm h
        rw [nrm_fin hf]
        simpa [sV, aV] using nr_one (fvW x)
    · have hj : ∃ j, 2 ^ j < l.length ∧ l.length ≤ 2 ^ (j + 1) := by
        have key : ∀ n, 2 ≤ n → ∃ j, 2 ^ j < n ∧ n ≤ 2 ^ (j + 1) := by
          intro n
          induction n with
          | zero => intro h; omega
          | succ n ih =>
            intro h
            by_cases h2 : n = 1
            · exact ⟨0, by omega, by omega⟩
            · obtain ⟨j, h3, h4⟩ := ih (by omega)
              by_cases h5 : n + 1 ≤ 2 ^ (j + 1)
              · exact ⟨j, by omega, h5⟩
              · refine ⟨j + 1, by omega, ?_⟩
                rw [Nat.pow_succ]
                have := Nat.two_pow_pos (j + 1)
                omega
        exact key l.length (by omega)
      obtain ⟨j, j1, j2⟩ := hj
      have e := hv_halves l j j1 j2 hl
      rw [e] at h ⊢
      have hp := Nat.two_pow_pos j
      have t1 : ∀ x ∈ l.take (2 ^ j), x < 18446744073709551616 := fun x hx => hl x (List.mem_of_mem_take hx)
      have t2 : ∀ x ∈ l.drop (2 ^ j), x < 18446744073709551616 := fun x hx => hl x (List.mem_of_mem_drop hx)
      have l1 : (l.take (2 ^ j)).length = 2 ^ j := by rw [List.length_take]; omega
      have l2 : (l.drop (2 ^ j)).length = l.length - 2 ^ j := List.length_drop
      have := nr_pl (hv_lt _ t1) (hv_lt _ t2) h
        (fun hf => hv_near m _ (by omega) t1 (by intro e; rw [e] at l1; simp at l1; omega) hf)
        (fun hf => hv_near m _ (by omega) t2 (by intro e; rw [e] at l2; simp at l2; omega) hf)
      have es : sV (l.take (2 ^ j)) + sV (l.drop (2 ^ j)) = sV l := by rw [← sV_app, List.take_append_drop]
      have ea : aV (l.take (2 ^ j)) + aV (l.drop (2 ^ j)) = aV l := by rw [← aV_app, List.take_append_drop]
      rw [es, ea, l1, l2, show 2 ^ j + (l.length - 2 ^ j) = l.length by omega] at this
      exact this
theorem pc_nodes (s : Nat) (l : List Nat) : ∀ k, sN ((List.range k).map fun i => (runF (pc s l i), (pc s l i).length, sV (pc s l i), aV (pc s l i))) = ((l.take (k * s)).length, sV (l.take (k * s)), aV (l.take (k * s)))
  | 0 => by simp [sN, sV, aV]
  | k + 1 => by
    rw [List.range_succ, List.map_append, sN_app, pc_nodes s l k]
    have e : l.take ((k + 1) * s) = l.take (k * s) ++ pc s l k := by
      rw [Nat.add_mul, Nat.one_mul, List.take_add]; rfl
    rw [e, List.length_append, sV_app, aV_app]
    simp [sN]
theorem bl_near (s : Nat) (l : List Nat) (hs : 1 ≤ s) (hl : ∀ x ∈ l, x < 18446744073709551616) (hne : l ≠ []) (h : finW (blF s l)) : Nr l.length (sV l) (aV l) (fvW (blF s l)) := by
  have hlen : 0 < l.length := List.length_pos_iff.2 hne
  obtain ⟨nb, hnb⟩ : ∃ nb, nb = (l.length + s - 1) / s := ⟨_, rfl⟩
  have hq := Nat.div_add_mod (l.length + s - 1) s
  have hq2 := Nat.mod_lt (l.length + s - 1) (show s > 0 by omega)
  rw [← hnb] at hq
  have hc : s * nb = nb * s := Nat.mul_comm _ _
  have hfull : l.length ≤ nb * s := by omega
  have hpos : 0 < nb := by
    rcases Nat.eq_zero_or_pos nb with h0 | h0
    · rw [h0] at hfull; omega
    · exact h0
  have := run_nr ((List.range nb).map fun i => (runF (pc s l i), (pc s l i).length, sV (pc s l i), aV (pc s l i))) (fun d hd => by
    obtain ⟨i, hi, rfl⟩ := List.mem_map.1 hd
    have hi2 := List.mem_range.1 hi
    have hw : ∀ x ∈ pc s l i, x < 18446744073709551616 := fun x hx => hl x (List.mem_of_mem_drop (List.mem_of_mem_take hx))
    refine ⟨(runF_ok _ hw).1, fun hf => run_near _ hw ?_ hf⟩
    intro e
    have h0 := congrArg List.length e
    unfold pc at h0
    rw [List.length_take, List.length_drop, List.length_nil] at h0
    have : (i + 1) * s ≤ nb * s := Nat.mul_le_mul_right _ (by omega)
    rw [Nat.add_mul, Nat.one_mul] at this
    omega) (by
      intro e
      have := congrArg List.length e
      simp at this
      omega) (by
      rw [List.map_map]
      unfold blF at h
      rw [← hnb] at h
      exact h)
  rw [pc_nodes, List.take_of_length_le hfull, List.map_map] at this
  unfold blF
  rw [← hnb]
  exact this
end Go.Proofs.YteoednbmhiblfaaGreatDoor

/- Parts: the nearest finite number, what is left, how long it goes on. -/
namespace Go.Proofs.YteoednbmhiblfaaGreatDoor
open Go.RowKit J
set_option linter.unusedVariables false
set_option maxRecDepth 20000
set_option linter.unusedSimpArgs false

/-- An infinity made the greatest number of its sign. -/
def clW8 (x : Nat) : Nat := if magW x == 9218868437227405312 then x - 1 else x
/-- The nearest finite number. -/
def nrW (V : Int) : Nat := clW8 (rndS (fo8 V) 0).1
/-- What Parts tells of V. -/
def IsParts : Int → List Nat → Prop
  | V, [] => V = 0
  | V, x :: l => V ≠ 0 ∧ x = nrW V ∧ IsParts (V - fvW x) l
theorem IsParts.one {V : Int} {l k : List Nat} (h : IsParts V l) (h2 : IsParts V k) : l = k := by
  induction l generalizing V k with
  | nil =>
    cases k with
    | nil => rfl
    | cons y k => exact absurd h h2.1
  | cons x l ih =>
    cases k with
    | nil => exact absurd h2 h.1
    | cons y k =>
      obtain ⟨_, rfl, h3⟩ := h
      obtain ⟨_, rfl, h4⟩ := h2
      rw [ih h3 h4]

end Go.Proofs.YteoednbmhiblfaaGreatDoor

/- A Spread in memory; New, Add. -/
namespace Go.Proofs.YteoednbmhiblfaaGreatDoor
open Go.RowKit
set_option linter.unusedVariables false
set_option maxRecDepth 20000
set_option linter.unusedSimpArgs false

/-- Only blocks of F were written. -/
structure Tch (F : Nat → Prop) (w w' : World) : Prop where
  os : w'.os = w.os
  tape : w'.tape = w.tape
  output : w'.output = w.output
  size : w.heap.size ≤ w'.heap.size
  block : ∀ k, k < w.heap.size → ¬ F k → w'.heap[k]? = w.heap[k]?
theorem Tch.refl (F : Nat → Prop) (w : World) : Tch F w w := ⟨rfl, rfl, rfl, Nat.le_refl _, fun _ _ _ => rfl⟩
/-- F, and what is new. -/
def Gr (F : Nat → Prop) (w w' : World) : Nat → Prop := fun k => F k ∨ (w.heap.size ≤ k ∧ k < w'.heap.size)
theorem Tch.trans {F : Nat → Prop} {a b c : World} (h : Tch F a b) (k : Tch (Gr F a b) b c) : Tch F a c :=
  ⟨k.os.trans h.os, k.tape.trans h.tape, k.output.trans h.output, Nat.le_trans h.size k.size, fun j hj hn =>
    (k.block j (Nat.lt_of_lt_of_le hj h.size) (fun q => by rcases q with q | q; exact hn q; omega)).trans (h.block j hj hn)⟩
theorem Tch.below {F : Nat → Prop} {B : Nat} {a w w' : World} (h : Below B a w) (k : Tch F w w') (hF : ∀ j, F j → B ≤ j) (hB : B ≤ w.heap.size) : Below B a w' :=
  ⟨k.os.trans h.os, k.tape.trans h.tape, k.output.trans h.output, Nat.le_trans h.size k.size, fun j hj =>
    (k.block j (Nat.lt_of_lt_of_le hj hB) (fun q => by have := hF j q; omega)).trans (h.block j hj)⟩
theorem Tch.grown {F : Nat → Prop} {w w' : World} {row : Option Nat} (h : w.grownBy w' row) (hF : ∀ k, row = some k → F k) : Tch F w w' :=
  ⟨h.os, h.tape, h.output, h.size, fun j hj hn => h.block j hj (fun e => hn (hF j e.symm))⟩
theorem Tch.set {F : Nat → Prop} {w w' : World} (h : Tch F w w') (g i : Nat) (u : Value) (hF : F g) : Tch F w (w'.setCell ⟨g, i, none⟩ u) :=
  ⟨h.os, h.tape, h.output, by simpa [World.setCell] using h.size, fun j hj hn => by
    rw [← h.block j hj hn]
    exact Below.heap_setCell _ _ _ _ (fun e => hn (by rw [e]; exact hF))⟩

theorem Rk.mono {L : List Nat} {V : Int} {n c n' c' : Nat} (h : Rk L V n c) (hn : n ≤ n') (hc : c ≤ c') : Rk L V n' c' :=
  ⟨h.fin, h.val, Nat.le_trans h.len hn, Nat.le_trans h.size (Nat.mul_le_mul_right _ (by omega))⟩
end Go.Proofs.YteoednbmhiblfaaGreatDoor

/- Parts. -/
namespace Go.Proofs.YteoednbmhiblfaaGreatDoor
open Go.RowKit J
set_option linter.unusedVariables false
set_option maxRecDepth 20000
set_option linter.unusedSimpArgs false

theorem sub_any8 (V U : Int) (m : Nat) (hm : m ≤ 100000) (hV : V.natAbs < 2 ^ m) (hU : U.natAbs < 2 ^ m) (w : World) (a b : Option Addr) (c d : Nat) (hT : Tab w) (h1 : Arg w a (ws (dX (fo8 V))).length c (ws (dX (fo8 V)))) (h2 : Arg w b (ws (dX (fo8 U))).length d (ws (dX (fo8 U)))) :
    Calls Tryz.prog 56 #[.agg #[.bool (dN (fo8 V)), .slice a (ws (dX (fo8 V))).length c, .int .i64 (dE (fo8 V))], .agg #[.bool (dN (fo8 U)), .slice b (ws (dX (fo8 U))).length d, .int .i64 (dE (fo8 U))]] w fun r w' =>
      (∃ v, r = .returned (.tuple #[.agg #[.bool (dN (fo8 (V - U))), v, .int .i64 (dE (fo8 (V - U)))], .int .i64 0]) ∧ Nt w.heap.size w' v (dX (fo8 (V - U)))) ∧ Below w.heap.size w w' := by
  obtain ⟨l1, l2, l3, _⟩ := fo8_len V m (by omega) hV
  obtain ⟨k1, k2, k3, _⟩ := fo8_len U m (by omega) hU
  have := Sub_any3 h1 h2 hT (dN (fo8 V)) (dN (fo8 U)) (dE (fo8 V)) (dE (fo8 U)) l2 l3 k2 k3
  rw [val_ws, val_ws, fo8_self V m (by omega) hV, fo8_neg U m (by omega) hU, fo8_add V (-U) m hm hV (by omega), show V + -U = V - U by omega] at this
  refine this.mono ?_
  rintro r w' ⟨⟨v, rfl, hN⟩, hb⟩
  have e2 : 2 ^ (m + 1) = 2 * 2 ^ m := by rw [Nat.pow_succ, Nat.mul_comm]
  rw [fo8_er (V - U) (m + 1) (by omega) (by omega)]
  exact ⟨⟨v, rfl, hN⟩, hb⟩
theorem sgn_fo8 (V : Int) (m : Nat) (hm : m ≤ 200000) (hV : V.natAbs < 2 ^ m) : (sgn (dN (fo8 V)) (dX (fo8 V)) == 0) = decide (V = 0) := by
  obtain ⟨n, X, e, h1, F, h2, h3, _⟩ := fo8_frm V m hm hV
  rw [h1]
  show (sgn n X == 0) = _
  rw [Bool.eq_iff_iff]
  simp only [beq_iff_eq, decide_eq_true_eq]
  rw [← h2]
  unfold sgn
  by_cases hX : X = 0
  · simp [hX]
  · cases n <;> simp [hX]
end Go.Proofs.YteoednbmhiblfaaGreatDoor

/- The law's off, by values. -/
namespace Go.Proofs.YteoednbmhiblfaaGreatDoor
open Go.RowKit J
set_option linter.unusedVariables false
set_option maxRecDepth 20000
set_option linter.unusedSimpArgs false

theorem mkS_shift (n : Bool) (X k : Nat) : ∀ e : Int, mkS n (X * 2 ^ k) e = mkS n X (e + k) := by
  induction k with
  | zero => intro e; simp
  | succ k ih =>
    intro e
    rw [show X * 2 ^ (k + 1) = 2 * (X * 2 ^ k) by rw [Nat.pow_succ, ← Nat.mul_assoc, Nat.mul_comm], mkS_double7, ih]
    congr 1
    omega
theorem step10 (n k : Nat) (hk : k = 1021) : mkS false n (-53) = fo8 ((n * 2 ^ k : Nat) : Int) := by
  unfold fo8
  rw [decide_eq_false (by omega), Int.natAbs_natCast, mkS_shift, hk]
  rfl
theorem sgn_neg10 (V : Int) (m : Nat) (hm : m ≤ 200000) (hV : V.natAbs < 2 ^ m) : decide (sgn (dN (fo8 V)) (dX (fo8 V)) < 0) = decide (V < 0) := by
  obtain ⟨n, X, e, h1, F, h2, h3, _⟩ := fo8_frm V m hm hV
  rw [h1]
  show decide (sgn n X < 0) = _
  by_cases h0 : V = 0
  · have hX := h2.2 h0
    rw [hX, h0]
    unfold sgn
    simp
  · have hX : X ≠ 0 := fun h => h0 (h2.1 h)
    rw [h3 h0]
    unfold sgn
    rw [decide_eq_decide]
    by_cases hn : V < 0 <;> simp [hX, hn]
theorem near_scale (n : Nat) (D A : Int) (k u : Nat) (hk : k = 1021) (hu : u = 1074) (h : 9007199254740992 * D ≤ (n : Int) * A) : D * ((2 ^ u : Nat) : Int) ≤ ((n * 2 ^ k : Nat) : Int) * A := by
  have e : 2 ^ u = 9007199254740992 * 2 ^ k := by
    rw [show u = 53 + k by omega, Nat.pow_add]
  rw [e]
  have h2 := Int.mul_le_mul_of_nonneg_right h (show (0 : Int) ≤ ((2 ^ k : Nat) : Int) by omega)
  generalize (2 ^ k : Nat) = K at *
  rw [Int.natCast_mul, Int.natCast_mul]
  have e1 : D * (((9007199254740992 : Nat) : Int) * (K : Int)) = 9007199254740992 * D * (K : Int) := by rw [← Int.mul_assoc, Int.mul_comm D]; rfl
  have e2 : (n : Int) * (K : Int) * A = (n : Int) * A * (K : Int) := by rw [Int.mul_assoc, Int.mul_comm (K : Int) A, ← Int.mul_assoc]
  rw [e1, e2]
  exact h2
set_option maxHeartbeats 2000000 in
theorem off_odd (x n : Nat) (nS nA n1 : Bool) (XS XA X1 : Nat) (eS eA e1 : Int) (w : World) (p q : Option Addr) (cp cq : Nat) (l1 : (ws X1).length ≤ 8192)
    (HO : Hid (∀ u : World, Below w.heap.size w u → Calls Tryz.prog 21 #[.float .f64 x] u fun r w' => (∃ v, r = .returned (.tuple #[.agg #[.bool n1, v, .int .i64 e1], .int .i64 30]) ∧ Nt u.heap.size w' v X1) ∧ Below u.heap.size u w')) :
    Calls Tryz.prog 25 #[.float .f64 x, .agg #[.bool nS, .slice p (ws XS).length cp, .int .i64 eS], .int .i64 (n : Nat), .agg #[.bool nA, .slice q (ws XA).length cq, .int .i64 eA]] w fun r w' => r = .returned (.bool true) ∧ Below w.heap.size w w' := by
  obtain ⟨W, hW⟩ : ∃ W, W = (w.alloc (Obj.cells #[.bool nS, .slice p (ws XS).length cp, .int .i64 eS] 37)).alloc (Obj.cells #[.bool nA, .slice q (ws XA).length cq, .int .i64 eA] 37) := ⟨_, rfl⟩
  have HW : Aside (Below w.heap.size w W) := by
    rw [hW]; exact (below_alloc _ _).trans ((below_alloc _ _).mono (by simp))
  have HL := Aside.intro l1
  clear l1
  go_enter Tryz.func25, Tryz.ntmps25
  go_wp2_with fail
  rw [← hW]
  clear hW
  refine (HO.out _ HW.out).mono ?_
  rintro r u1 ⟨⟨v1, rfl, hN1⟩, hb1⟩
  obtain ⟨a1, c1, rfl, _⟩ := hN1.arg (Nat.le_trans HL.out (by decide))
  have K1 := Aside.intro (HW.out.trans (hb1.mono HW.out.size))
  clear hN1 hb1 HO
  go_wp2
  go_ret
  exact ⟨rfl, K1.out.trans ((below_alloc _ _).mono K1.out.size)⟩

set_option maxHeartbeats 4000000 in
theorem off10 (x n : Nat) (S A : Int) (m : Nat) (hm : m = 2200) (w : World) (hT : Tab w) (hx : x < 18446744073709551616) (hn : n ≤ 300) (hS : S.natAbs < 2 ^ m) (hA : A.natAbs < 2 ^ m) (p q : Option Addr) (cp cq : Nat)
    (A1 : Arg w p (ws (dX (fo8 S))).length cp (ws (dX (fo8 S)))) (A2 : Arg w q (ws (dX (fo8 A))).length cq (ws (dX (fo8 A)))) :
    Calls Tryz.prog 25 #[.float .f64 x, .agg #[.bool (dN (fo8 S)), .slice p (ws (dX (fo8 S))).length cp, .int .i64 (dE (fo8 S))], .int .i64 (n : Nat), .agg #[.bool (dN (fo8 A)), .slice q (ws (dX (fo8 A))).length cq, .int .i64 (dE (fo8 A))]] w fun r w' => (∃ b, r = .returned (.bool b) ∧ ((finW x → Nr (n + 1) S A (fvW x)) → b = true)) ∧ Below w.heap.size w w' := by
  by_cases hf : finW x
  · obtain ⟨k, hk⟩ : ∃ k, k = 1021 := ⟨_, rfl⟩
    have hV : (fvW x).natAbs < 2 ^ m := by
      obtain ⟨z, hz⟩ : ∃ z, z = 2098 := ⟨_, rfl⟩
      exact Nat.lt_of_lt_of_le (top_fv hx hf z hz) (Nat.pow_le_pow_right (by decide) (by omega))
    obtain ⟨V, hVe⟩ : ∃ V, V = fvW x := ⟨_, rfl⟩
    have eP := step10 n k hk
    have hP : ((n * 2 ^ k : Nat) : Int).natAbs < 2 ^ (m + 1) := by
      rw [Int.natAbs_natCast]
      refine Nat.lt_of_lt_of_le (m := 2 ^ 9 * 2 ^ k) ((Nat.mul_lt_mul_right (Nat.two_pow_pos k)).2 (by omega)) ?_
      rw [← Nat.pow_add]
      exact Nat.pow_le_pow_right (by decide) (by omega)
    have e2 : 2 ^ (m + 1) = 2 * 2 ^ m := by rw [Nat.pow_succ, Nat.mul_comm]
    have hA1 : A.natAbs < 2 ^ (m + 1) := by omega
    have hD : (V - S).natAbs < 2 ^ (m + 1) := by rw [hVe]; omega
    have FP := fo8_fo ((n * 2 ^ k : Nat) : Int) (m + 1) (by omega) hP
    have FA := fo8_fo A (m + 1) (by omega) hA1
    have FM := FP.mul FA (by omega) (by omega) (by omega)
    obtain ⟨n5, X5, e5, h5, F5, z5, _⟩ := FM.ex
    have lV := fo8_len V m (by omega) (by rw [hVe]; exact hV)
    have lD := fo8_len (V - S) (m + 1) (by omega) hD
    have lP := fo8_len ((n * 2 ^ k : Nat) : Int) (m + 1) (by omega) hP
    have lA := fo8_len A m (by omega) hA
    have hO : Hid (∀ u : World, Below w.heap.size w u → Calls Tryz.prog 21 #[.float .f64 x] u fun r w' => (∃ v, r = .returned (.tuple #[.agg #[.bool (dN (fo8 V)), v, .int .i64 (dE (fo8 V))], .int .i64 0]) ∧ Nt u.heap.size w' v (dX (fo8 V))) ∧ Below u.heap.size u w') := fun u hb => by
      rw [hVe]; exact of_any8 x ⟨hx, hf⟩ u (hT.belows hb)
    have hSb : Hid (∀ (u : World) (a b : Option Addr) (c d : Nat), Below w.heap.size w u → Arg u a (ws (dX (fo8 V))).length c (ws (dX (fo8 V))) → Arg u b (ws (dX (fo8 S))).length d (ws (dX (fo8 S))) → Calls Tryz.prog 56 #[.agg #[.bool (dN (fo8 V)), .slice a (ws (dX (fo8 V))).length c, .int .i64 (dE (fo8 V))], .agg #[.bool (dN (fo8 S)), .slice b (ws (dX (fo8 S))).length d, .int .i64 (dE (fo8 S))]] u fun r w' => (∃ v, r = .returned (.tuple #[.agg #[.bool (dN (fo8 (V - S))), v, .int .i64 (dE (fo8 (V - S)))], .int .i64 0]) ∧ Nt u.heap.size w' v (dX (fo8 (V - S)))) ∧ Below u.heap.size u w') := fun u a b c d hb h1 h2 =>
      sub_any8 V S m (by omega) (by rw [hVe]; exact hV) hS u a b c d (hT.belows hb) h1 h2
    have hSg : Hid (∀ (u : World) (a : Option Addr) (c : Nat), Arg u a (ws (dX (fo8 (V - S)))).length c (ws (dX (fo8 (V - S)))) → Calls Tryz.prog 23 #[.agg #[.bool (dN (fo8 (V - S))), .slice a (ws (dX (fo8 (V - S)))).length c, .int .i64 (dE (fo8 (V - S)))]] u fun r w' => r = .returned (.int .i64 (sgn (dN (fo8 (V - S))) (dX (fo8 (V - S))))) ∧ Below u.heap.size u w') := fun u a c h1 => by
      have := Sign_any3 h1 (dN (fo8 (V - S))) (dE (fo8 (V - S)))
      rw [val_ws] at this
      exact this
    have hM : Hid (∀ (u : World) (a : Option Addr), Below w.heap.size w u → Arg u a 1 1 [n] → Calls Tryz.prog 47 #[.bool false, .slice a 1 1, .int .i64 (-53)] u fun r w' => (∃ v, r = .returned (.tuple #[.agg #[.bool (dN (fo8 ((n * 2 ^ k : Nat) : Int))), v, .int .i64 (dE (fo8 ((n * 2 ^ k : Nat) : Int)))], .int .i64 0]) ∧ Nt u.heap.size w' v (dX (fo8 ((n * 2 ^ k : Nat) : Int)))) ∧ Below u.heap.size u w') := fun u a hb h1 => by
      have := Make_any h1 (hT.belows hb) false (-53) (by decide) (by decide)
      rw [show val [n] = n by simp [val], eP] at this
      unfold DAns at this
      rw [fo8_er _ (m + 1) (by omega) hP] at this
      exact this
    have hMu : Hid (∀ (u : World) (a b : Option Addr) (c d : Nat), Below w.heap.size w u → Arg u a (ws (dX (fo8 ((n * 2 ^ k : Nat) : Int)))).length c (ws (dX (fo8 ((n * 2 ^ k : Nat) : Int)))) → Arg u b (ws (dX (fo8 A))).length d (ws (dX (fo8 A))) → Calls Tryz.prog 57 #[.agg #[.bool (dN (fo8 ((n * 2 ^ k : Nat) : Int))), .slice a (ws (dX (fo8 ((n * 2 ^ k : Nat) : Int)))).length c, .int .i64 (dE (fo8 ((n * 2 ^ k : Nat) : Int)))], .agg #[.bool (dN (fo8 A)), .slice b (ws (dX (fo8 A))).length d, .int .i64 (dE (fo8 A))]] u fun r w' => (∃ v, r = .returned (.tuple #[.agg #[.bool n5, v, .int .i64 e5], .int .i64 0]) ∧ Nt u.heap.size w' v X5) ∧ Below u.heap.size u w') := fun u a b c d hb h1 h2 => by
      have := Mul_any3 h1 h2 (hT.belows hb) (dN (fo8 ((n * 2 ^ k : Nat) : Int))) (dN (fo8 A)) (dE (fo8 ((n * 2 ^ k : Nat) : Int))) (dE (fo8 A)) lP.2.1 lP.2.2.1 lA.2.1 lA.2.2.1
      rw [val_ws, val_ws, fo8_self _ (m + 1) (by omega) hP, fo8_self A m (by omega) hA, h5] at this
      exact this
    have key : ∀ E : Int, E.natAbs < 2 ^ (m + 1) → 9007199254740992 * E ≤ (n : Int) * A → decide (cmpV (dN (fo8 E)) (dX (fo8 E)) (dE (fo8 E)) n5 X5 e5 ≤ 0) = true := fun E hE hle => by
      have FE := fo8_fo E (m + 1) (by omega) hE
      obtain ⟨n6, X6, e6, h6, _⟩ := FE.ex
      rw [h6] at FE
      rw [h5] at FM
      rw [h6]
      show decide (cmpV n6 X6 e6 n5 X5 e5 ≤ 0) = true
      rw [cmp_fo FE FM]
      have hU : (UU : Int) = ((2 ^ EU : Nat) : Int) := by rw [U_eq]
      have := near_scale n E A k EU hk rfl hle
      rw [← hU] at this
      unfold cmpZ
      by_cases hlt : E * (UU : Int) < ((n * 2 ^ k : Nat) : Int) * A
      · rw [if_pos hlt]; rfl
      · rw [if_neg hlt, if_neg (by omega)]; rfl
    have hC : ∀ E : Int, E.natAbs < 2 ^ (m + 1) → Hid (∀ (u : World) (a b : Option Addr) (c d : Nat), Arg u a (ws (dX (fo8 E))).length c (ws (dX (fo8 E))) → Arg u b (ws X5).length d (ws X5) → Calls Tryz.prog 58 #[.agg #[.bool (dN (fo8 E)), .slice a (ws (dX (fo8 E))).length c, .int .i64 (dE (fo8 E))], .agg #[.bool n5, .slice b (ws X5).length d, .int .i64 e5]] u fun r w' => r = .returned (.int .i64 (cmpV (dN (fo8 E)) (dX (fo8 E)) (dE (fo8 E)) n5 X5 e5)) ∧ Below u.heap.size u w') := fun E hE u a b c d h1 h2 => by
      have lE := fo8_len E (m + 1) (by omega) hE
      have h5u := F5.up
      have h5d := F5.down
      have := Cmp_any3 h1 h2 (dN (fo8 E)) n5 (dE (fo8 E)) e5 lE.2.1 lE.2.2.1 (by omega) (by omega)
      rw [val_ws, val_ws] at this
      exact this
    have hsg := sgn_neg10 (V - S) (m + 1) (by omega) hD
    by_cases hneg : V - S < 0
    · rw [decide_eq_true hneg] at hsg
      have hD2 : (-(V - S)).natAbs < 2 ^ (m + 1) := by omega
      have lD2 := fo8_len (-(V - S)) (m + 1) (by omega) hD2
      have hN : Hid (∀ (u : World) (a : Option Addr) (c : Nat), Below w.heap.size w u → Arg u a (ws (dX (fo8 (V - S)))).length c (ws (dX (fo8 (V - S)))) → Calls Tryz.prog 24 #[.agg #[.bool (dN (fo8 (V - S))), .slice a (ws (dX (fo8 (V - S)))).length c, .int .i64 (dE (fo8 (V - S)))]] u fun r w' => (∃ v, r = .returned (.agg #[.bool (dN (fo8 (-(V - S)))), v, .int .i64 (dE (fo8 (-(V - S))))]) ∧ Nt u.heap.size w' v (dX (fo8 (-(V - S))))) ∧ Below u.heap.size u w') := fun u a c hb h1 => by
        have := Neg_any h1 (hT.belows hb) (dN (fo8 (V - S))) (dE (fo8 (V - S))) lD.2.1 lD.2.2.1
        rw [val_ws, fo8_neg (V - S) (m + 1) (by omega) hD] at this
        exact this
      refine (off_neg x n _ _ _ _ _ _ _ _ _ _ _ _ _ _ _ _ _ _ _ _ _ _ _ w p q cp cq lV.1 lD.1 lD2.1 lP.1 (frmLen F5) A1 A2 hsg _ rfl hn hO hSb hSg hN hM hMu (hC (-(V - S)) hD2)).mono ?_
      rintro r w' ⟨rfl, hb⟩
      refine ⟨⟨_, rfl, fun h => key (-(V - S)) hD2 ?_⟩, hb⟩
      obtain ⟨g1, g2, g3, g4, g5⟩ := h hf
      rw [Nat.add_sub_cancel] at g4 g5
      rw [hVe]
      omega
    · rw [decide_eq_false hneg] at hsg
      refine (off_pos x n _ _ (dN (fo8 (V - S))) _ _ _ _ _ _ (dX (fo8 (V - S))) _ _ _ _ _ _ (dE (fo8 (V - S))) _ _ _ _ _ _ w p q cp cq lV.1 lD.1 lD.1 lP.1 (frmLen F5) A1 A2 hsg _ rfl hn hO hSb hSg hM hMu (hC (V - S) hD)).mono ?_
      rintro r w' ⟨rfl, hb⟩
      refine ⟨⟨_, rfl, fun h => key (V - S) hD ?_⟩, hb⟩
      obtain ⟨g1, g2, g3, g4, g5⟩ := h hf
      rw [Nat.add_sub_cancel] at g4 g5
      rw [hVe]
      omega
  · obtain ⟨s, e, f, he, hf2, h1, _⟩ := bwz x hx
    have he2 : e = 2047 := by
      have : magW x = e * 4503599627370496 + f := by
        rw [h1]
        unfold magW B.bw
        cases s <;> simp <;> omega
      unfold finW at hf
      omega
    have hO : Hid (∀ u : World, Below w.heap.size w u → Calls Tryz.prog 21 #[.float .f64 x] u fun r w' => (∃ v, r = .returned (.tuple #[.agg #[.bool (dN none), v, .int .i64 (dE none)], .int .i64 30]) ∧ Nt u.heap.size w' v (dX none)) ∧ Below u.heap.size u w') := fun u hb => by
      have := Of_any s e f he hf2 u (hT.belows hb)
      rw [← h1, show ofR s e f = none by unfold ofR; rw [if_pos he2], show ofE e = 30 by unfold ofE; rw [if_pos he2]] at this
      exact this
    refine (off_odd x n _ _ _ _ _ _ _ _ _ w p q cp cq (by simp [dX, ws_zero]) hO).mono ?_
    rintro r w' ⟨rfl, hb⟩
    exact ⟨⟨true, rfl, fun _ => rfl⟩, hb⟩
end Go.Proofs.YteoednbmhiblfaaGreatDoor

/- SumsNear: Dyads in blocks by their values, bounds. -/
namespace Go.Proofs.YteoednbmhiblfaaGreatDoor
open Go.RowKit J
set_option linter.unusedVariables false
set_option maxRecDepth 20000
set_option linter.unusedSimpArgs false

/-- A Dyad's block whose value is V. -/
def Lv10 (w : World) (g : Nat) (V : Int) : Prop := ∃ a c, Dk w g (dN (fo8 V)) (.slice a (ws (dX (fo8 V))).length c) (dE (fo8 V)) ∧ Nt 0 w (.slice a (ws (dX (fo8 V))).length c) (dX (fo8 V))
theorem Lv10.below {w w' : World} {g : Nat} {V : Int} (h : Lv10 w g V) (hb : Below w.heap.size w w') : Lv10 w' g V := by
  obtain ⟨a, c, h1, h2⟩ := h
  exact ⟨a, c, h1.below hb, h2.below hb⟩
theorem Lv10.lt {w : World} {g : Nat} {V : Int} (h : Lv10 w g V) : g < w.heap.size := by
  obtain ⟨a, c, h1, h2⟩ := h
  exact h1.lt
theorem Lv10.set {w : World} {g : Nat} {V U : Int} (h : Lv10 w g V) {a : Option Addr} {c : Nat} (hN : Nt 0 w (.slice a (ws (dX (fo8 U))).length c) (dX (fo8 U))) :
    Lv10 (st3 w g (.bool (dN (fo8 U))) (.slice a (ws (dX (fo8 U))).length c) (.int .i64 (dE (fo8 U)))) g U := by
  obtain ⟨a0, c0, h1, h2⟩ := h
  exact ⟨a, c, h1.set _ _ _, hN.dk9 h1 (st3_but10 g w _ _ _)⟩
theorem Lv10.other {w : World} {g g' : Nat} {V U : Int} (h : Lv10 w g V) (h' : Lv10 w g' U) (hg : g ≠ g') (x y z : Value) : Lv10 (st3 w g' x y z) g V := by
  obtain ⟨a, c, h1, h2⟩ := h
  obtain ⟨a0, c0, k1, k2⟩ := h'
  exact ⟨a, c, h1.but (st3_but10 g' w _ _ _) hg, h2.dk9 k1 (st3_but10 g' w _ _ _)⟩
theorem Lv10.new {w : World} {V : Int} {a : Option Addr} {c : Nat} (hN : Nt 0 w (.slice a (ws (dX (fo8 V))).length c) (dX (fo8 V))) : Lv10 (w.alloc (Obj.cells #[.bool (dN (fo8 V)), .slice a (ws (dX (fo8 V))).length c, .int .i64 (dE (fo8 V))] 37)) w.heap.size V :=
  ⟨a, c, Dk.new _ _ _ _, hN.below (below_alloc _ _)⟩
theorem Lv10.zero (w : World) : Lv10 (w.alloc (Obj.cells #[.bool false, .slice none 0 0, .int .i64 0] 37)) w.heap.size 0 := by
  have z0 : fo8 0 = some (false, 0, 0) := by unfold fo8; exact mkS_zero _ _
  have hw0 : (ws (dX (some (false, 0, 0)))).length = 0 := by simp [dX, ws_zero]
  refine ⟨none, 0, ?_, ?_⟩
  · rw [z0, hw0]; exact Dk.new _ _ _ _
  · rw [z0, hw0]; exact Nt.nil _ _
theorem st3_bel {B g : Nat} {a w : World} (h : Below B a w) (hB : B ≤ w.heap.size) (hg : B ≤ g) (x y z : Value) : Below B a (st3 w g x y z) := But.below h (st3_but10 g w x y z) hB hg
theorem av_bd : ∀ (l : List Nat) (h : ∀ x ∈ l, x < 18446744073709551616 ∧ finW x) (z : Nat) (hz : z = 2098), aV l ≤ ((l.length * 2 ^ z : Nat) : Int) ∧ -(aV l) ≤ sV l ∧ sV l ≤ aV l ∧ 0 ≤ aV l
  | [], _, z, _ => by simp [aV, sV]
  | x :: l, h, z, hz => by
    obtain ⟨h1, h2, h3, h4⟩ := av_bd l (fun y hy => h y (List.mem_cons_of_mem _ hy)) z hz
    obtain ⟨hx, fx⟩ := h x (List.mem_cons_self ..)
    have ht := top_fv hx fx z hz
    simp only [aV, sV, List.length_cons, Nat.add_mul, Nat.one_mul]
    generalize 2 ^ z = K at *
    refine ⟨by omega, by omega, by omega, by omega⟩
theorem bd10 (l : List Nat) (h : ∀ x ∈ l, x < 18446744073709551616 ∧ finW x) (hl : l.length ≤ 300) (m : Nat) (hm : m = 2200) : (sV l).natAbs < 2 ^ m ∧ (aV l).natAbs < 2 ^ m := by
  obtain ⟨z, hz⟩ : ∃ z, z = 2098 := ⟨_, rfl⟩
  obtain ⟨h1, h2, h3, h4⟩ := av_bd l h z hz
  have h5 : l.length * 2 ^ z ≤ 300 * 2 ^ z := Nat.mul_le_mul_right _ hl
  have h6 : 2 ^ 9 * 2 ^ z ≤ 2 ^ m := by rw [← Nat.pow_add]; exact Nat.pow_le_pow_right (by decide) (by omega)
  have h7 := Nat.two_pow_pos z
  generalize 2 ^ z = K at *
  generalize 2 ^ m = M at *
  omega
theorem sV_take (l : List Nat) (k : Nat) (h : k < l.length) : sV (l.take (k + 1)) = sV (l.take k) + fvW (l.getD k 0) ∧ aV (l.take (k + 1)) = aV (l.take k) + ((fvW (l.getD k 0)).natAbs : Int) := by
  rw [take_snoc10 l k h, sV_app, aV_app]
  simp [sV, aV]
end Go.Proofs.YteoednbmhiblfaaGreatDoor

