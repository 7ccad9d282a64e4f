/- DyadRing: the walk. -/
import Derived.Test.YtonhahbmdekkdaaDoorD42
import Derived.Test.YtonhahbmdekkdaaDoorD9x
import Derived.BigQuiet
import Derived.Deep.CutRange
import Derived.Deep.RegionHeld3
namespace Go.Proofs.YtonhahbmdekkdaaDoor
open Go.RowKit
set_option linter.unusedVariables false
set_option maxRecDepth 20000
set_option linter.unusedSimpArgs false

theorem ring_new {w u : World} {gF : Nat} {ds : List (Nat × Bool × Value × Int)} {ns : List (Value × Nat)} {b : Bool} {a : Option Addr} {c X : Nat} (S : Stt w gF ds ((.slice a (ws X).length c, X) :: ns) u) (hF : Fk u gF b) (n : Bool) (e : Int) :
    ∃ g a' c', Value.pointer (some ⟨u.heap.size, 0, none⟩) = .pointer (some ⟨g, 0, none⟩) ∧ Aside (Stt w gF ((g, n, .slice a' (ws X).length c', e) :: ds) ((.slice a' (ws X).length c', X) :: ns) (u.alloc (.cells #[.bool n, .slice a (ws X).length c, .int .i64 e] 38)) ∧ Fk (u.alloc (.cells #[.bool n, .slice a (ws X).length c, .int .i64 e] 38)) gF b) :=
  ⟨_, a, c, rfl, (S.below (below_alloc u _)).addD (Dk.new u n (.slice a (ws X).length c) e) (by have := S.hi; omega), hF.below (below_alloc u _)⟩
theorem ring_set {w u : World} {gF g : Nat} {ds : List (Nat × Bool × Value × Int)} {ns : List (Value × Nat)} {b : Bool} {a : Option Addr} {c X : Nat} (S : Stt w gF ds ((.slice a (ws X).length c, X) :: ns) u) (hF : Fk u gF b) (E : Dk u g false (.slice none 0 0) 0) (hg : g ≠ gF) (hlo : w.heap.size ≤ g) (hds : ∀ d ∈ ds, d.1 ≠ g) (n : Bool) (e : Int) :
    ∃ g' a' c', Value.pointer (some ⟨g, 0, none⟩) = .pointer (some ⟨g', 0, none⟩) ∧ Aside (Stt w gF ((g', n, .slice a' (ws X).length c', e) :: ds) ((.slice a' (ws X).length c', X) :: ns) (st3 u g (.bool n) (.slice a (ws X).length c) (.int .i64 e)) ∧ Fk (st3 u g (.bool n) (.slice a (ws X).length c) (.int .i64 e)) gF b) :=
  ⟨g, a, c, rfl, S.set E hg hlo hds _ _ _, hF.st3 g (fun h => hg h.symm) _ _ _⟩
theorem Stt.getD {w u : World} {gF : Nat} {ds : List (Nat × Bool × Value × Int)} {ns : List (Value × Nat)} {g : Nat} {n : Bool} {v : Value} {e : Int} (S : Stt w gF ds ns u) (h : (g, n, v, e) ∈ ds) : Dk u g n v e := (S.dk _ h).1
theorem Stt.getN {w u : World} {gF : Nat} {ds : List (Nat × Bool × Value × Int)} {ns : List (Value × Nat)} {v : Value} {X : Nat} (S : Stt w gF ds ns u) (h : (v, X) ∈ ns) : Nt (gF + 1) u v X := S.nt _ h
theorem Stt.ne {w u : World} {gF : Nat} {ds : List (Nat × Bool × Value × Int)} {ns : List (Value × Nat)} (S : Stt w gF ds ns u) : ∀ d ∈ ds, d.1 ≠ u.heap.size := fun d hd => Nat.ne_of_lt (S.dk d hd).1.lt
theorem Stt.pick1 {w u : World} {gF : Nat} {ds : List (Nat × Bool × Value × Int)} {ns : List (Value × Nat)} {x y : Value × Nat} (S : Stt w gF ds (x :: y :: ns) u) : Stt w gF ds (x :: ns) u := ⟨S.bel, S.lo, S.hi, S.dk, fun z hz => S.nt z (by rcases List.mem_cons.1 hz with rfl | h; exact List.mem_cons_self; exact List.mem_cons_of_mem _ (List.mem_cons_of_mem _ h))⟩
theorem Stt.pick2 {w u : World} {gF : Nat} {ds : List (Nat × Bool × Value × Int)} {ns : List (Value × Nat)} {x y z : Value × Nat} (S : Stt w gF ds (x :: y :: z :: ns) u) : Stt w gF ds (x :: ns) u := S.pick1.pick1
theorem or_no {a b : Bool} (h : (a || b) = false) : a = false ∧ b = false := by cases a <;> cases b <;> simp_all
theorem bne_no {x : Int} (h : (x != 0) = false) : x = 0 := by simpa using h

set_option maxHeartbeats 32000000 in
set_option maxRecDepth 100000 in
theorem ring_core (nA nB nC : Bool) (aA aB aC : Option Addr) (lA cA lB cB lC cC : Nat) (xs ys zs : List Nat) (eA eB eC : Int) (w : World) (hx0 : Arg w aA lA cA xs) (hx1 : Arg w aB lB cB ys) (hx2 : Arg w aC lC cC zs) (hT : Tab w)
    (n1 n2 n3 n4 n5 n6 n7 n8 n9 n11 n12 n13 nN n14 n15 : Bool) (X1 X2 X3 X4 X5 X6 X7 X8 X9 X11 X12 X13 XN X14 X15 : Nat) (e1 e2 e3 e4 e5 e6 e7 e8 e9 e11 e12 e13 eN e14 e15 : Int) (er1 er2 er3 er4 er5 er6 er7 er8 er9 er11 er12 er13 er14 er15 : Int) (sv cv : Int) (l1 : (ws X1).length ≤ 8192) (l2 : (ws X2).length ≤ 8192) (l3 : (ws X3).length ≤ 8192) (l4 : (ws X4).length ≤ 8192) (l5 : (ws X5).length ≤ 8192) (l6 : (ws X6).length ≤ 8192) (l7 : (ws X7).length ≤ 8192) (l8 : (ws X8).length ≤ 8192) (l9 : (ws X9).length ≤ 8192) (l11 : (ws X11).length ≤ 8192) (l12 : (ws X12).length ≤ 8192) (l13 : (ws X13).length ≤ 8192) (lN : (ws XN).length ≤ 8192) (l14 : (ws X14).length ≤ 8192) (l15 : (ws X15).length ≤ 8192)
    (HO1 : Hid (∀ (u : World) , Below w.heap.size w u → Calls Tryd.prog 21 #[.agg #[.bool nA, .slice aA lA cA, .int .i64 eA], .agg #[.bool nB, .slice aB lB cB, .int .i64 eB]] u fun r w' => (∃ v, r = .returned (.tuple #[.agg #[.bool n1, v, .int .i64 e1], .int .i64 er1]) ∧ Nt u.heap.size w' v X1) ∧ Below u.heap.size u w'))
    (HO2 : Hid (∀ (u : World) , Below w.heap.size w u → Calls Tryd.prog 21 #[.agg #[.bool nB, .slice aB lB cB, .int .i64 eB], .agg #[.bool nC, .slice aC lC cC, .int .i64 eC]] u fun r w' => (∃ v, r = .returned (.tuple #[.agg #[.bool n2, v, .int .i64 e2], .int .i64 er2]) ∧ Nt u.heap.size w' v X2) ∧ Below u.heap.size u w'))
    (HO3 : Hid (∀ (u : World) (p : Option Addr) (s : Nat), Below w.heap.size w u → Arg u p (ws X1).length s (ws X1) → Calls Tryd.prog 21 #[.agg #[.bool n1, .slice p (ws X1).length s, .int .i64 e1], .agg #[.bool nC, .slice aC lC cC, .int .i64 eC]] u fun r w' => (∃ v, r = .returned (.tuple #[.agg #[.bool n3, v, .int .i64 e3], .int .i64 er3]) ∧ Nt u.heap.size w' v X3) ∧ Below u.heap.size u w'))
    (HO4 : Hid (∀ (u : World) (q : Option Addr) (t : Nat), Below w.heap.size w u → Arg u q (ws X2).length t (ws X2) → Calls Tryd.prog 21 #[.agg #[.bool nA, .slice aA lA cA, .int .i64 eA], .agg #[.bool n2, .slice q (ws X2).length t, .int .i64 e2]] u fun r w' => (∃ v, r = .returned (.tuple #[.agg #[.bool n4, v, .int .i64 e4], .int .i64 er4]) ∧ Nt u.heap.size w' v X4) ∧ Below u.heap.size u w'))
    (HO5 : Hid (∀ (u : World) , Below w.heap.size w u → Calls Tryd.prog 27 #[.agg #[.bool nA, .slice aA lA cA, .int .i64 eA], .agg #[.bool nB, .slice aB lB cB, .int .i64 eB]] u fun r w' => (∃ v, r = .returned (.tuple #[.agg #[.bool n5, v, .int .i64 e5], .int .i64 er5]) ∧ Nt u.heap.size w' v X5) ∧ Below u.heap.size u w'))
    (HO6 : Hid (∀ (u : World) (p : Option Addr) (s : Nat), Below w.heap.size w u → Arg u p (ws X5).length s (ws X5) → Calls Tryd.prog 27 #[.agg #[.bool n5, .slice p (ws X5).length s, .int .i64 e5], .agg #[.bool nC, .slice aC lC cC, .int .i64 eC]] u fun r w' => (∃ v, r = .returned (.tuple #[.agg #[.bool n6, v, .int .i64 e6], .int .i64 er6]) ∧ Nt u.heap.size w' v X6) ∧ Below u.heap.size u w'))
    (HO7 : Hid (∀ (u : World) , Below w.heap.size w u → Calls Tryd.prog 27 #[.agg #[.bool nB, .slice aB lB cB, .int .i64 eB], .agg #[.bool nC, .slice aC lC cC, .int .i64 eC]] u fun r w' => (∃ v, r = .returned (.tuple #[.agg #[.bool n7, v, .int .i64 e7], .int .i64 er7]) ∧ Nt u.heap.size w' v X7) ∧ Below u.heap.size u w'))
    (HO8 : Hid (∀ (u : World) (q : Option Addr) (t : Nat), Below w.heap.size w u → Arg u q (ws X7).length t (ws X7) → Calls Tryd.prog 27 #[.agg #[.bool nA, .slice aA lA cA, .int .i64 eA], .agg #[.bool n7, .slice q (ws X7).length t, .int .i64 e7]] u fun r w' => (∃ v, r = .returned (.tuple #[.agg #[.bool n8, v, .int .i64 e8], .int .i64 er8]) ∧ Nt u.heap.size w' v X8) ∧ Below u.heap.size u w'))
    (HO9 : Hid (∀ (u : World) (q : Option Addr) (t : Nat), Below w.heap.size w u → Arg u q (ws X2).length t (ws X2) → Calls Tryd.prog 27 #[.agg #[.bool nA, .slice aA lA cA, .int .i64 eA], .agg #[.bool n2, .slice q (ws X2).length t, .int .i64 e2]] u fun r w' => (∃ v, r = .returned (.tuple #[.agg #[.bool n9, v, .int .i64 e9], .int .i64 er9]) ∧ Nt u.heap.size w' v X9) ∧ Below u.heap.size u w'))
    (HO11 : Hid (∀ (u : World) , Below w.heap.size w u → Calls Tryd.prog 27 #[.agg #[.bool nA, .slice aA lA cA, .int .i64 eA], .agg #[.bool nC, .slice aC lC cC, .int .i64 eC]] u fun r w' => (∃ v, r = .returned (.tuple #[.agg #[.bool n11, v, .int .i64 e11], .int .i64 er11]) ∧ Nt u.heap.size w' v X11) ∧ Below u.heap.size u w'))
    (HO12 : Hid (∀ (u : World) (p : Option Addr) (s : Nat) (q : Option Addr) (t : Nat), Below w.heap.size w u → Arg u p (ws X5).length s (ws X5) → Arg u q (ws X11).length t (ws X11) → Calls Tryd.prog 21 #[.agg #[.bool n5, .slice p (ws X5).length s, .int .i64 e5], .agg #[.bool n11, .slice q (ws X11).length t, .int .i64 e11]] u fun r w' => (∃ v, r = .returned (.tuple #[.agg #[.bool n12, v, .int .i64 e12], .int .i64 er12]) ∧ Nt u.heap.size w' v X12) ∧ Below u.heap.size u w'))
    (HO13 : Hid (∀ (u : World) (p : Option Addr) (s : Nat) (q : Option Addr) (t : Nat), Below w.heap.size w u → Arg u p (ws X1).length s (ws X1) → Arg u q (ws XN).length t (ws XN) → Calls Tryd.prog 21 #[.agg #[.bool n1, .slice p (ws X1).length s, .int .i64 e1], .agg #[.bool nN, .slice q (ws XN).length t, .int .i64 eN]] u fun r w' => (∃ v, r = .returned (.tuple #[.agg #[.bool n13, v, .int .i64 e13], .int .i64 er13]) ∧ Nt u.heap.size w' v X13) ∧ Below u.heap.size u w'))
    (HN : Hid (∀ u, Below w.heap.size w u → Calls Tryd.prog 29 #[.agg #[.bool nB, .slice aB lB cB, .int .i64 eB]] u fun r w' => (∃ v, r = .returned (.agg #[.bool nN, v, .int .i64 eN]) ∧ Nt u.heap.size w' v XN) ∧ Below u.heap.size u w'))
    (HMk : Hid (∀ u, Below w.heap.size w u → Calls Tryd.prog 43 #[.bool nA, .slice aA lA cA, .int .i64 eA] u fun r w' => (∃ v, r = .returned (.tuple #[.agg #[.bool n14, v, .int .i64 e14], .int .i64 er14]) ∧ Nt u.heap.size w' v X14) ∧ Below u.heap.size u w'))
    (HSb : Hid (∀ u, Below w.heap.size w u → Calls Tryd.prog 22 #[.agg #[.bool nA, .slice aA lA cA, .int .i64 eA], .agg #[.bool nB, .slice aB lB cB, .int .i64 eB]] u fun r w' => (∃ v, r = .returned (.tuple #[.agg #[.bool n15, v, .int .i64 e15], .int .i64 er15]) ∧ Nt u.heap.size w' v X15) ∧ Below u.heap.size u w'))
    (HSg : Hid (∀ (u : World) (p : Option Addr) (s : Nat), Below w.heap.size w u → Arg u p (ws X15).length s (ws X15) → Calls Tryd.prog 31 #[.agg #[.bool n15, .slice p (ws X15).length s, .int .i64 e15]] u fun r w' => r = .returned (.int .i64 sv) ∧ Below u.heap.size u w'))
    (HCm : Hid (∀ u, Below w.heap.size w u → Calls Tryd.prog 30 #[.agg #[.bool nA, .slice aA lA cA, .int .i64 eA], .agg #[.bool nB, .slice aB lB cB, .int .i64 eB]] u fun r w' => r = .returned (.int .i64 cv) ∧ Below u.heap.size u w'))
    (HE : Aside (er1 = 0 → er2 = 0 → er3 = 0 → er4 = 0 → er5 = 0 → er6 = 0 → er7 = 0 → er8 = 0 → er9 = 0 → er11 = 0 → er12 = 0 → er13 = 0 → er14 = 0 → (n3 = n4 ∧ X3 = X4 ∧ e3 = e4) ∧ (n6 = n8 ∧ X6 = X8 ∧ e6 = e8) ∧ (n9 = n12 ∧ X9 = X12 ∧ e9 = e12) ∧ (n13 = n14 ∧ X13 = X14 ∧ e13 = e14) ∧ (er15 = 0 → sv = cv))) :
    Calls Tryd.prog 8 #[.agg #[.bool nA, .slice aA lA cA, .int .i64 eA], .agg #[.bool nB, .slice aB lB cB, .int .i64 eB], .agg #[.bool nC, .slice aC lC cC, .int .i64 eC]] w fun r w' => r = .returned (.bool true) ∧ Below w.heap.size w w' := by
  obtain ⟨W1, hW1⟩ : ∃ W, W = ((w.alloc (.cells #[.bool nA, .slice aA lA cA, .int .i64 eA] 38)).alloc (.cells #[.bool nB, .slice aB lB cB, .int .i64 eB] 38)).alloc (.cells #[.bool nC, .slice aC lC cC, .int .i64 eC] 38) := ⟨_, rfl⟩
  have hB : Below w.heap.size w W1 := by rw [hW1]; exact ((below_alloc w _).alloc (by simp) _).alloc (by simp; omega) _
  have hz : W1.heap.size = w.heap.size + 3 := by rw [hW1]; simp
  have DA : Dk W1 w.heap.size nA (.slice aA lA cA) eA := by rw [hW1]; exact ((Dk.new w nA (.slice aA lA cA) eA).alloc _).alloc _
  have DB : Dk W1 (w.heap.size + 1) nB (.slice aB lB cB) eB := by rw [hW1]; have := (Dk.new (w.alloc (.cells #[.bool nA, .slice aA lA cA, .int .i64 eA] 38)) nB (.slice aB lB cB) eB).alloc (.cells #[.bool nC, .slice aC lC cC, .int .i64 eC] 38); simpa using this
  have DC : Dk W1 (w.heap.size + 1 + 1) nC (.slice aC lC cC) eC := by rw [hW1]; have := Dk.new ((w.alloc (.cells #[.bool nA, .slice aA lA cA, .int .i64 eA] 38)).alloc (.cells #[.bool nB, .slice aB lB cB, .int .i64 eB] 38)) nC (.slice aC lC cC) eC; simpa using this
  have AW := hid (awake3_any W1 (hT.belows hB))
  have hq : w.heap.size + 1 + 1 < W1.heap.size := by omega
  have SB := (Aside.intro (And.intro hB (And.intro DA (And.intro DB DC))))
  have HX := (Aside.intro (And.intro hx0 (And.intro hx1 hx2)))
  obtain ⟨bq1, hbq⟩ : ∃ b, (false || (er1 != 0)) = b := ⟨_, rfl⟩
  have HB1 := Aside.intro hbq
  clear hbq
  obtain ⟨bq2, hbq⟩ : ∃ b, (bq1 || (er2 != 0)) = b := ⟨_, rfl⟩
  have HB2 := Aside.intro hbq
  clear hbq
  obtain ⟨bq3, hbq⟩ : ∃ b, (bq2 || (er3 != 0)) = b := ⟨_, rfl⟩
  have HB3 := Aside.intro hbq
  clear hbq
  obtain ⟨bq4, hbq⟩ : ∃ b, (bq3 || (er4 != 0)) = b := ⟨_, rfl⟩
  have HB4 := Aside.intro hbq
  clear hbq
  obtain ⟨bq5, hbq⟩ : ∃ b, (bq4 || (er5 != 0)) = b := ⟨_, rfl⟩
  have HB5 := Aside.intro hbq
  clear hbq
  obtain ⟨bq6, hbq⟩ : ∃ b, (bq5 || (er6 != 0)) = b := ⟨_, rfl⟩
  have HB6 := Aside.intro hbq
  clear hbq
  obtain ⟨bq7, hbq⟩ : ∃ b, (bq6 || (er7 != 0)) = b := ⟨_, rfl⟩
  have HB7 := Aside.intro hbq
  clear hbq
  obtain ⟨bq8, hbq⟩ : ∃ b, (bq7 || (er8 != 0)) = b := ⟨_, rfl⟩
  have HB8 := Aside.intro hbq
  clear hbq
  obtain ⟨bq9, hbq⟩ : ∃ b, (bq8 || (er9 != 0)) = b := ⟨_, rfl⟩
  have HB9 := Aside.intro hbq
  clear hbq
  obtain ⟨bq10, hbq⟩ : ∃ b, (bq9 || (er5 != 0)) = b := ⟨_, rfl⟩
  have HB10 := Aside.intro hbq
  clear hbq
  obtain ⟨bq11, hbq⟩ : ∃ b, (bq10 || (er11 != 0)) = b := ⟨_, rfl⟩
  have HB11 := Aside.intro hbq
  clear hbq
  obtain ⟨bq12, hbq⟩ : ∃ b, (bq11 || (er12 != 0)) = b := ⟨_, rfl⟩
  have HB12 := Aside.intro hbq
  clear hbq
  obtain ⟨bq13, hbq⟩ : ∃ b, (bq12 || (er13 != 0)) = b := ⟨_, rfl⟩
  have HB13 := Aside.intro hbq
  clear hbq
  clear hx0 hx1 hx2 hT hB hz DA DB DC
  go_enter Tryd.func8, Tryd.ntmps8
  go_wp2_with fail
  rw [← hW1]
  clear hW1
  refine (Calls.mono AW.out) ?_
  rintro r v0 ⟨rfl, hb⟩
  have hs0 := hb.size
  obtain ⟨gF, hgF⟩ : ∃ g, g = v0.heap.size := ⟨_, rfl⟩
  obtain ⟨U0, hU0⟩ : ∃ U, U = v0.alloc (.cells #[.bool false] 58) := ⟨_, rfl⟩
  have hA : Below v0.heap.size v0 U0 := by rw [hU0]; exact below_alloc _ _
  have F0 : Fk U0 gF false := by rw [hU0, hgF]; exact heap_alloc_new _ _
  have St0 : Stt w gF [] [] U0 := ⟨(SB.out.1.trans (hb.mono (by omega))).trans (hA.mono (by omega)), by omega, F0.lt, fun _ h => (List.not_mem_nil h).elim, fun _ h => (List.not_mem_nil h).elim⟩
  have St1 := ((St0.addD ((SB.out.2.2.2.below hb).below hA) (by omega)).addD ((SB.out.2.2.1.below hb).below hA) (by omega)).addD ((SB.out.2.1.below hb).below hA) (by omega)
  have S0 := (Aside.intro (And.intro St1 F0))
  have hgl0 : gF < U0.heap.size := F0.lt
  have hgw : w.heap.size + 1 + 1 < gF := by omega
  clear hb AW SB St0 St1 F0 hA
  go_upto_region 5 with fail
  rw [← hU0]
  rw [← hgF]
  clear hU0 hgF hs0
  obtain ⟨kA0, kA1, kA2, kfA0, kfA1, kfA2⟩ := ((Stt.getD (g := w.heap.size) (n := nA) (v := .slice aA lA cA) (e := eA) S0.out.1 List.mem_cons_self)).facts
  obtain ⟨kB0, kB1, kB2, kfB0, kfB1, kfB2⟩ := ((Stt.getD (g := w.heap.size + 1) (n := nB) (v := .slice aB lB cB) (e := eB) S0.out.1 (List.mem_cons_of_mem _ List.mem_cons_self))).facts
  have H := hid (fadd_all nA nB eA eB gF false S0.out.2 n1 X1 e1 er1 l1 (hid fun u' hu' => HO1.out u'  (S0.out.1.bel.trans (hu'.mono S0.out.1.bel.size)) ))
  go_wp2_with fail
  clear kA0 kA1 kA2 kfA0 kfA1 kfA2 kB0 kB1 kB2 kfB0 kfB1 kfB2
  refine (Calls.mono H.out) ?_
  rintro r u1 ⟨⟨v, rfl, hN⟩, hbut, hF⟩
  obtain ⟨a1, c1, rfl, _⟩ := hN.arg (by omega)
  have hs1 := hbut.size
  obtain ⟨U1, hU1⟩ : ∃ U, U = u1.alloc (.cells #[.bool n1, .slice a1 (ws X1).length c1, .int .i64 e1] 38) := ⟨_, rfl⟩
  have hA : Below u1.heap.size u1 U1 := by rw [hU1]; exact below_alloc _ _
  have DN : Dk U1 u1.heap.size n1 (.slice a1 (ws X1).length c1) e1 := by rw [hU1]; exact Dk.new _ _ _ _
  have hgl1 : gF < U1.heap.size := by have := hA.size; omega
  rw [HB1.out] at hF
  have T0 := ((S0.out.1.but hbut).below hA).addN ((hN.mono (lo' := gF + 1) (by omega)).below hA)
  have T1 := T0.addD DN (by omega)
  have F1 := hF.below hA
  have S1 := (Aside.intro (And.intro T1 F1))
  clear hN hbut hF H hA DN T0 T1 F1 S0
  go_upto_region 6 with fail
  rw [← hU1]
  clear hU1
  obtain ⟨kB0, kB1, kB2, kfB0, kfB1, kfB2⟩ := ((Stt.getD (g := w.heap.size + 1) (n := nB) (v := .slice aB lB cB) (e := eB) S1.out.1 (List.mem_cons_of_mem _ (List.mem_cons_of_mem _ List.mem_cons_self)))).facts
  obtain ⟨kC0, kC1, kC2, kfC0, kfC1, kfC2⟩ := ((Stt.getD (g := w.heap.size + 1 + 1) (n := nC) (v := .slice aC lC cC) (e := eC) S1.out.1 (List.mem_cons_of_mem _ (List.mem_cons_of_mem _ (List.mem_cons_of_mem _ List.mem_cons_self))))).facts
  have H := hid (fadd_all nB nC eB eC gF bq1 S1.out.2 n2 X2 e2 er2 l2 (hid fun u' hu' => HO2.out u'  (S1.out.1.bel.trans (hu'.mono S1.out.1.bel.size)) ))
  go_wp2_with fail
  clear kB0 kB1 kB2 kfB0 kfB1 kfB2 kC0 kC1 kC2 kfC0 kfC1 kfC2
  refine (Calls.mono H.out) ?_
  rintro r u2 ⟨⟨v, rfl, hN⟩, hbut, hF⟩
  obtain ⟨a2, c2, rfl, _⟩ := hN.arg (by omega)
  have hs2 := hbut.size
  obtain ⟨U2, hU2⟩ : ∃ U, U = u2.alloc (.cells #[.bool n2, .slice a2 (ws X2).length c2, .int .i64 e2] 38) := ⟨_, rfl⟩
  have hA : Below u2.heap.size u2 U2 := by rw [hU2]; exact below_alloc _ _
  have DN : Dk U2 u2.heap.size n2 (.slice a2 (ws X2).length c2) e2 := by rw [hU2]; exact Dk.new _ _ _ _
  have hgl2 : gF < U2.heap.size := by have := hA.size; omega
  rw [HB2.out] at hF
  have T0 := ((S1.out.1.but hbut).below hA).addN ((hN.mono (lo' := gF + 1) (by omega)).below hA)
  have T1 := T0.addD DN (by omega)
  have F1 := hF.below hA
  have S2 := (Aside.intro (And.intro T1 F1))
  clear hN hbut hF H hA DN T0 T1 F1 S1
  go_upto_region 7 with fail
  rw [← hU2]
  clear hU2
  obtain ⟨k10, k11, k12, kf10, kf11, kf12⟩ := ((Stt.getD (g := u1.heap.size) (n := n1) (v := .slice a1 (ws X1).length c1) (e := e1) S2.out.1 (List.mem_cons_of_mem _ List.mem_cons_self))).facts
  obtain ⟨kC0, kC1, kC2, kfC0, kfC1, kfC2⟩ := ((Stt.getD (g := w.heap.size + 1 + 1) (n := nC) (v := .slice aC lC cC) (e := eC) S2.out.1 (List.mem_cons_of_mem _ (List.mem_cons_of_mem _ (List.mem_cons_of_mem _ (List.mem_cons_of_mem _ List.mem_cons_self)))))).facts
  have H := hid (fadd_all n1 nC e1 eC gF bq2 S2.out.2 n3 X3 e3 er3 l3 (hid fun u' hu' => HO3.out u' a1 c1 (S2.out.1.bel.trans (hu'.mono S2.out.1.bel.size)) (((Stt.getN (v := .slice a1 (ws X1).length c1) (X := X1) S2.out.1 (List.mem_cons_of_mem _ List.mem_cons_self)).arg' (by omega)).2.below hu')))
  go_wp2_with fail
  clear k10 k11 k12 kf10 kf11 kf12 kC0 kC1 kC2 kfC0 kfC1 kfC2
  refine (Calls.mono H.out) ?_
  rintro r u3 ⟨⟨v, rfl, hN⟩, hbut, hF⟩
  obtain ⟨a3, c3, rfl, _⟩ := hN.arg (by omega)
  have hs3 := hbut.size
  obtain ⟨U3, hU3⟩ : ∃ U, U = u3.alloc (.cells #[.bool n3, .slice a3 (ws X3).length c3, .int .i64 e3] 38) := ⟨_, rfl⟩
  have hA : Below u3.heap.size u3 U3 := by rw [hU3]; exact below_alloc _ _
  have DN : Dk U3 u3.heap.size n3 (.slice a3 (ws X3).length c3) e3 := by rw [hU3]; exact Dk.new _ _ _ _
  have hgl3 : gF < U3.heap.size := by have := hA.size; omega
  rw [HB3.out] at hF
  have T0 := ((S2.out.1.but hbut).below hA).addN ((hN.mono (lo' := gF + 1) (by omega)).below hA)
  have T1 := T0.addD DN (by omega)
  have F1 := hF.below hA
  have S3 := (Aside.intro (And.intro T1 F1))
  clear hN hbut hF H hA DN T0 T1 F1 S2
  go_upto_region 8 with fail
  rw [← hU3]
  clear hU3
  obtain ⟨k20, k21, k22, kf20, kf21, kf22⟩ := ((Stt.getD (g := u2.heap.size) (n := n2) (v := .slice a2 (ws X2).length c2) (e := e2) S3.out.1 (List.mem_cons_of_mem _ List.mem_cons_self))).facts
  obtain ⟨kA0, kA1, kA2, kfA0, kfA1, kfA2⟩ := ((Stt.getD (g := w.heap.size) (n := nA) (v := .slice aA lA cA) (e := eA) S3.out.1 (List.mem_cons_of_mem _ (List.mem_cons_of_mem _ (List.mem_cons_of_mem _ List.mem_cons_self))))).facts
  have H := hid (fadd_all nA n2 eA e2 gF bq3 S3.out.2 n4 X4 e4 er4 l4 (hid fun u' hu' => HO4.out u' a2 c2 (S3.out.1.bel.trans (hu'.mono S3.out.1.bel.size)) (((Stt.getN (v := .slice a2 (ws X2).length c2) (X := X2) S3.out.1 (List.mem_cons_of_mem _ List.mem_cons_self)).arg' (by omega)).2.below hu')))
  go_wp2_with fail
  clear k20 k21 k22 kf20 kf21 kf22 kA0 kA1 kA2 kfA0 kfA1 kfA2
  refine (Calls.mono H.out) ?_
  rintro r u4 ⟨⟨v, rfl, hN⟩, hbut, hF⟩
  obtain ⟨a4, c4, rfl, _⟩ := hN.arg (by omega)
  have hs4 := hbut.size
  obtain ⟨U4, hU4⟩ : ∃ U, U = u4.alloc (.cells #[.bool n4, .slice a4 (ws X4).length c4, .int .i64 e4] 38) := ⟨_, rfl⟩
  have hA : Below u4.heap.size u4 U4 := by rw [hU4]; exact below_alloc _ _
  have DN : Dk U4 u4.heap.size n4 (.slice a4 (ws X4).length c4) e4 := by rw [hU4]; exact Dk.new _ _ _ _
  have hgl4 : gF < U4.heap.size := by have := hA.size; omega
  rw [HB4.out] at hF
  have T0 := ((S3.out.1.but hbut).below hA).addN ((hN.mono (lo' := gF + 1) (by omega)).below hA)
  have T1 := T0.addD DN (by omega)
  have F1 := hF.below hA
  have S4 := (Aside.intro (And.intro T1 F1))
  clear hN hbut hF H hA DN T0 T1 F1 S3
  go_upto_region 9 with fail
  rw [← hU4]
  clear hU4
  go_cut [13] from 43 to 49 (fun p wx => ∃ g a c, p = .pointer (some ⟨g, 0, none⟩) ∧ Aside (Stt w gF ((g, n6, .slice a (ws X6).length c, e6) :: [(u4.heap.size, n4, .slice a4 (ws X4).length c4, e4), (u3.heap.size, n3, .slice a3 (ws X3).length c3, e3), (u2.heap.size, n2, .slice a2 (ws X2).length c2, e2), (u1.heap.size, n1, .slice a1 (ws X1).length c1, e1), (w.heap.size, nA, .slice aA lA cA, eA), (w.heap.size + 1, nB, .slice aB lB cB, eB), (w.heap.size + 1 + 1, nC, .slice aC lC cC, eC)]) ((.slice a (ws X6).length c, X6) :: [(.slice a4 (ws X4).length c4, X4), (.slice a3 (ws X3).length c3, X3), (.slice a2 (ws X2).length c2, X2), (.slice a1 (ws X1).length c1, X1)]) wx ∧ Fk wx gF bq6))
  case first =>
    obtain ⟨kA0, kA1, kA2, kfA0, kfA1, kfA2⟩ := ((Stt.getD (g := w.heap.size) (n := nA) (v := .slice aA lA cA) (e := eA) S4.out.1 (List.mem_cons_of_mem _ (List.mem_cons_of_mem _ (List.mem_cons_of_mem _ (List.mem_cons_of_mem _ List.mem_cons_self)))))).facts
    obtain ⟨kB0, kB1, kB2, kfB0, kfB1, kfB2⟩ := ((Stt.getD (g := w.heap.size + 1) (n := nB) (v := .slice aB lB cB) (e := eB) S4.out.1 (List.mem_cons_of_mem _ (List.mem_cons_of_mem _ (List.mem_cons_of_mem _ (List.mem_cons_of_mem _ (List.mem_cons_of_mem _ List.mem_cons_self))))))).facts
    obtain ⟨kC0, kC1, kC2, kfC0, kfC1, kfC2⟩ := ((Stt.getD (g := w.heap.size + 1 + 1) (n := nC) (v := .slice aC lC cC) (e := eC) S4.out.1 (List.mem_cons_of_mem _ (List.mem_cons_of_mem _ (List.mem_cons_of_mem _ (List.mem_cons_of_mem _ (List.mem_cons_of_mem _ (List.mem_cons_of_mem _ List.mem_cons_self)))))))).facts
    have hltA : w.heap.size < U4.heap.size := ((Stt.getD (g := w.heap.size) (n := nA) (v := .slice aA lA cA) (e := eA) S4.out.1 (List.mem_cons_of_mem _ (List.mem_cons_of_mem _ (List.mem_cons_of_mem _ (List.mem_cons_of_mem _ List.mem_cons_self)))))).lt
    have hltB : w.heap.size + 1 < U4.heap.size := ((Stt.getD (g := w.heap.size + 1) (n := nB) (v := .slice aB lB cB) (e := eB) S4.out.1 (List.mem_cons_of_mem _ (List.mem_cons_of_mem _ (List.mem_cons_of_mem _ (List.mem_cons_of_mem _ (List.mem_cons_of_mem _ List.mem_cons_self))))))).lt
    have hltC : w.heap.size + 1 + 1 < U4.heap.size := ((Stt.getD (g := w.heap.size + 1 + 1) (n := nC) (v := .slice aC lC cC) (e := eC) S4.out.1 (List.mem_cons_of_mem _ (List.mem_cons_of_mem _ (List.mem_cons_of_mem _ (List.mem_cons_of_mem _ (List.mem_cons_of_mem _ (List.mem_cons_of_mem _ List.mem_cons_self)))))))).lt
    have hmA : w.heap.size ≠ U4.heap.size := Nat.ne_of_lt hltA
    have hmmA : U4.heap.size ≠ w.heap.size := fun h => hmA h.symm
    have hmB : w.heap.size + 1 ≠ U4.heap.size := Nat.ne_of_lt hltB
    have hmmB : U4.heap.size ≠ w.heap.size + 1 := fun h => hmB h.symm
    have hmC : w.heap.size + 1 + 1 ≠ U4.heap.size := Nat.ne_of_lt hltC
    have hmmC : U4.heap.size ≠ w.heap.size + 1 + 1 := fun h => hmC h.symm
    go_region_held3 (fun w' => w'.cell? ⟨w.heap.size, 0, none⟩ = some (.bool nA) ∧ w'.cell? ⟨w.heap.size, 1, none⟩ = some (.slice aA lA cA) ∧ w'.cell? ⟨w.heap.size, 2, none⟩ = some (.int .i64 eA) ∧ w'.cell? ⟨w.heap.size + 1, 0, none⟩ = some (.bool nB) ∧ w'.cell? ⟨w.heap.size + 1, 1, none⟩ = some (.slice aB lB cB) ∧ w'.cell? ⟨w.heap.size + 1, 2, none⟩ = some (.int .i64 eB) ∧ w'.cell? ⟨w.heap.size + 1 + 1, 0, none⟩ = some (.bool nC) ∧ w'.cell? ⟨w.heap.size + 1 + 1, 1, none⟩ = some (.slice aC lC cC) ∧ w'.cell? ⟨w.heap.size + 1 + 1, 2, none⟩ = some (.int .i64 eC)) (go_keep) (first
      | (go_at_call 42
         have HQ := fmul_all n5 nC e5 eC gF bq5 Z10.out.2 n6 X6 e6 er6 l6 (hid fun u' hu' => HO6.out u' a5 c5 (Z10.out.1.bel.trans (hu'.mono Z10.out.1.bel.size)) (((Stt.getN (v := .slice a5 (ws X5).length c5) (X := X5) Z10.out.1 List.mem_cons_self).arg' (by omega)).2.below hu'))
         have HQ2 := fmul_all n5 nC e5 eC gF bq5 (Fk.below Z10.out.2 ((Below.refl _ _).drew)) n6 X6 e6 er6 l6 (hid fun u' hu' => HO6.out u' a5 c5 ((Stt.below Z10.out.1 ((Below.refl _ _).drew)).bel.trans (hu'.mono (Stt.below Z10.out.1 ((Below.refl _ _).drew)).bel.size)) (((Stt.getN (v := .slice a5 (ws X5).length c5) (X := X5) (Stt.below Z10.out.1 ((Below.refl _ _).drew)) List.mem_cons_self).arg' (by omega)).2.below hu'))
         first | with_reducible refine (Calls.mono HQ) ?_ | with_reducible refine (Calls.mono HQ2) ?_
         rintro r y11 ⟨⟨v, rfl, hN⟩, hbut, hF⟩
         have hb9 : But gF y10 y11 := by first | exact hbut | exact ((But.refl gF _).drew).trans hbut
         obtain ⟨a6, c6, rfl, _⟩ := hN.arg (by omega)
         have hz9 := hb9.size
         have hN9 : Nt y10.heap.size y11 (.slice a6 (ws X6).length c6) X6 := hN
         have hg9 : gF < y10.heap.size := Z10.out.1.hi
         rw [HB6.out] at hF
         have T9 := (Stt.but Z10.out.1 hb9).addN (hN9.mono (lo' := gF + 1) (by omega))
         have Z11 := (Aside.intro (And.intro T9 hF))
         have hzz : y10.heap.size ≤ y11.heap.size := hz9
         try (have TZn := Aside.intro (TZ10.out.but hb9 (by have := S4.out.1.hi; omega)); clear TZ10; have TZ10 := TZn; clear TZn; obtain ⟨z0, z1, z2, zf0, zf1, zf2⟩ := TZ10.out.facts)
         obtain ⟨mA0, mA1, mA2, mfA0, mfA1, mfA2⟩ := (Stt.getD (g := w.heap.size) (n := nA) (v := .slice aA lA cA) (e := eA) Z11.out.1 (List.mem_cons_of_mem _ (List.mem_cons_of_mem _ (List.mem_cons_of_mem _ (List.mem_cons_of_mem _ List.mem_cons_self))))).facts
         obtain ⟨mB0, mB1, mB2, mfB0, mfB1, mfB2⟩ := (Stt.getD (g := w.heap.size + 1) (n := nB) (v := .slice aB lB cB) (e := eB) Z11.out.1 (List.mem_cons_of_mem _ (List.mem_cons_of_mem _ (List.mem_cons_of_mem _ (List.mem_cons_of_mem _ (List.mem_cons_of_mem _ List.mem_cons_self)))))).facts
         obtain ⟨mC0, mC1, mC2, mfC0, mfC1, mfC2⟩ := (Stt.getD (g := w.heap.size + 1 + 1) (n := nC) (v := .slice aC lC cC) (e := eC) Z11.out.1 (List.mem_cons_of_mem _ (List.mem_cons_of_mem _ (List.mem_cons_of_mem _ (List.mem_cons_of_mem _ (List.mem_cons_of_mem _ (List.mem_cons_of_mem _ List.mem_cons_self))))))).facts
         have hnA1 : w.heap.size ≠ y11.heap.size := Nat.ne_of_lt ((Stt.getD (g := w.heap.size) (n := nA) (v := .slice aA lA cA) (e := eA) Z11.out.1 (List.mem_cons_of_mem _ (List.mem_cons_of_mem _ (List.mem_cons_of_mem _ (List.mem_cons_of_mem _ List.mem_cons_self))))).lt)
         have hnnA1 : y11.heap.size ≠ w.heap.size := fun h => hnA1 h.symm
         have hnB1 : w.heap.size + 1 ≠ y11.heap.size := Nat.ne_of_lt ((Stt.getD (g := w.heap.size + 1) (n := nB) (v := .slice aB lB cB) (e := eB) Z11.out.1 (List.mem_cons_of_mem _ (List.mem_cons_of_mem _ (List.mem_cons_of_mem _ (List.mem_cons_of_mem _ (List.mem_cons_of_mem _ List.mem_cons_self)))))).lt)
         have hnnB1 : y11.heap.size ≠ w.heap.size + 1 := fun h => hnB1 h.symm
         have hnC1 : w.heap.size + 1 + 1 ≠ y11.heap.size := Nat.ne_of_lt ((Stt.getD (g := w.heap.size + 1 + 1) (n := nC) (v := .slice aC lC cC) (e := eC) Z11.out.1 (List.mem_cons_of_mem _ (List.mem_cons_of_mem _ (List.mem_cons_of_mem _ (List.mem_cons_of_mem _ (List.mem_cons_of_mem _ (List.mem_cons_of_mem _ List.mem_cons_self))))))).lt)
         have hnnC1 : y11.heap.size ≠ w.heap.size + 1 + 1 := fun h => hnC1 h.symm
         clear hN hbut hF hb9 hN9 T9 HQ HQ2 hz9 hg9)
      | (go_at_call 42
         have HQ := fmul_all n5 nC e5 eC gF bq5 (Z10.out.2.below (below_alloc y10 (.cells #[.bool false, .slice none 0 0, .int .i64 0] 38))) n6 X6 e6 er6 l6 (hid fun u' hu' => HO6.out u' a5 c5 ((Z10.out.1.below (below_alloc y10 (.cells #[.bool false, .slice none 0 0, .int .i64 0] 38))).bel.trans (hu'.mono (Z10.out.1.below (below_alloc y10 (.cells #[.bool false, .slice none 0 0, .int .i64 0] 38))).bel.size)) (((Stt.getN (v := .slice a5 (ws X5).length c5) (X := X5) (Z10.out.1.below (below_alloc y10 (.cells #[.bool false, .slice none 0 0, .int .i64 0] 38))) List.mem_cons_self).arg' (by omega)).2.below hu'))
         have HQ2 := fmul_all n5 nC e5 eC gF bq5 (Fk.below (Z10.out.2.below (below_alloc y10 (.cells #[.bool false, .slice none 0 0, .int .i64 0] 38))) ((Below.refl _ _).drew)) n6 X6 e6 er6 l6 (hid fun u' hu' => HO6.out u' a5 c5 ((Stt.below (Z10.out.1.below (below_alloc y10 (.cells #[.bool false, .slice none 0 0, .int .i64 0] 38))) ((Below.refl _ _).drew)).bel.trans (hu'.mono (Stt.below (Z10.out.1.below (below_alloc y10 (.cells #[.bool false, .slice none 0 0, .int .i64 0] 38))) ((Below.refl _ _).drew)).bel.size)) (((Stt.getN (v := .slice a5 (ws X5).length c5) (X := X5) (Stt.below (Z10.out.1.below (below_alloc y10 (.cells #[.bool false, .slice none 0 0, .int .i64 0] 38))) ((Below.refl _ _).drew)) List.mem_cons_self).arg' (by omega)).2.below hu'))
         first | with_reducible refine (Calls.mono HQ) ?_ | with_reducible refine (Calls.mono HQ2) ?_
         rintro r y11 ⟨⟨v, rfl, hN⟩, hbut, hF⟩
         have hb9 : But gF (y10.alloc (.cells #[.bool false, .slice none 0 0, .int .i64 0] 38)) y11 := by first | exact hbut | exact ((But.refl gF _).drew).trans hbut
         obtain ⟨a6, c6, rfl, _⟩ := hN.arg (by omega)
         have hz9 := hb9.size
         have hN9 : Nt (y10.alloc (.cells #[.bool false, .slice none 0 0, .int .i64 0] 38)).heap.size y11 (.slice a6 (ws X6).length c6) X6 := hN
         have hg9 : gF < (y10.alloc (.cells #[.bool false, .slice none 0 0, .int .i64 0] 38)).heap.size := (Z10.out.1.below (below_alloc y10 (.cells #[.bool false, .slice none 0 0, .int .i64 0] 38))).hi
         rw [HB6.out] at hF
         have T9 := (Stt.but (Z10.out.1.below (below_alloc y10 (.cells #[.bool false, .slice none 0 0, .int .i64 0] 38))) hb9).addN (hN9.mono (lo' := gF + 1) (by omega))
         have Z11 := (Aside.intro (And.intro T9 hF))
         have hzz : y10.heap.size < y11.heap.size := by have : (y10.alloc (.cells #[.bool false, .slice none 0 0, .int .i64 0] 38)).heap.size = y10.heap.size + 1 := (by simp); omega
         have TZ11 := Aside.intro ((Dk.new y10 false (.slice none 0 0) 0).but hb9 (by have := Z10.out.1.hi; omega))
         obtain ⟨z0, z1, z2, zf0, zf1, zf2⟩ := TZ11.out.facts
         obtain ⟨mA0, mA1, mA2, mfA0, mfA1, mfA2⟩ := (Stt.getD (g := w.heap.size) (n := nA) (v := .slice aA lA cA) (e := eA) Z11.out.1 (List.mem_cons_of_mem _ (List.mem_cons_of_mem _ (List.mem_cons_of_mem _ (List.mem_cons_of_mem _ List.mem_cons_self))))).facts
         obtain ⟨mB0, mB1, mB2, mfB0, mfB1, mfB2⟩ := (Stt.getD (g := w.heap.size + 1) (n := nB) (v := .slice aB lB cB) (e := eB) Z11.out.1 (List.mem_cons_of_mem _ (List.mem_cons_of_mem _ (List.mem_cons_of_mem _ (List.mem_cons_of_mem _ (List.mem_cons_of_mem _ List.mem_cons_self)))))).facts
         obtain ⟨mC0, mC1, mC2, mfC0, mfC1, mfC2⟩ := (Stt.getD (g := w.heap.size + 1 + 1) (n := nC) (v := .slice aC lC cC) (e := eC) Z11.out.1 (List.mem_cons_of_mem _ (List.mem_cons_of_mem _ (List.mem_cons_of_mem _ (List.mem_cons_of_mem _ (List.mem_cons_of_mem _ (List.mem_cons_of_mem _ List.mem_cons_self))))))).facts
         have hnA1 : w.heap.size ≠ y11.heap.size := Nat.ne_of_lt ((Stt.getD (g := w.heap.size) (n := nA) (v := .slice aA lA cA) (e := eA) Z11.out.1 (List.mem_cons_of_mem _ (List.mem_cons_of_mem _ (List.mem_cons_of_mem _ (List.mem_cons_of_mem _ List.mem_cons_self))))).lt)
         have hnnA1 : y11.heap.size ≠ w.heap.size := fun h => hnA1 h.symm
         have hnB1 : w.heap.size + 1 ≠ y11.heap.size := Nat.ne_of_lt ((Stt.getD (g := w.heap.size + 1) (n := nB) (v := .slice aB lB cB) (e := eB) Z11.out.1 (List.mem_cons_of_mem _ (List.mem_cons_of_mem _ (List.mem_cons_of_mem _ (List.mem_cons_of_mem _ (List.mem_cons_of_mem _ List.mem_cons_self)))))).lt)
         have hnnB1 : y11.heap.size ≠ w.heap.size + 1 := fun h => hnB1 h.symm
         have hnC1 : w.heap.size + 1 + 1 ≠ y11.heap.size := Nat.ne_of_lt ((Stt.getD (g := w.heap.size + 1 + 1) (n := nC) (v := .slice aC lC cC) (e := eC) Z11.out.1 (List.mem_cons_of_mem _ (List.mem_cons_of_mem _ (List.mem_cons_of_mem _ (List.mem_cons_of_mem _ (List.mem_cons_of_mem _ (List.mem_cons_of_mem _ List.mem_cons_self))))))).lt)
         have hnnC1 : y11.heap.size ≠ w.heap.size + 1 + 1 := fun h => hnC1 h.symm
         clear hN hbut hF hb9 hN9 T9 HQ HQ2 hz9 hg9)
      | (go_at_call 42
         have HQ := fmul_all nA nB eA eB gF bq4 S4.out.2 n5 X5 e5 er5 l5 (hid fun u' hu' => HO5.out u'  (S4.out.1.bel.trans (hu'.mono S4.out.1.bel.size)) )
         have HQ2 := fmul_all nA nB eA eB gF bq4 (Fk.below S4.out.2 ((Below.refl _ _).drew)) n5 X5 e5 er5 l5 (hid fun u' hu' => HO5.out u'  ((Stt.below S4.out.1 ((Below.refl _ _).drew)).bel.trans (hu'.mono (Stt.below S4.out.1 ((Below.refl _ _).drew)).bel.size)) )
         first | with_reducible refine (Calls.mono HQ) ?_ | with_reducible refine (Calls.mono HQ2) ?_
         rintro r y10 ⟨⟨v, rfl, hN⟩, hbut, hF⟩
         have hb9 : But gF U4 y10 := by first | exact hbut | exact ((But.refl gF _).drew).trans hbut
         obtain ⟨a5, c5, rfl, _⟩ := hN.arg (by omega)
         have hz9 := hb9.size
         have hN9 : Nt U4.heap.size y10 (.slice a5 (ws X5).length c5) X5 := hN
         have hg9 : gF < U4.heap.size := S4.out.1.hi
         rw [HB5.out] at hF
         have T9 := (Stt.but S4.out.1 hb9).addN (hN9.mono (lo' := gF + 1) (by omega))
         have Z10 := (Aside.intro (And.intro T9 hF))
         have hzz : U4.heap.size ≤ y10.heap.size := hz9
         obtain ⟨mA0, mA1, mA2, mfA0, mfA1, mfA2⟩ := (Stt.getD (g := w.heap.size) (n := nA) (v := .slice aA lA cA) (e := eA) Z10.out.1 (List.mem_cons_of_mem _ (List.mem_cons_of_mem _ (List.mem_cons_of_mem _ (List.mem_cons_of_mem _ List.mem_cons_self))))).facts
         obtain ⟨mB0, mB1, mB2, mfB0, mfB1, mfB2⟩ := (Stt.getD (g := w.heap.size + 1) (n := nB) (v := .slice aB lB cB) (e := eB) Z10.out.1 (List.mem_cons_of_mem _ (List.mem_cons_of_mem _ (List.mem_cons_of_mem _ (List.mem_cons_of_mem _ (List.mem_cons_of_mem _ List.mem_cons_self)))))).facts
         obtain ⟨mC0, mC1, mC2, mfC0, mfC1, mfC2⟩ := (Stt.getD (g := w.heap.size + 1 + 1) (n := nC) (v := .slice aC lC cC) (e := eC) Z10.out.1 (List.mem_cons_of_mem _ (List.mem_cons_of_mem _ (List.mem_cons_of_mem _ (List.mem_cons_of_mem _ (List.mem_cons_of_mem _ (List.mem_cons_of_mem _ List.mem_cons_self))))))).facts
         have hnA0 : w.heap.size ≠ y10.heap.size := Nat.ne_of_lt ((Stt.getD (g := w.heap.size) (n := nA) (v := .slice aA lA cA) (e := eA) Z10.out.1 (List.mem_cons_of_mem _ (List.mem_cons_of_mem _ (List.mem_cons_of_mem _ (List.mem_cons_of_mem _ List.mem_cons_self))))).lt)
         have hnnA0 : y10.heap.size ≠ w.heap.size := fun h => hnA0 h.symm
         have hnB0 : w.heap.size + 1 ≠ y10.heap.size := Nat.ne_of_lt ((Stt.getD (g := w.heap.size + 1) (n := nB) (v := .slice aB lB cB) (e := eB) Z10.out.1 (List.mem_cons_of_mem _ (List.mem_cons_of_mem _ (List.mem_cons_of_mem _ (List.mem_cons_of_mem _ (List.mem_cons_of_mem _ List.mem_cons_self)))))).lt)
         have hnnB0 : y10.heap.size ≠ w.heap.size + 1 := fun h => hnB0 h.symm
         have hnC0 : w.heap.size + 1 + 1 ≠ y10.heap.size := Nat.ne_of_lt ((Stt.getD (g := w.heap.size + 1 + 1) (n := nC) (v := .slice aC lC cC) (e := eC) Z10.out.1 (List.mem_cons_of_mem _ (List.mem_cons_of_mem _ (List.mem_cons_of_mem _ (List.mem_cons_of_mem _ (List.mem_cons_of_mem _ (List.mem_cons_of_mem _ List.mem_cons_self))))))).lt)
         have hnnC0 : y10.heap.size ≠ w.heap.size + 1 + 1 := fun h => hnC0 h.symm
         clear hN hbut hF hb9 hN9 T9 HQ HQ2 hz9 hg9)
      | (go_at_call 42
         have HQ := fmul_all nA nB eA eB gF bq4 (S4.out.2.below (below_alloc U4 (.cells #[.bool false, .slice none 0 0, .int .i64 0] 38))) n5 X5 e5 er5 l5 (hid fun u' hu' => HO5.out u'  ((S4.out.1.below (below_alloc U4 (.cells #[.bool false, .slice none 0 0, .int .i64 0] 38))).bel.trans (hu'.mono (S4.out.1.below (below_alloc U4 (.cells #[.bool false, .slice none 0 0, .int .i64 0] 38))).bel.size)) )
         have HQ2 := fmul_all nA nB eA eB gF bq4 (Fk.below (S4.out.2.below (below_alloc U4 (.cells #[.bool false, .slice none 0 0, .int .i64 0] 38))) ((Below.refl _ _).drew)) n5 X5 e5 er5 l5 (hid fun u' hu' => HO5.out u'  ((Stt.below (S4.out.1.below (below_alloc U4 (.cells #[.bool false, .slice none 0 0, .int .i64 0] 38))) ((Below.refl _ _).drew)).bel.trans (hu'.mono (Stt.below (S4.out.1.below (below_alloc U4 (.cells #[.bool false, .slice none 0 0, .int .i64 0] 38))) ((Below.refl _ _).drew)).bel.size)) )
         first | with_reducible refine (Calls.mono HQ) ?_ | with_reducible refine (Calls.mono HQ2) ?_
         rintro r y10 ⟨⟨v, rfl, hN⟩, hbut, hF⟩
         have hb9 : But gF (U4.alloc (.cells #[.bool false, .slice none 0 0, .int .i64 0] 38)) y10 := by first | exact hbut | exact ((But.refl gF _).drew).trans hbut
         obtain ⟨a5, c5, rfl, _⟩ := hN.arg (by omega)
         have hz9 := hb9.size
         have hN9 : Nt (U4.alloc (.cells #[.bool false, .slice none 0 0, .int .i64 0] 38)).heap.size y10 (.slice a5 (ws X5).length c5) X5 := hN
         have hg9 : gF < (U4.alloc (.cells #[.bool false, .slice none 0 0, .int .i64 0] 38)).heap.size := (S4.out.1.below (below_alloc U4 (.cells #[.bool false, .slice none 0 0, .int .i64 0] 38))).hi
         rw [HB5.out] at hF
         have T9 := (Stt.but (S4.out.1.below (below_alloc U4 (.cells #[.bool false, .slice none 0 0, .int .i64 0] 38))) hb9).addN (hN9.mono (lo' := gF + 1) (by omega))
         have Z10 := (Aside.intro (And.intro T9 hF))
         have hzz : U4.heap.size < y10.heap.size := by have : (U4.alloc (.cells #[.bool false, .slice none 0 0, .int .i64 0] 38)).heap.size = U4.heap.size + 1 := (by simp); omega
         have TZ10 := Aside.intro ((Dk.new U4 false (.slice none 0 0) 0).but hb9 (by have := S4.out.1.hi; omega))
         obtain ⟨z0, z1, z2, zf0, zf1, zf2⟩ := TZ10.out.facts
         obtain ⟨mA0, mA1, mA2, mfA0, mfA1, mfA2⟩ := (Stt.getD (g := w.heap.size) (n := nA) (v := .slice aA lA cA) (e := eA) Z10.out.1 (List.mem_cons_of_mem _ (List.mem_cons_of_mem _ (List.mem_cons_of_mem _ (List.mem_cons_of_mem _ List.mem_cons_self))))).facts
         obtain ⟨mB0, mB1, mB2, mfB0, mfB1, mfB2⟩ := (Stt.getD (g := w.heap.size + 1) (n := nB) (v := .slice aB lB cB) (e := eB) Z10.out.1 (List.mem_cons_of_mem _ (List.mem_cons_of_mem _ (List.mem_cons_of_mem _ (List.mem_cons_of_mem _ (List.mem_cons_of_mem _ List.mem_cons_self)))))).facts
         obtain ⟨mC0, mC1, mC2, mfC0, mfC1, mfC2⟩ := (Stt.getD (g := w.heap.size + 1 + 1) (n := nC) (v := .slice aC lC cC) (e := eC) Z10.out.1 (List.mem_cons_of_mem _ (List.mem_cons_of_mem _ (List.mem_cons_of_mem _ (List.mem_cons_of_mem _ (List.mem_cons_of_mem _ (List.mem_cons_of_mem _ List.mem_cons_self))))))).facts
         have hnA0 : w.heap.size ≠ y10.heap.size := Nat.ne_of_lt ((Stt.getD (g := w.heap.size) (n := nA) (v := .slice aA lA cA) (e := eA) Z10.out.1 (List.mem_cons_of_mem _ (List.mem_cons_of_mem _ (List.mem_cons_of_mem _ (List.mem_cons_of_mem _ List.mem_cons_self))))).lt)
         have hnnA0 : y10.heap.size ≠ w.heap.size := fun h => hnA0 h.symm
         have hnB0 : w.heap.size + 1 ≠ y10.heap.size := Nat.ne_of_lt ((Stt.getD (g := w.heap.size + 1) (n := nB) (v := .slice aB lB cB) (e := eB) Z10.out.1 (List.mem_cons_of_mem _ (List.mem_cons_of_mem _ (List.mem_cons_of_mem _ (List.mem_cons_of_mem _ (List.mem_cons_of_mem _ List.mem_cons_self)))))).lt)
         have hnnB0 : y10.heap.size ≠ w.heap.size + 1 := fun h => hnB0 h.symm
         have hnC0 : w.heap.size + 1 + 1 ≠ y10.heap.size := Nat.ne_of_lt ((Stt.getD (g := w.heap.size + 1 + 1) (n := nC) (v := .slice aC lC cC) (e := eC) Z10.out.1 (List.mem_cons_of_mem _ (List.mem_cons_of_mem _ (List.mem_cons_of_mem _ (List.mem_cons_of_mem _ (List.mem_cons_of_mem _ (List.mem_cons_of_mem _ List.mem_cons_self))))))).lt)
         have hnnC0 : y10.heap.size ≠ w.heap.size + 1 + 1 := fun h => hnC0 h.symm
         clear hN hbut hF hb9 hN9 T9 HQ HQ2 hz9 hg9))
    all_goals (
      go_wp2_with fail
      go_meet
      case rel =>
        first
          | with_reducible exact ring_new (Stt.pick1 Z11.out.1) Z11.out.2 _ _
          | with_reducible exact ring_set (Stt.pick1 Z11.out.1) Z11.out.2 TZ11.out (by have := Z10.out.1.hi; omega) (Z10.out.1.bel.size) Z10.out.1.ne _ _
          | with_reducible exact ring_set (Stt.pick1 Z11.out.1) Z11.out.2 TZ10.out (by have := S4.out.1.hi; omega) (S4.out.1.bel.size) S4.out.1.ne _ _)
  case rest =>
    obtain ⟨g6, a6, c6, rfl, HC6⟩ := hcut
    obtain ⟨U6, hwU⟩ : ∃ U, U = wc := ⟨_, rfl⟩
    subst hwU
    have S6 := HC6
    have hgl6 : gF < U6.heap.size := S6.out.1.hi
    clear HC6
    go_upto_region 10 with fail
    go_cut [14] from 50 to 56 (fun p wx => ∃ g a c, p = .pointer (some ⟨g, 0, none⟩) ∧ Aside (Stt w gF ((g, n8, .slice a (ws X8).length c, e8) :: [(g6, n6, .slice a6 (ws X6).length c6, e6), (u4.heap.size, n4, .slice a4 (ws X4).length c4, e4), (u3.heap.size, n3, .slice a3 (ws X3).length c3, e3), (u2.heap.size, n2, .slice a2 (ws X2).length c2, e2), (u1.heap.size, n1, .slice a1 (ws X1).length c1, e1), (w.heap.size, nA, .slice aA lA cA, eA), (w.heap.size + 1, nB, .slice aB lB cB, eB), (w.heap.size + 1 + 1, nC, .slice aC lC cC, eC)]) ((.slice a (ws X8).length c, X8) :: [(.slice a6 (ws X6).length c6, X6), (.slice a4 (ws X4).length c4, X4), (.slice a3 (ws X3).length c3, X3), (.slice a2 (ws X2).length c2, X2), (.slice a1 (ws X1).length c1, X1)]) wx ∧ Fk wx gF bq8))
    case first =>
      obtain ⟨kA0, kA1, kA2, kfA0, kfA1, kfA2⟩ := ((Stt.getD (g := w.heap.size) (n := nA) (v := .slice aA lA cA) (e := eA) S6.out.1 (List.mem_cons_of_mem _ (List.mem_cons_of_mem _ (List.mem_cons_of_mem _ (List.mem_cons_of_mem _ (List.mem_cons_of_mem _ List.mem_cons_self))))))).facts
      obtain ⟨kB0, kB1, kB2, kfB0, kfB1, kfB2⟩ := ((Stt.getD (g := w.heap.size + 1) (n := nB) (v := .slice aB lB cB) (e := eB) S6.out.1 (List.mem_cons_of_mem _ (List.mem_cons_of_mem _ (List.mem_cons_of_mem _ (List.mem_cons_of_mem _ (List.mem_cons_of_mem _ (List.mem_cons_of_mem _ List.mem_cons_self)))))))).facts
      obtain ⟨kC0, kC1, kC2, kfC0, kfC1, kfC2⟩ := ((Stt.getD (g := w.heap.size + 1 + 1) (n := nC) (v := .slice aC lC cC) (e := eC) S6.out.1 (List.mem_cons_of_mem _ (List.mem_cons_of_mem _ (List.mem_cons_of_mem _ (List.mem_cons_of_mem _ (List.mem_cons_of_mem _ (List.mem_cons_of_mem _ (List.mem_cons_of_mem _ List.mem_cons_self))))))))).facts
      have hltA : w.heap.size < U6.heap.size := ((Stt.getD (g := w.heap.size) (n := nA) (v := .slice aA lA cA) (e := eA) S6.out.1 (List.mem_cons_of_mem _ (List.mem_cons_of_mem _ (List.mem_cons_of_mem _ (List.mem_cons_of_mem _ (List.mem_cons_of_mem _ List.mem_cons_self))))))).lt
      have hltB : w.heap.size + 1 < U6.heap.size := ((Stt.getD (g := w.heap.size + 1) (n := nB) (v := .slice aB lB cB) (e := eB) S6.out.1 (List.mem_cons_of_mem _ (List.mem_cons_of_mem _ (List.mem_cons_of_mem _ (List.mem_cons_of_mem _ (List.mem_cons_of_mem _ (List.mem_cons_of_mem _ List.mem_cons_self)))))))).lt
      have hltC : w.heap.size + 1 + 1 < U6.heap.size := ((Stt.getD (g := w.heap.size + 1 + 1) (n := nC) (v := .slice aC lC cC) (e := eC) S6.out.1 (List.mem_cons_of_mem _ (List.mem_cons_of_mem _ (List.mem_cons_of_mem _ (List.mem_cons_of_mem _ (List.mem_cons_of_mem _ (List.mem_cons_of_mem _ (List.mem_cons_of_mem _ List.mem_cons_self))))))))).lt
      have hmA : w.heap.size ≠ U6.heap.size := Nat.ne_of_lt hltA
      have hmmA : U6.heap.size ≠ w.heap.size := fun h => hmA h.symm
      have hmB : w.heap.size + 1 ≠ U6.heap.size := Nat.ne_of_lt hltB
      have hmmB : U6.heap.size ≠ w.heap.size + 1 := fun h => hmB h.symm
      have hmC : w.heap.size + 1 + 1 ≠ U6.heap.size := Nat.ne_of_lt hltC
      have hmmC : U6.heap.size ≠ w.heap.size + 1 + 1 := fun h => hmC h.symm
      go_region_held3 (fun w' => w'.cell? ⟨w.heap.size, 0, none⟩ = some (.bool nA) ∧ w'.cell? ⟨w.heap.size, 1, none⟩ = some (.slice aA lA cA) ∧ w'.cell? ⟨w.heap.size, 2, none⟩ = some (.int .i64 eA) ∧ w'.cell? ⟨w.heap.size + 1, 0, none⟩ = some (.bool nB) ∧ w'.cell? ⟨w.heap.size + 1, 1, none⟩ = some (.slice aB lB cB) ∧ w'.cell? ⟨w.heap.size + 1, 2, none⟩ = some (.int .i64 eB) ∧ w'.cell? ⟨w.heap.size + 1 + 1, 0, none⟩ = some (.bool nC) ∧ w'.cell? ⟨w.heap.size + 1 + 1, 1, none⟩ = some (.slice aC lC cC) ∧ w'.cell? ⟨w.heap.size + 1 + 1, 2, none⟩ = some (.int .i64 eC)) (go_keep) (first
        | (go_at_call 42
           have HQ := fmul_all nA n7 eA e7 gF bq7 Z20.out.2 n8 X8 e8 er8 l8 (hid fun u' hu' => HO8.out u' a7 c7 (Z20.out.1.bel.trans (hu'.mono Z20.out.1.bel.size)) (((Stt.getN (v := .slice a7 (ws X7).length c7) (X := X7) Z20.out.1 List.mem_cons_self).arg' (by omega)).2.below hu'))
           have HQ2 := fmul_all nA n7 eA e7 gF bq7 (Fk.below Z20.out.2 ((Below.refl _ _).drew)) n8 X8 e8 er8 l8 (hid fun u' hu' => HO8.out u' a7 c7 ((Stt.below Z20.out.1 ((Below.refl _ _).drew)).bel.trans (hu'.mono (Stt.below Z20.out.1 ((Below.refl _ _).drew)).bel.size)) (((Stt.getN (v := .slice a7 (ws X7).length c7) (X := X7) (Stt.below Z20.out.1 ((Below.refl _ _).drew)) List.mem_cons_self).arg' (by omega)).2.below hu'))
           first | with_reducible refine (Calls.mono HQ) ?_ | with_reducible refine (Calls.mono HQ2) ?_
           rintro r y21 ⟨⟨v, rfl, hN⟩, hbut, hF⟩
           have hb9 : But gF y20 y21 := by first | exact hbut | exact ((But.refl gF _).drew).trans hbut
           obtain ⟨a8, c8, rfl, _⟩ := hN.arg (by omega)
           have hz9 := hb9.size
           have hN9 : Nt y20.heap.size y21 (.slice a8 (ws X8).length c8) X8 := hN
           have hg9 : gF < y20.heap.size := Z20.out.1.hi
           rw [HB8.out] at hF
           have T9 := (Stt.but Z20.out.1 hb9).addN (hN9.mono (lo' := gF + 1) (by omega))
           have Z21 := (Aside.intro (And.intro T9 hF))
           have hzz : y20.heap.size ≤ y21.heap.size := hz9
           try (have TZn := Aside.intro (TZ20.out.but hb9 (by have := S6.out.1.hi; omega)); clear TZ20; have TZ20 := TZn; clear TZn; obtain ⟨z0, z1, z2, zf0, zf1, zf2⟩ := TZ20.out.facts)
           obtain ⟨mA0, mA1, mA2, mfA0, mfA1, mfA2⟩ := (Stt.getD (g := w.heap.size) (n := nA) (v := .slice aA lA cA) (e := eA) Z21.out.1 (List.mem_cons_of_mem _ (List.mem_cons_of_mem _ (List.mem_cons_of_mem _ (List.mem_cons_of_mem _ (List.mem_cons_of_mem _ List.mem_cons_self)))))).facts
           obtain ⟨mB0, mB1, mB2, mfB0, mfB1, mfB2⟩ := (Stt.getD (g := w.heap.size + 1) (n := nB) (v := .slice aB lB cB) (e := eB) Z21.out.1 (List.mem_cons_of_mem _ (List.mem_cons_of_mem _ (List.mem_cons_of_mem _ (List.mem_cons_of_mem _ (List.mem_cons_of_mem _ (List.mem_cons_of_mem _ List.mem_cons_self))))))).facts
           obtain ⟨mC0, mC1, mC2, mfC0, mfC1, mfC2⟩ := (Stt.getD (g := w.heap.size + 1 + 1) (n := nC) (v := .slice aC lC cC) (e := eC) Z21.out.1 (List.mem_cons_of_mem _ (List.mem_cons_of_mem _ (List.mem_cons_of_mem _ (List.mem_cons_of_mem _ (List.mem_cons_of_mem _ (List.mem_cons_of_mem _ (List.mem_cons_of_mem _ List.mem_cons_self)))))))).facts
           have hnA1 : w.heap.size ≠ y21.heap.size := Nat.ne_of_lt ((Stt.getD (g := w.heap.size) (n := nA) (v := .slice aA lA cA) (e := eA) Z21.out.1 (List.mem_cons_of_mem _ (List.mem_cons_of_mem _ (List.mem_cons_of_mem _ (List.mem_cons_of_mem _ (List.mem_cons_of_mem _ List.mem_cons_self)))))).lt)
           have hnnA1 : y21.heap.size ≠ w.heap.size := fun h => hnA1 h.symm
           have hnB1 : w.heap.size + 1 ≠ y21.heap.size := Nat.ne_of_lt ((Stt.getD (g := w.heap.size + 1) (n := nB) (v := .slice aB lB cB) (e := eB) Z21.out.1 (List.mem_cons_of_mem _ (List.mem_cons_of_mem _ (List.mem_cons_of_mem _ (List.mem_cons_of_mem _ (List.mem_cons_of_mem _ (List.mem_cons_of_mem _ List.mem_cons_self))))))).lt)
           have hnnB1 : y21.heap.size ≠ w.heap.size + 1 := fun h => hnB1 h.symm
           have hnC1 : w.heap.size + 1 + 1 ≠ y21.heap.size := Nat.ne_of_lt ((Stt.getD (g := w.heap.size + 1 + 1) (n := nC) (v := .slice aC lC cC) (e := eC) Z21.out.1 (List.mem_cons_of_mem _ (List.mem_cons_of_mem _ (List.mem_cons_of_mem _ (List.mem_cons_of_mem _ (List.mem_cons_of_mem _ (List.mem_cons_of_mem _ (List.mem_cons_of_mem _ List.mem_cons_self)))))))).lt)
           have hnnC1 : y21.heap.size ≠ w.heap.size + 1 + 1 := fun h => hnC1 h.symm
           clear hN hbut hF hb9 hN9 T9 HQ HQ2 hz9 hg9)
        | (go_at_call 42
           have HQ := fmul_all nA n7 eA e7 gF bq7 (Z20.out.2.below (below_alloc y20 (.cells #[.bool false, .slice none 0 0, .int .i64 0] 38))) n8 X8 e8 er8 l8 (hid fun u' hu' => HO8.out u' a7 c7 ((Z20.out.1.below (below_alloc y20 (.cells #[.bool false, .slice none 0 0, .int .i64 0] 38))).bel.trans (hu'.mono (Z20.out.1.below (below_alloc y20 (.cells #[.bool false, .slice none 0 0, .int .i64 0] 38))).bel.size)) (((Stt.getN (v := .slice a7 (ws X7).length c7) (X := X7) (Z20.out.1.below (below_alloc y20 (.cells #[.bool false, .slice none 0 0, .int .i64 0] 38))) List.mem_cons_self).arg' (by omega)).2.below hu'))
           have HQ2 := fmul_all nA n7 eA e7 gF bq7 (Fk.below (Z20.out.2.below (below_alloc y20 (.cells #[.bool false, .slice none 0 0, .int .i64 0] 38))) ((Below.refl _ _).drew)) n8 X8 e8 er8 l8 (hid fun u' hu' => HO8.out u' a7 c7 ((Stt.below (Z20.out.1.below (below_alloc y20 (.cells #[.bool false, .slice none 0 0, .int .i64 0] 38))) ((Below.refl _ _).drew)).bel.trans (hu'.mono (Stt.below (Z20.out.1.below (below_alloc y20 (.cells #[.bool false, .slice none 0 0, .int .i64 0] 38))) ((Below.refl _ _).drew)).bel.size)) (((Stt.getN (v := .slice a7 (ws X7).length c7) (X := X7) (Stt.below (Z20.out.1.below (below_alloc y20 (.cells #[.bool false, .slice none 0 0, .int .i64 0] 38))) ((Below.refl _ _).drew)) List.mem_cons_self).arg' (by omega)).2.below hu'))
           first | with_reducible refine (Calls.mono HQ) ?_ | with_reducible refine (Calls.mono HQ2) ?_
           rintro r y21 ⟨⟨v, rfl, hN⟩, hbut, hF⟩
           have hb9 : But gF (y20.alloc (.cells #[.bool false, .slice none 0 0, .int .i64 0] 38)) y21 := by first | exact hbut | exact ((But.refl gF _).drew).trans hbut
           obtain ⟨a8, c8, rfl, _⟩ := hN.arg (by omega)
           have hz9 := hb9.size
           have hN9 : Nt (y20.alloc (.cells #[.bool false, .slice none 0 0, .int .i64 0] 38)).heap.size y21 (.slice a8 (ws X8).length c8) X8 := hN
           have hg9 : gF < (y20.alloc (.cells #[.bool false, .slice none 0 0, .int .i64 0] 38)).heap.size := (Z20.out.1.below (below_alloc y20 (.cells #[.bool false, .slice none 0 0, .int .i64 0] 38))).hi
           rw [HB8.out] at hF
           have T9 := (Stt.but (Z20.out.1.below (below_alloc y20 (.cells #[.bool false, .slice none 0 0, .int .i64 0] 38))) hb9).addN (hN9.mono (lo' := gF + 1) (by omega))
           have Z21 := (Aside.intro (And.intro T9 hF))
           have hzz : y20.heap.size < y21.heap.size := by have : (y20.alloc (.cells #[.bool false, .slice none 0 0, .int .i64 0] 38)).heap.size = y20.heap.size + 1 := (by simp); omega
           have TZ21 := Aside.intro ((Dk.new y20 false (.slice none 0 0) 0).but hb9 (by have := Z20.out.1.hi; omega))
           obtain ⟨z0, z1, z2, zf0, zf1, zf2⟩ := TZ21.out.facts
           obtain ⟨mA0, mA1, mA2, mfA0, mfA1, mfA2⟩ := (Stt.getD (g := w.heap.size) (n := nA) (v := .slice aA lA cA) (e := eA) Z21.out.1 (List.mem_cons_of_mem _ (List.mem_cons_of_mem _ (List.mem_cons_of_mem _ (List.mem_cons_of_mem _ (List.mem_cons_of_mem _ List.mem_cons_self)))))).facts
           obtain ⟨mB0, mB1, mB2, mfB0, mfB1, mfB2⟩ := (Stt.getD (g := w.heap.size + 1) (n := nB) (v := .slice aB lB cB) (e := eB) Z21.out.1 (List.mem_cons_of_mem _ (List.mem_cons_of_mem _ (List.mem_cons_of_mem _ (List.mem_cons_of_mem _ (List.mem_cons_of_mem _ (List.mem_cons_of_mem _ List.mem_cons_self))))))).facts
           obtain ⟨mC0, mC1, mC2, mfC0, mfC1, mfC2⟩ := (Stt.getD (g := w.heap.size + 1 + 1) (n := nC) (v := .slice aC lC cC) (e := eC) Z21.out.1 (List.mem_cons_of_mem _ (List.mem_cons_of_mem _ (List.mem_cons_of_mem _ (List.mem_cons_of_mem _ (List.mem_cons_of_mem _ (List.mem_cons_of_mem _ (List.mem_cons_of_mem _ List.mem_cons_self)))))))).facts
           have hnA1 : w.heap.size ≠ y21.heap.size := Nat.ne_of_lt ((Stt.getD (g := w.heap.size) (n := nA) (v := .slice aA lA cA) (e := eA) Z21.out.1 (List.mem_cons_of_mem _ (List.mem_cons_of_mem _ (List.mem_cons_of_mem _ (List.mem_cons_of_mem _ (List.mem_cons_of_mem _ List.mem_cons_self)))))).lt)
           have hnnA1 : y21.heap.size ≠ w.heap.size := fun h => hnA1 h.symm
           have hnB1 : w.heap.size + 1 ≠ y21.heap.size := Nat.ne_of_lt ((Stt.getD (g := w.heap.size + 1) (n := nB) (v := .slice aB lB cB) (e := eB) Z21.out.1 (List.mem_cons_of_mem _ (List.mem_cons_of_mem _ (List.mem_cons_of_mem _ (List.mem_cons_of_mem _ (List.mem_cons_of_mem _ (List.mem_cons_of_mem _ List.mem_cons_self))))))).lt)
           have hnnB1 : y21.heap.size ≠ w.heap.size + 1 := fun h => hnB1 h.symm
           have hnC1 : w.heap.size + 1 + 1 ≠ y21.heap.size := Nat.ne_of_lt ((Stt.getD (g := w.heap.size + 1 + 1) (n := nC) (v := .slice aC lC cC) (e := eC) Z21.out.1 (List.mem_cons_of_mem _ (List.mem_cons_of_mem _ (List.mem_cons_of_mem _ (List.mem_cons_of_mem _ (List.mem_cons_of_mem _ (List.mem_cons_of_mem _ (List.mem_cons_of_mem _ List.mem_cons_self)))))))).lt)
           have hnnC1 : y21.heap.size ≠ w.heap.size + 1 + 1 := fun h => hnC1 h.symm
           clear hN hbut hF hb9 hN9 T9 HQ HQ2 hz9 hg9)
        | (go_at_call 42
           have HQ := fmul_all nB nC eB eC gF bq6 S6.out.2 n7 X7 e7 er7 l7 (hid fun u' hu' => HO7.out u'  (S6.out.1.bel.trans (hu'.mono S6.out.1.bel.size)) )
           have HQ2 := fmul_all nB nC eB eC gF bq6 (Fk.below S6.out.2 ((Below.refl _ _).drew)) n7 X7 e7 er7 l7 (hid fun u' hu' => HO7.out u'  ((Stt.below S6.out.1 ((Below.refl _ _).drew)).bel.trans (hu'.mono (Stt.below S6.out.1 ((Below.refl _ _).drew)).bel.size)) )
           first | with_reducible refine (Calls.mono HQ) ?_ | with_reducible refine (Calls.mono HQ2) ?_
           rintro r y20 ⟨⟨v, rfl, hN⟩, hbut, hF⟩
           have hb9 : But gF U6 y20 := by first | exact hbut | exact ((But.refl gF _).drew).trans hbut
           obtain ⟨a7, c7, rfl, _⟩ := hN.arg (by omega)
           have hz9 := hb9.size
           have hN9 : Nt U6.heap.size y20 (.slice a7 (ws X7).length c7) X7 := hN
           have hg9 : gF < U6.heap.size := S6.out.1.hi
           rw [HB7.out] at hF
           have T9 := (Stt.but S6.out.1 hb9).addN (hN9.mono (lo' := gF + 1) (by omega))
           have Z20 := (Aside.intro (And.intro T9 hF))
           have hzz : U6.heap.size ≤ y20.heap.size := hz9
           obtain ⟨mA0, mA1, mA2, mfA0, mfA1, mfA2⟩ := (Stt.getD (g := w.heap.size) (n := nA) (v := .slice aA lA cA) (e := eA) Z20.out.1 (List.mem_cons_of_mem _ (List.mem_cons_of_mem _ (List.mem_cons_of_mem _ (List.mem_cons_of_mem _ (List.mem_cons_of_mem _ List.mem_cons_self)))))).facts
           obtain ⟨mB0, mB1, mB2, mfB0, mfB1, mfB2⟩ := (Stt.getD (g := w.heap.size + 1) (n := nB) (v := .slice aB lB cB) (e := eB) Z20.out.1 (List.mem_cons_of_mem _ (List.mem_cons_of_mem _ (List.mem_cons_of_mem _ (List.mem_cons_of_mem _ (List.mem_cons_of_mem _ (List.mem_cons_of_mem _ List.mem_cons_self))))))).facts
           obtain ⟨mC0, mC1, mC2, mfC0, mfC1, mfC2⟩ := (Stt.getD (g := w.heap.size + 1 + 1) (n := nC) (v := .slice aC lC cC) (e := eC) Z20.out.1 (List.mem_cons_of_mem _ (List.mem_cons_of_mem _ (List.mem_cons_of_mem _ (List.mem_cons_of_mem _ (List.mem_cons_of_mem _ (List.mem_cons_of_mem _ (List.mem_cons_of_mem _ List.mem_cons_self)))))))).facts
           have hnA0 : w.heap.size ≠ y20.heap.size := Nat.ne_of_lt ((Stt.getD (g := w.heap.size) (n := nA) (v := .slice aA lA cA) (e := eA) Z20.out.1 (List.mem_cons_of_mem _ (List.mem_cons_of_mem _ (List.mem_cons_of_mem _ (List.mem_cons_of_mem _ (List.mem_cons_of_mem _ List.mem_cons_self)))))).lt)
           have hnnA0 : y20.heap.size ≠ w.heap.size := fun h => hnA0 h.symm
           have hnB0 : w.heap.size + 1 ≠ y20.heap.size := Nat.ne_of_lt ((Stt.getD (g := w.heap.size + 1) (n := nB) (v := .slice aB lB cB) (e := eB) Z20.out.1 (List.mem_cons_of_mem _ (List.mem_cons_of_mem _ (List.mem_cons_of_mem _ (List.mem_cons_of_mem _ (List.mem_cons_of_mem _ (List.mem_cons_of_mem _ List.mem_cons_self))))))).lt)
           have hnnB0 : y20.heap.size ≠ w.heap.size + 1 := fun h => hnB0 h.symm
           have hnC0 : w.heap.size + 1 + 1 ≠ y20.heap.size := Nat.ne_of_lt ((Stt.getD (g := w.heap.size + 1 + 1) (n := nC) (v := .slice aC lC cC) (e := eC) Z20.out.1 (List.mem_cons_of_mem _ (List.mem_cons_of_mem _ (List.mem_cons_of_mem _ (List.mem_cons_of_mem _ (List.mem_cons_of_mem _ (List.mem_cons_of_mem _ (List.mem_cons_of_mem _ List.mem_cons_self)))))))).lt)
           have hnnC0 : y20.heap.size ≠ w.heap.size + 1 + 1 := fun h => hnC0 h.symm
           clear hN hbut hF hb9 hN9 T9 HQ HQ2 hz9 hg9)
        | (go_at_call 42
           have HQ := fmul_all nB nC eB eC gF bq6 (S6.out.2.below (below_alloc U6 (.cells #[.bool false, .slice none 0 0, .int .i64 0] 38))) n7 X7 e7 er7 l7 (hid fun u' hu' => HO7.out u'  ((S6.out.1.below (below_alloc U6 (.cells #[.bool false, .slice none 0 0, .int .i64 0] 38))).bel.trans (hu'.mono (S6.out.1.below (below_alloc U6 (.cells #[.bool false, .slice none 0 0, .int .i64 0] 38))).bel.size)) )
           have HQ2 := fmul_all nB nC eB eC gF bq6 (Fk.below (S6.out.2.below (below_alloc U6 (.cells #[.bool false, .slice none 0 0, .int .i64 0] 38))) ((Below.refl _ _).drew)) n7 X7 e7 er7 l7 (hid fun u' hu' => HO7.out u'  ((Stt.below (S6.out.1.below (below_alloc U6 (.cells #[.bool false, .slice none 0 0, .int .i64 0] 38))) ((Below.refl _ _).drew)).bel.trans (hu'.mono (Stt.below (S6.out.1.below (below_alloc U6 (.cells #[.bool false, .slice none 0 0, .int .i64 0] 38))) ((Below.refl _ _).drew)).bel.size)) )
           first | with_reducible refine (Calls.mono HQ) ?_ | with_reducible refine (Calls.mono HQ2) ?_
           rintro r y20 ⟨⟨v, rfl, hN⟩, hbut, hF⟩
           have hb9 : But gF (U6.alloc (.cells #[.bool false, .slice none 0 0, .int .i64 0] 38)) y20 := by first | exact hbut | exact ((But.refl gF _).drew).trans hbut
           obtain ⟨a7, c7, rfl, _⟩ := hN.arg (by omega)
           have hz9 := hb9.size
           have hN9 : Nt (U6.alloc (.cells #[.bool false, .slice none 0 0, .int .i64 0] 38)).heap.size y20 (.slice a7 (ws X7).length c7) X7 := hN
           have hg9 : gF < (U6.alloc (.cells #[.bool false, .slice none 0 0, .int .i64 0] 38)).heap.size := (S6.out.1.below (below_alloc U6 (.cells #[.bool false, .slice none 0 0, .int .i64 0] 38))).hi
           rw [HB7.out] at hF
           have T9 := (Stt.but (S6.out.1.below (below_alloc U6 (.cells #[.bool false, .slice none 0 0, .int .i64 0] 38))) hb9).addN (hN9.mono (lo' := gF + 1) (by omega))
           have Z20 := (Aside.intro (And.intro T9 hF))
           have hzz : U6.heap.size < y20.heap.size := by have : (U6.alloc (.cells #[.bool false, .slice none 0 0, .int .i64 0] 38)).heap.size = U6.heap.size + 1 := (by simp); omega
           have TZ20 := Aside.intro ((Dk.new U6 false (.slice none 0 0) 0).but hb9 (by have := S6.out.1.hi; omega))
           obtain ⟨z0, z1, z2, zf0, zf1, zf2⟩ := TZ20.out.facts
           obtain ⟨mA0, mA1, mA2, mfA0, mfA1, mfA2⟩ := (Stt.getD (g := w.heap.size) (n := nA) (v := .slice aA lA cA) (e := eA) Z20.out.1 (List.mem_cons_of_mem _ (List.mem_cons_of_mem _ (List.mem_cons_of_mem _ (List.mem_cons_of_mem _ (List.mem_cons_of_mem _ List.mem_cons_self)))))).facts
           obtain ⟨mB0, mB1, mB2, mfB0, mfB1, mfB2⟩ := (Stt.getD (g := w.heap.size + 1) (n := nB) (v := .slice aB lB cB) (e := eB) Z20.out.1 (List.mem_cons_of_mem _ (List.mem_cons_of_mem _ (List.mem_cons_of_mem _ (List.mem_cons_of_mem _ (List.mem_cons_of_mem _ (List.mem_cons_of_mem _ List.mem_cons_self))))))).facts
           obtain ⟨mC0, mC1, mC2, mfC0, mfC1, mfC2⟩ := (Stt.getD (g := w.heap.size + 1 + 1) (n := nC) (v := .slice aC lC cC) (e := eC) Z20.out.1 (List.mem_cons_of_mem _ (List.mem_cons_of_mem _ (List.mem_cons_of_mem _ (List.mem_cons_of_mem _ (List.mem_cons_of_mem _ (List.mem_cons_of_mem _ (List.mem_cons_of_mem _ List.mem_cons_self)))))))).facts
           have hnA0 : w.heap.size ≠ y20.heap.size := Nat.ne_of_lt ((Stt.getD (g := w.heap.size) (n := nA) (v := .slice aA lA cA) (e := eA) Z20.out.1 (List.mem_cons_of_mem _ (List.mem_cons_of_mem _ (List.mem_cons_of_mem _ (List.mem_cons_of_mem _ (List.mem_cons_of_mem _ List.mem_cons_self)))))).lt)
           have hnnA0 : y20.heap.size ≠ w.heap.size := fun h => hnA0 h.symm
           have hnB0 : w.heap.size + 1 ≠ y20.heap.size := Nat.ne_of_lt ((Stt.getD (g := w.heap.size + 1) (n := nB) (v := .slice aB lB cB) (e := eB) Z20.out.1 (List.mem_cons_of_mem _ (List.mem_cons_of_mem _ (List.mem_cons_of_mem _ (List.mem_cons_of_mem _ (List.mem_cons_of_mem _ (List.mem_cons_of_mem _ List.mem_cons_self))))))).lt)
           have hnnB0 : y20.heap.size ≠ w.heap.size + 1 := fun h => hnB0 h.symm
           have hnC0 : w.heap.size + 1 + 1 ≠ y20.heap.size := Nat.ne_of_lt ((Stt.getD (g := w.heap.size + 1 + 1) (n := nC) (v := .slice aC lC cC) (e := eC) Z20.out.1 (List.mem_cons_of_mem _ (List.mem_cons_of_mem _ (List.mem_cons_of_mem _ (List.mem_cons_of_mem _ (List.mem_cons_of_mem _ (List.mem_cons_of_mem _ (List.mem_cons_of_mem _ List.mem_cons_self)))))))).lt)
           have hnnC0 : y20.heap.size ≠ w.heap.size + 1 + 1 := fun h => hnC0 h.symm
           clear hN hbut hF hb9 hN9 T9 HQ HQ2 hz9 hg9))
      all_goals (
        go_wp2_with fail
        go_meet
        case rel =>
          first
            | with_reducible exact ring_new (Stt.pick1 Z21.out.1) Z21.out.2 _ _
            | with_reducible exact ring_set (Stt.pick1 Z21.out.1) Z21.out.2 TZ21.out (by have := Z20.out.1.hi; omega) (Z20.out.1.bel.size) Z20.out.1.ne _ _
            | with_reducible exact ring_set (Stt.pick1 Z21.out.1) Z21.out.2 TZ20.out (by have := S6.out.1.hi; omega) (S6.out.1.bel.size) S6.out.1.ne _ _)
    case rest =>
      obtain ⟨g8, a8, c8, rfl, HC8⟩ := hcut
      obtain ⟨U8, hwU⟩ : ∃ U, U = wc := ⟨_, rfl⟩
      subst hwU
      have S8 := HC8
      have hgl8 : gF < U8.heap.size := S8.out.1.hi
      clear HC8
      go_upto_region 11 with fail
      obtain ⟨k20, k21, k22, kf20, kf21, kf22⟩ := ((Stt.getD (g := u2.heap.size) (n := n2) (v := .slice a2 (ws X2).length c2) (e := e2) S8.out.1 (List.mem_cons_of_mem _ (List.mem_cons_of_mem _ (List.mem_cons_of_mem _ (List.mem_cons_of_mem _ List.mem_cons_self)))))).facts
      obtain ⟨kA0, kA1, kA2, kfA0, kfA1, kfA2⟩ := ((Stt.getD (g := w.heap.size) (n := nA) (v := .slice aA lA cA) (e := eA) S8.out.1 (List.mem_cons_of_mem _ (List.mem_cons_of_mem _ (List.mem_cons_of_mem _ (List.mem_cons_of_mem _ (List.mem_cons_of_mem _ (List.mem_cons_of_mem _ List.mem_cons_self)))))))).facts
      have H := hid (fmul_all nA n2 eA e2 gF bq8 S8.out.2 n9 X9 e9 er9 l9 (hid fun u' hu' => HO9.out u' a2 c2 (S8.out.1.bel.trans (hu'.mono S8.out.1.bel.size)) (((Stt.getN (v := .slice a2 (ws X2).length c2) (X := X2) S8.out.1 (List.mem_cons_of_mem _ (List.mem_cons_of_mem _ (List.mem_cons_of_mem _ (List.mem_cons_of_mem _ List.mem_cons_self))))).arg' (by omega)).2.below hu')))
      go_wp2_with fail
      clear k20 k21 k22 kf20 kf21 kf22 kA0 kA1 kA2 kfA0 kfA1 kfA2
      refine (Calls.mono H.out) ?_
      rintro r u9 ⟨⟨v, rfl, hN⟩, hbut, hF⟩
      obtain ⟨a9, c9, rfl, _⟩ := hN.arg (by omega)
      have hs9 := hbut.size
      obtain ⟨U9, hU9⟩ : ∃ U, U = u9.alloc (.cells #[.bool n9, .slice a9 (ws X9).length c9, .int .i64 e9] 38) := ⟨_, rfl⟩
      have hA : Below u9.heap.size u9 U9 := by rw [hU9]; exact below_alloc _ _
      have DN : Dk U9 u9.heap.size n9 (.slice a9 (ws X9).length c9) e9 := by rw [hU9]; exact Dk.new _ _ _ _
      have hgl9 : gF < U9.heap.size := by have := hA.size; omega
      rw [HB9.out] at hF
      have T0 := ((S8.out.1.but hbut).below hA).addN ((hN.mono (lo' := gF + 1) (by omega)).below hA)
      have T1 := T0.addD DN (by omega)
      have F1 := hF.below hA
      have S9 := (Aside.intro (And.intro T1 F1))
      clear hN hbut hF H hA DN T0 T1 F1 S8
      go_upto_region 12 with fail
      rw [← hU9]
      clear hU9
      go_cut [16] from 61 to 70 (fun p wx => ∃ g a c, p = .pointer (some ⟨g, 0, none⟩) ∧ Aside (Stt w gF ((g, n12, .slice a (ws X12).length c, e12) :: [(u9.heap.size, n9, .slice a9 (ws X9).length c9, e9), (g8, n8, .slice a8 (ws X8).length c8, e8), (g6, n6, .slice a6 (ws X6).length c6, e6), (u4.heap.size, n4, .slice a4 (ws X4).length c4, e4), (u3.heap.size, n3, .slice a3 (ws X3).length c3, e3), (u2.heap.size, n2, .slice a2 (ws X2).length c2, e2), (u1.heap.size, n1, .slice a1 (ws X1).length c1, e1), (w.heap.size, nA, .slice aA lA cA, eA), (w.heap.size + 1, nB, .slice aB lB cB, eB), (w.heap.size + 1 + 1, nC, .slice aC lC cC, eC)]) ((.slice a (ws X12).length c, X12) :: [(.slice a9 (ws X9).length c9, X9), (.slice a8 (ws X8).length c8, X8), (.slice a6 (ws X6).length c6, X6), (.slice a4 (ws X4).length c4, X4), (.slice a3 (ws X3).length c3, X3), (.slice a2 (ws X2).length c2, X2), (.slice a1 (ws X1).length c1, X1)]) wx ∧ Fk wx gF bq12))
      case first =>
        obtain ⟨kA0, kA1, kA2, kfA0, kfA1, kfA2⟩ := ((Stt.getD (g := w.heap.size) (n := nA) (v := .slice aA lA cA) (e := eA) S9.out.1 (List.mem_cons_of_mem _ (List.mem_cons_of_mem _ (List.mem_cons_of_mem _ (List.mem_cons_of_mem _ (List.mem_cons_of_mem _ (List.mem_cons_of_mem _ (List.mem_cons_of_mem _ List.mem_cons_self))))))))).facts
        obtain ⟨kB0, kB1, kB2, kfB0, kfB1, kfB2⟩ := ((Stt.getD (g := w.heap.size + 1) (n := nB) (v := .slice aB lB cB) (e := eB) S9.out.1 (List.mem_cons_of_mem _ (List.mem_cons_of_mem _ (List.mem_cons_of_mem _ (List.mem_cons_of_mem _ (List.mem_cons_of_mem _ (List.mem_cons_of_mem _ (List.mem_cons_of_mem _ (List.mem_cons_of_mem _ List.mem_cons_self)))))))))).facts
        obtain ⟨kC0, kC1, kC2, kfC0, kfC1, kfC2⟩ := ((Stt.getD (g := w.heap.size + 1 + 1) (n := nC) (v := .slice aC lC cC) (e := eC) S9.out.1 (List.mem_cons_of_mem _ (List.mem_cons_of_mem _ (List.mem_cons_of_mem _ (List.mem_cons_of_mem _ (List.mem_cons_of_mem _ (List.mem_cons_of_mem _ (List.mem_cons_of_mem _ (List.mem_cons_of_mem _ (List.mem_cons_of_mem _ List.mem_cons_self))))))))))).facts
        have hltA : w.heap.size < U9.heap.size := ((Stt.getD (g := w.heap.size) (n := nA) (v := .slice aA lA cA) (e := eA) S9.out.1 (List.mem_cons_of_mem _ (List.mem_cons_of_mem _ (List.mem_cons_of_mem _ (List.mem_cons_of_mem _ (List.mem_cons_of_mem _ (List.mem_cons_of_mem _ (List.mem_cons_of_mem _ List.mem_cons_self))))))))).lt
        have hltB : w.heap.size + 1 < U9.heap.size := ((Stt.getD (g := w.heap.size + 1) (n := nB) (v := .slice aB lB cB) (e := eB) S9.out.1 (List.mem_cons_of_mem _ (List.mem_cons_of_mem _ (List.mem_cons_of_mem _ (List.mem_cons_of_mem _ (List.mem_cons_of_mem _ (List.mem_cons_of_mem _ (List.mem_cons_of_mem _ (List.mem_cons_of_mem _ List.mem_cons_self)))))))))).lt
        have hltC : w.heap.size + 1 + 1 < U9.heap.size := ((Stt.getD (g := w.heap.size + 1 + 1) (n := nC) (v := .slice aC lC cC) (e := eC) S9.out.1 (List.mem_cons_of_mem _ (List.mem_cons_of_mem _ (List.mem_cons_of_mem _ (List.mem_cons_of_mem _ (List.mem_cons_of_mem _ (List.mem_cons_of_mem _ (List.mem_cons_of_mem _ (List.mem_cons_of_mem _ (List.mem_cons_of_mem _ List.mem_cons_self))))))))))).lt
        have hmA : w.heap.size ≠ U9.heap.size := Nat.ne_of_lt hltA
        have hmmA : U9.heap.size ≠ w.heap.size := fun h => hmA h.symm
        have hmB : w.heap.size + 1 ≠ U9.heap.size := Nat.ne_of_lt hltB
        have hmmB : U9.heap.size ≠ w.heap.size + 1 := fun h => hmB h.symm
        have hmC : w.heap.size + 1 + 1 ≠ U9.heap.size := Nat.ne_of_lt hltC
        have hmmC : U9.heap.size ≠ w.heap.size + 1 + 1 := fun h => hmC h.symm
        go_region_held3 (fun w' => w'.cell? ⟨w.heap.size, 0, none⟩ = some (.bool nA) ∧ w'.cell? ⟨w.heap.size, 1, none⟩ = some (.slice aA lA cA) ∧ w'.cell? ⟨w.heap.size, 2, none⟩ = some (.int .i64 eA) ∧ w'.cell? ⟨w.heap.size + 1, 0, none⟩ = some (.bool nB) ∧ w'.cell? ⟨w.heap.size + 1, 1, none⟩ = some (.slice aB lB cB) ∧ w'.cell? ⟨w.heap.size + 1, 2, none⟩ = some (.int .i64 eB) ∧ w'.cell? ⟨w.heap.size + 1 + 1, 0, none⟩ = some (.bool nC) ∧ w'.cell? ⟨w.heap.size + 1 + 1, 1, none⟩ = some (.slice aC lC cC) ∧ w'.cell? ⟨w.heap.size + 1 + 1, 2, none⟩ = some (.int .i64 eC)) (go_keep) (first
          | (go_at_call 41
             have HQ := fadd_all n5 n11 e5 e11 gF bq11 Z31.out.2 n12 X12 e12 er12 l12 (hid fun u' hu' => HO12.out u' a5 c5 a11 c11 (Z31.out.1.bel.trans (hu'.mono Z31.out.1.bel.size)) (((Stt.getN (v := .slice a5 (ws X5).length c5) (X := X5) Z31.out.1 (List.mem_cons_of_mem _ List.mem_cons_self)).arg' (by omega)).2.below hu') (((Stt.getN (v := .slice a11 (ws X11).length c11) (X := X11) Z31.out.1 List.mem_cons_self).arg' (by omega)).2.below hu'))
             have HQ2 := fadd_all n5 n11 e5 e11 gF bq11 (Fk.below Z31.out.2 ((Below.refl _ _).drew)) n12 X12 e12 er12 l12 (hid fun u' hu' => HO12.out u' a5 c5 a11 c11 ((Stt.below Z31.out.1 ((Below.refl _ _).drew)).bel.trans (hu'.mono (Stt.below Z31.out.1 ((Below.refl _ _).drew)).bel.size)) (((Stt.getN (v := .slice a5 (ws X5).length c5) (X := X5) (Stt.below Z31.out.1 ((Below.refl _ _).drew)) (List.mem_cons_of_mem _ List.mem_cons_self)).arg' (by omega)).2.below hu') (((Stt.getN (v := .slice a11 (ws X11).length c11) (X := X11) (Stt.below Z31.out.1 ((Below.refl _ _).drew)) List.mem_cons_self).arg' (by omega)).2.below hu'))
             first | with_reducible refine (Calls.mono HQ) ?_ | with_reducible refine (Calls.mono HQ2) ?_
             rintro r y32 ⟨⟨v, rfl, hN⟩, hbut, hF⟩
             have hb9 : But gF y31 y32 := by first | exact hbut | exact ((But.refl gF _).drew).trans hbut
             obtain ⟨a12, c12, rfl, _⟩ := hN.arg (by omega)
             have hz9 := hb9.size
             have hN9 : Nt y31.heap.size y32 (.slice a12 (ws X12).length c12) X12 := hN
             have hg9 : gF < y31.heap.size := Z31.out.1.hi
             rw [HB12.out] at hF
             have T9 := (Stt.but Z31.out.1 hb9).addN (hN9.mono (lo' := gF + 1) (by omega))
             have Z32 := (Aside.intro (And.intro T9 hF))
             have hzz : y31.heap.size ≤ y32.heap.size := hz9
             try (have TZn := Aside.intro (TZ30.out.but hb9 (by have := S9.out.1.hi; omega)); clear TZ30; have TZ30 := TZn; clear TZn; obtain ⟨z0, z1, z2, zf0, zf1, zf2⟩ := TZ30.out.facts)
             try (have TZn := Aside.intro (TZ31.out.but hb9 (by have := Z30.out.1.hi; omega)); clear TZ31; have TZ31 := TZn; clear TZn; obtain ⟨z0, z1, z2, zf0, zf1, zf2⟩ := TZ31.out.facts)
             obtain ⟨mA0, mA1, mA2, mfA0, mfA1, mfA2⟩ := (Stt.getD (g := w.heap.size) (n := nA) (v := .slice aA lA cA) (e := eA) Z32.out.1 (List.mem_cons_of_mem _ (List.mem_cons_of_mem _ (List.mem_cons_of_mem _ (List.mem_cons_of_mem _ (List.mem_cons_of_mem _ (List.mem_cons_of_mem _ (List.mem_cons_of_mem _ List.mem_cons_self)))))))).facts
             obtain ⟨mB0, mB1, mB2, mfB0, mfB1, mfB2⟩ := (Stt.getD (g := w.heap.size + 1) (n := nB) (v := .slice aB lB cB) (e := eB) Z32.out.1 (List.mem_cons_of_mem _ (List.mem_cons_of_mem _ (List.mem_cons_of_mem _ (List.mem_cons_of_mem _ (List.mem_cons_of_mem _ (List.mem_cons_of_mem _ (List.mem_cons_of_mem _ (List.mem_cons_of_mem _ List.mem_cons_self))))))))).facts
             obtain ⟨mC0, mC1, mC2, mfC0, mfC1, mfC2⟩ := (Stt.getD (g := w.heap.size + 1 + 1) (n := nC) (v := .slice aC lC cC) (e := eC) Z32.out.1 (List.mem_cons_of_mem _ (List.mem_cons_of_mem _ (List.mem_cons_of_mem _ (List.mem_cons_of_mem _ (List.mem_cons_of_mem _ (List.mem_cons_of_mem _ (List.mem_cons_of_mem _ (List.mem_cons_of_mem _ (List.mem_cons_of_mem _ List.mem_cons_self)))))))))).facts
             have hnA2 : w.heap.size ≠ y32.heap.size := Nat.ne_of_lt ((Stt.getD (g := w.heap.size) (n := nA) (v := .slice aA lA cA) (e := eA) Z32.out.1 (List.mem_cons_of_mem _ (List.mem_cons_of_mem _ (List.mem_cons_of_mem _ (List.mem_cons_of_mem _ (List.mem_cons_of_mem _ (List.mem_cons_of_mem _ (List.mem_cons_of_mem _ List.mem_cons_self)))))))).lt)
             have hnnA2 : y32.heap.size ≠ w.heap.size := fun h => hnA2 h.symm
             have hnB2 : w.heap.size + 1 ≠ y32.heap.size := Nat.ne_of_lt ((Stt.getD (g := w.heap.size + 1) (n := nB) (v := .slice aB lB cB) (e := eB) Z32.out.1 (List.mem_cons_of_mem _ (List.mem_cons_of_mem _ (List.mem_cons_of_mem _ (List.mem_cons_of_mem _ (List.mem_cons_of_mem _ (List.mem_cons_of_mem _ (List.mem_cons_of_mem _ (List.mem_cons_of_mem _ List.mem_cons_self))))))))).lt)
             have hnnB2 : y32.heap.size ≠ w.heap.size + 1 := fun h => hnB2 h.symm
             have hnC2 : w.heap.size + 1 + 1 ≠ y32.heap.size := Nat.ne_of_lt ((Stt.getD (g := w.heap.size + 1 + 1) (n := nC) (v := .slice aC lC cC) (e := eC) Z32.out.1 (List.mem_cons_of_mem _ (List.mem_cons_of_mem _ (List.mem_cons_of_mem _ (List.mem_cons_of_mem _ (List.mem_cons_of_mem _ (List.mem_cons_of_mem _ (List.mem_cons_of_mem _ (List.mem_cons_of_mem _ (List.mem_cons_of_mem _ List.mem_cons_self)))))))))).lt)
             have hnnC2 : y32.heap.size ≠ w.heap.size + 1 + 1 := fun h => hnC2 h.symm
             clear hN hbut hF hb9 hN9 T9 HQ HQ2 hz9 hg9)
          | (go_at_call 41
             have HQ := fadd_all n5 n11 e5 e11 gF bq11 (Z31.out.2.below (below_alloc y31 (.cells #[.bool false, .slice none 0 0, .int .i64 0] 38))) n12 X12 e12 er12 l12 (hid fun u' hu' => HO12.out u' a5 c5 a11 c11 ((Z31.out.1.below (below_alloc y31 (.cells #[.bool false, .slice none 0 0, .int .i64 0] 38))).bel.trans (hu'.mono (Z31.out.1.below (below_alloc y31 (.cells #[.bool false, .slice none 0 0, .int .i64 0] 38))).bel.size)) (((Stt.getN (v := .slice a5 (ws X5).length c5) (X := X5) (Z31.out.1.below (below_alloc y31 (.cells #[.bool false, .slice none 0 0, .int .i64 0] 38))) (List.mem_cons_of_mem _ List.mem_cons_self)).arg' (by omega)).2.below hu') (((Stt.getN (v := .slice a11 (ws X11).length c11) (X := X11) (Z31.out.1.below (below_alloc y31 (.cells #[.bool false, .slice none 0 0, .int .i64 0] 38))) List.mem_cons_self).arg' (by omega)).2.below hu'))
             have HQ2 := fadd_all n5 n11 e5 e11 gF bq11 (Fk.below (Z31.out.2.below (below_alloc y31 (.cells #[.bool false, .slice none 0 0, .int .i64 0] 38))) ((Below.refl _ _).drew)) n12 X12 e12 er12 l12 (hid fun u' hu' => HO12.out u' a5 c5 a11 c11 ((Stt.below (Z31.out.1.below (below_alloc y31 (.cells #[.bool false, .slice none 0 0, .int .i64 0] 38))) ((Below.refl _ _).drew)).bel.trans (hu'.mono (Stt.below (Z31.out.1.below (below_alloc y31 (.cells #[.bool false, .slice none 0 0, .int .i64 0] 38))) ((Below.refl _ _).drew)).bel.size)) (((Stt.getN (v := .slice a5 (ws X5).length c5) (X := X5) (Stt.below (Z31.out.1.below (below_alloc y31 (.cells #[.bool false, .slice none 0 0, .int .i64 0] 38))) ((Below.refl _ _).drew)) (List.mem_cons_of_mem _ List.mem_cons_self)).arg' (by omega)).2.below hu') (((Stt.getN (v := .slice a11 (ws X11).length c11) (X := X11) (Stt.below (Z31.out.1.below (below_alloc y31 (.cells #[.bool false, .slice none 0 0, .int .i64 0] 38))) ((Below.refl _ _).drew)) List.mem_cons_self).arg' (by omega)).2.below hu'))
             first | with_reducible refine (Calls.mono HQ) ?_ | with_reducible refine (Calls.mono HQ2) ?_
             rintro r y32 ⟨⟨v, rfl, hN⟩, hbut, hF⟩
             have hb9 : But gF (y31.alloc (.cells #[.bool false, .slice none 0 0, .int .i64 0] 38)) y32 := by first | exact hbut | exact ((But.refl gF _).drew).trans hbut
             obtain ⟨a12, c12, rfl, _⟩ := hN.arg (by omega)
             have hz9 := hb9.size
             have hN9 : Nt (y31.alloc (.cells #[.bool false, .slice none 0 0, .int .i64 0] 38)).heap.size y32 (.slice a12 (ws X12).length c12) X12 := hN
             have hg9 : gF < (y31.alloc (.cells #[.bool false, .slice none 0 0, .int .i64 0] 38)).heap.size := (Z31.out.1.below (below_alloc y31 (.cells #[.bool false, .slice none 0 0, .int .i64 0] 38))).hi
             rw [HB12.out] at hF
             have T9 := (Stt.but (Z31.out.1.below (below_alloc y31 (.cells #[.bool false, .slice none 0 0, .int .i64 0] 38))) hb9).addN (hN9.mono (lo' := gF + 1) (by omega))
             have Z32 := (Aside.intro (And.intro T9 hF))
             have hzz : y31.heap.size < y32.heap.size := by have : (y31.alloc (.cells #[.bool false, .slice none 0 0, .int .i64 0] 38)).heap.size = y31.heap.size + 1 := (by simp); omega
             have TZ32 := Aside.intro ((Dk.new y31 false (.slice none 0 0) 0).but hb9 (by have := Z31.out.1.hi; omega))
             obtain ⟨z0, z1, z2, zf0, zf1, zf2⟩ := TZ32.out.facts
             obtain ⟨mA0, mA1, mA2, mfA0, mfA1, mfA2⟩ := (Stt.getD (g := w.heap.size) (n := nA) (v := .slice aA lA cA) (e := eA) Z32.out.1 (List.mem_cons_of_mem _ (List.mem_cons_of_mem _ (List.mem_cons_of_mem _ (List.mem_cons_of_mem _ (List.mem_cons_of_mem _ (List.mem_cons_of_mem _ (List.mem_cons_of_mem _ List.mem_cons_self)))))))).facts
             obtain ⟨mB0, mB1, mB2, mfB0, mfB1, mfB2⟩ := (Stt.getD (g := w.heap.size + 1) (n := nB) (v := .slice aB lB cB) (e := eB) Z32.out.1 (List.mem_cons_of_mem _ (List.mem_cons_of_mem _ (List.mem_cons_of_mem _ (List.mem_cons_of_mem _ (List.mem_cons_of_mem _ (List.mem_cons_of_mem _ (List.mem_cons_of_mem _ (List.mem_cons_of_mem _ List.mem_cons_self))))))))).facts
             obtain ⟨mC0, mC1, mC2, mfC0, mfC1, mfC2⟩ := (Stt.getD (g := w.heap.size + 1 + 1) (n := nC) (v := .slice aC lC cC) (e := eC) Z32.out.1 (List.mem_cons_of_mem _ (List.mem_cons_of_mem _ (List.mem_cons_of_mem _ (List.mem_cons_of_mem _ (List.mem_cons_of_mem _ (List.mem_cons_of_mem _ (List.mem_cons_of_mem _ (List.mem_cons_of_mem _ (List.mem_cons_of_mem _ List.mem_cons_self)))))))))).facts
             have hnA2 : w.heap.size ≠ y32.heap.size := Nat.ne_of_lt ((Stt.getD (g := w.heap.size) (n := nA) (v := .slice aA lA cA) (e := eA) Z32.out.1 (List.mem_cons_of_mem _ (List.mem_cons_of_mem _ (List.mem_cons_of_mem _ (List.mem_cons_of_mem _ (List.mem_cons_of_mem _ (List.mem_cons_of_mem _ (List.mem_cons_of_mem _ List.mem_cons_self)))))))).lt)
             have hnnA2 : y32.heap.size ≠ w.heap.size := fun h => hnA2 h.symm
             have hnB2 : w.heap.size + 1 ≠ y32.heap.size := Nat.ne_of_lt ((Stt.getD (g := w.heap.size + 1) (n := nB) (v := .slice aB lB cB) (e := eB) Z32.out.1 (List.mem_cons_of_mem _ (List.mem_cons_of_mem _ (List.mem_cons_of_mem _ (List.mem_cons_of_mem _ (List.mem_cons_of_mem _ (List.mem_cons_of_mem _ (List.mem_cons_of_mem _ (List.mem_cons_of_mem _ List.mem_cons_self))))))))).lt)
             have hnnB2 : y32.heap.size ≠ w.heap.size + 1 := fun h => hnB2 h.symm
             have hnC2 : w.heap.size + 1 + 1 ≠ y32.heap.size := Nat.ne_of_lt ((Stt.getD (g := w.heap.size + 1 + 1) (n := nC) (v := .slice aC lC cC) (e := eC) Z32.out.1 (List.mem_cons_of_mem _ (List.mem_cons_of_mem _ (List.mem_cons_of_mem _ (List.mem_cons_of_mem _ (List.mem_cons_of_mem _ (List.mem_cons_of_mem _ (List.mem_cons_of_mem _ (List.mem_cons_of_mem _ (List.mem_cons_of_mem _ List.mem_cons_self)))))))))).lt)
             have hnnC2 : y32.heap.size ≠ w.heap.size + 1 + 1 := fun h => hnC2 h.symm
             clear hN hbut hF hb9 hN9 T9 HQ HQ2 hz9 hg9)
          | (go_at_call 42
             have HQ := fmul_all nA nC eA eC gF bq10 Z30.out.2 n11 X11 e11 er11 l11 (hid fun u' hu' => HO11.out u'  (Z30.out.1.bel.trans (hu'.mono Z30.out.1.bel.size)) )
             have HQ2 := fmul_all nA nC eA eC gF bq10 (Fk.below Z30.out.2 ((Below.refl _ _).drew)) n11 X11 e11 er11 l11 (hid fun u' hu' => HO11.out u'  ((Stt.below Z30.out.1 ((Below.refl _ _).drew)).bel.trans (hu'.mono (Stt.below Z30.out.1 ((Below.refl _ _).drew)).bel.size)) )
             first | with_reducible refine (Calls.mono HQ) ?_ | with_reducible refine (Calls.mono HQ2) ?_
             rintro r y31 ⟨⟨v, rfl, hN⟩, hbut, hF⟩
             have hb9 : But gF y30 y31 := by first | exact hbut | exact ((But.refl gF _).drew).trans hbut
             obtain ⟨a11, c11, rfl, _⟩ := hN.arg (by omega)
             have hz9 := hb9.size
             have hN9 : Nt y30.heap.size y31 (.slice a11 (ws X11).length c11) X11 := hN
             have hg9 : gF < y30.heap.size := Z30.out.1.hi
             rw [HB11.out] at hF
             have T9 := (Stt.but Z30.out.1 hb9).addN (hN9.mono (lo' := gF + 1) (by omega))
             have Z31 := (Aside.intro (And.intro T9 hF))
             have hzz : y30.heap.size ≤ y31.heap.size := hz9
             try (have TZn := Aside.intro (TZ30.out.but hb9 (by have := S9.out.1.hi; omega)); clear TZ30; have TZ30 := TZn; clear TZn; obtain ⟨z0, z1, z2, zf0, zf1, zf2⟩ := TZ30.out.facts)
             obtain ⟨mA0, mA1, mA2, mfA0, mfA1, mfA2⟩ := (Stt.getD (g := w.heap.size) (n := nA) (v := .slice aA lA cA) (e := eA) Z31.out.1 (List.mem_cons_of_mem _ (List.mem_cons_of_mem _ (List.mem_cons_of_mem _ (List.mem_cons_of_mem _ (List.mem_cons_of_mem _ (List.mem_cons_of_mem _ (List.mem_cons_of_mem _ List.mem_cons_self)))))))).facts
             obtain ⟨mB0, mB1, mB2, mfB0, mfB1, mfB2⟩ := (Stt.getD (g := w.heap.size + 1) (n := nB) (v := .slice aB lB cB) (e := eB) Z31.out.1 (List.mem_cons_of_mem _ (List.mem_cons_of_mem _ (List.mem_cons_of_mem _ (List.mem_cons_of_mem _ (List.mem_cons_of_mem _ (List.mem_cons_of_mem _ (List.mem_cons_of_mem _ (List.mem_cons_of_mem _ List.mem_cons_self))))))))).facts
             obtain ⟨mC0, mC1, mC2, mfC0, mfC1, mfC2⟩ := (Stt.getD (g := w.heap.size + 1 + 1) (n := nC) (v := .slice aC lC cC) (e := eC) Z31.out.1 (List.mem_cons_of_mem _ (List.mem_cons_of_mem _ (List.mem_cons_of_mem _ (List.mem_cons_of_mem _ (List.mem_cons_of_mem _ (List.mem_cons_of_mem _ (List.mem_cons_of_mem _ (List.mem_cons_of_mem _ (List.mem_cons_of_mem _ List.mem_cons_self)))))))))).facts
             have hnA1 : w.heap.size ≠ y31.heap.size := Nat.ne_of_lt ((Stt.getD (g := w.heap.size) (n := nA) (v := .slice aA lA cA) (e := eA) Z31.out.1 (List.mem_cons_of_mem _ (List.mem_cons_of_mem _ (List.mem_cons_of_mem _ (List.mem_cons_of_mem _ (List.mem_cons_of_mem _ (List.mem_cons_of_mem _ (List.mem_cons_of_mem _ List.mem_cons_self)))))))).lt)
             have hnnA1 : y31.heap.size ≠ w.heap.size := fun h => hnA1 h.symm
             have hnB1 : w.heap.size + 1 ≠ y31.heap.size := Nat.ne_of_lt ((Stt.getD (g := w.heap.size + 1) (n := nB) (v := .slice aB lB cB) (e := eB) Z31.out.1 (List.mem_cons_of_mem _ (List.mem_cons_of_mem _ (List.mem_cons_of_mem _ (List.mem_cons_of_mem _ (List.mem_cons_of_mem _ (List.mem_cons_of_mem _ (List.mem_cons_of_mem _ (List.mem_cons_of_mem _ List.mem_cons_self))))))))).lt)
             have hnnB1 : y31.heap.size ≠ w.heap.size + 1 := fun h => hnB1 h.symm
             have hnC1 : w.heap.size + 1 + 1 ≠ y31.heap.size := Nat.ne_of_lt ((Stt.getD (g := w.heap.size + 1 + 1) (n := nC) (v := .slice aC lC cC) (e := eC) Z31.out.1 (List.mem_cons_of_mem _ (List.mem_cons_of_mem _ (List.mem_cons_of_mem _ (List.mem_cons_of_mem _ (List.mem_cons_of_mem _ (List.mem_cons_of_mem _ (List.mem_cons_of_mem _ (List.mem_cons_of_mem _ (List.mem_cons_of_mem _ List.mem_cons_self)))))))))).lt)
             have hnnC1 : y31.heap.size ≠ w.heap.size + 1 + 1 := fun h => hnC1 h.symm
             clear hN hbut hF hb9 hN9 T9 HQ HQ2 hz9 hg9)
          | (go_at_call 42
             have HQ := fmul_all nA nC eA eC gF bq10 (Z30.out.2.below (below_alloc y30 (.cells #[.bool false, .slice none 0 0, .int .i64 0] 38))) n11 X11 e11 er11 l11 (hid fun u' hu' => HO11.out u'  ((Z30.out.1.below (below_alloc y30 (.cells #[.bool false, .slice none 0 0, .int .i64 0] 38))).bel.trans (hu'.mono (Z30.out.1.below (below_alloc y30 (.cells #[.bool false, .slice none 0 0, .int .i64 0] 38))).bel.size)) )
             have HQ2 := fmul_all nA nC eA eC gF bq10 (Fk.below (Z30.out.2.below (below_alloc y30 (.cells #[.bool false, .slice none 0 0, .int .i64 0] 38))) ((Below.refl _ _).drew)) n11 X11 e11 er11 l11 (hid fun u' hu' => HO11.out u'  ((Stt.below (Z30.out.1.below (below_alloc y30 (.cells #[.bool false, .slice none 0 0, .int .i64 0] 38))) ((Below.refl _ _).drew)).bel.trans (hu'.mono (Stt.below (Z30.out.1.below (below_alloc y30 (.cells #[.bool false, .slice none 0 0, .int .i64 0] 38))) ((Below.refl _ _).drew)).bel.size)) )
             first | with_reducible refine (Calls.mono HQ) ?_ | with_reducible refine (Calls.mono HQ2) ?_
             rintro r y31 ⟨⟨v, rfl, hN⟩, hbut, hF⟩
             have hb9 : But gF (y30.alloc (.cells #[.bool false, .slice none 0 0, .int .i64 0] 38)) y31 := by first | exact hbut | exact ((But.refl gF _).drew).trans hbut
             obtain ⟨a11, c11, rfl, _⟩ := hN.arg (by omega)
             have hz9 := hb9.size
             have hN9 : Nt (y30.alloc (.cells #[.bool false, .slice none 0 0, .int .i64 0] 38)).heap.size y31 (.slice a11 (ws X11).length c11) X11 := hN
             have hg9 : gF < (y30.alloc (.cells #[.bool false, .slice none 0 0, .int .i64 0] 38)).heap.size := (Z30.out.1.below (below_alloc y30 (.cells #[.bool false, .slice none 0 0, .int .i64 0] 38))).hi
             rw [HB11.out] at hF
             have T9 := (Stt.but (Z30.out.1.below (below_alloc y30 (.cells #[.bool false, .slice none 0 0, .int .i64 0] 38))) hb9).addN (hN9.mono (lo' := gF + 1) (by omega))
             have Z31 := (Aside.intro (And.intro T9 hF))
             have hzz : y30.heap.size < y31.heap.size := by have : (y30.alloc (.cells #[.bool false, .slice none 0 0, .int .i64 0] 38)).heap.size = y30.heap.size + 1 := (by simp); omega
             have TZ31 := Aside.intro ((Dk.new y30 false (.slice none 0 0) 0).but hb9 (by have := Z30.out.1.hi; omega))
             obtain ⟨z0, z1, z2, zf0, zf1, zf2⟩ := TZ31.out.facts
             obtain ⟨mA0, mA1, mA2, mfA0, mfA1, mfA2⟩ := (Stt.getD (g := w.heap.size) (n := nA) (v := .slice aA lA cA) (e := eA) Z31.out.1 (List.mem_cons_of_mem _ (List.mem_cons_of_mem _ (List.mem_cons_of_mem _ (List.mem_cons_of_mem _ (List.mem_cons_of_mem _ (List.mem_cons_of_mem _ (List.mem_cons_of_mem _ List.mem_cons_self)))))))).facts
             obtain ⟨mB0, mB1, mB2, mfB0, mfB1, mfB2⟩ := (Stt.getD (g := w.heap.size + 1) (n := nB) (v := .slice aB lB cB) (e := eB) Z31.out.1 (List.mem_cons_of_mem _ (List.mem_cons_of_mem _ (List.mem_cons_of_mem _ (List.mem_cons_of_mem _ (List.mem_cons_of_mem _ (List.mem_cons_of_mem _ (List.mem_cons_of_mem _ (List.mem_cons_of_mem _ List.mem_cons_self))))))))).facts
             obtain ⟨mC0, mC1, mC2, mfC0, mfC1, mfC2⟩ := (Stt.getD (g := w.heap.size + 1 + 1) (n := nC) (v := .slice aC lC cC) (e := eC) Z31.out.1 (List.mem_cons_of_mem _ (List.mem_cons_of_mem _ (List.mem_cons_of_mem _ (List.mem_cons_of_mem _ (List.mem_cons_of_mem _ (List.mem_cons_of_mem _ (List.mem_cons_of_mem _ (List.mem_cons_of_mem _ (List.mem_cons_of_mem _ List.mem_cons_self)))))))))).facts
             have hnA1 : w.heap.size ≠ y31.heap.size := Nat.ne_of_lt ((Stt.getD (g := w.heap.size) (n := nA) (v := .slice aA lA cA) (e := eA) Z31.out.1 (List.mem_cons_of_mem _ (List.mem_cons_of_mem _ (List.mem_cons_of_mem _ (List.mem_cons_of_mem _ (List.mem_cons_of_mem _ (List.mem_cons_of_mem _ (List.mem_cons_of_mem _ List.mem_cons_self)))))))).lt)
             have hnnA1 : y31.heap.size ≠ w.heap.size := fun h => hnA1 h.symm
             have hnB1 : w.heap.size + 1 ≠ y31.heap.size := Nat.ne_of_lt ((Stt.getD (g := w.heap.size + 1) (n := nB) (v := .slice aB lB cB) (e := eB) Z31.out.1 (List.mem_cons_of_mem _ (List.mem_cons_of_mem _ (List.mem_cons_of_mem _ (List.mem_cons_of_mem _ (List.mem_cons_of_mem _ (List.mem_cons_of_mem _ (List.mem_cons_of_mem _ (List.mem_cons_of_mem _ List.mem_cons_self))))))))).lt)
             have hnnB1 : y31.heap.size ≠ w.heap.size + 1 := fun h => hnB1 h.symm
             have hnC1 : w.heap.size + 1 + 1 ≠ y31.heap.size := Nat.ne_of_lt ((Stt.getD (g := w.heap.size + 1 + 1) (n := nC) (v := .slice aC lC cC) (e := eC) Z31.out.1 (List.mem_cons_of_mem _ (List.mem_cons_of_mem _ (List.mem_cons_of_mem _ (List.mem_cons_of_mem _ (List.mem_cons_of_mem _ (List.mem_cons_of_mem _ (List.mem_cons_of_mem _ (List.mem_cons_of_mem _ (List.mem_cons_of_mem _ List.mem_cons_self)))))))))).lt)
             have hnnC1 : y31.heap.size ≠ w.heap.size + 1 + 1 := fun h => hnC1 h.symm
             clear hN hbut hF hb9 hN9 T9 HQ HQ2 hz9 hg9)
          | (go_at_call 42
             have HQ := fmul_all nA nB eA eB gF bq9 S9.out.2 n5 X5 e5 er5 l5 (hid fun u' hu' => HO5.out u'  (S9.out.1.bel.trans (hu'.mono S9.out.1.bel.size)) )
             have HQ2 := fmul_all nA nB eA eB gF bq9 (Fk.below S9.out.2 ((Below.refl _ _).drew)) n5 X5 e5 er5 l5 (hid fun u' hu' => HO5.out u'  ((Stt.below S9.out.1 ((Below.refl _ _).drew)).bel.trans (hu'.mono (Stt.below S9.out.1 ((Below.refl _ _).drew)).bel.size)) )
             first | with_reducible refine (Calls.mono HQ) ?_ | with_reducible refine (Calls.mono HQ2) ?_
             rintro r y30 ⟨⟨v, rfl, hN⟩, hbut, hF⟩
             have hb9 : But gF U9 y30 := by first | exact hbut | exact ((But.refl gF _).drew).trans hbut
             obtain ⟨a5, c5, rfl, _⟩ := hN.arg (by omega)
             have hz9 := hb9.size
             have hN9 : Nt U9.heap.size y30 (.slice a5 (ws X5).length c5) X5 := hN
             have hg9 : gF < U9.heap.size := S9.out.1.hi
             rw [HB10.out] at hF
             have T9 := (Stt.but S9.out.1 hb9).addN (hN9.mono (lo' := gF + 1) (by omega))
             have Z30 := (Aside.intro (And.intro T9 hF))
             have hzz : U9.heap.size ≤ y30.heap.size := hz9
             obtain ⟨mA0, mA1, mA2, mfA0, mfA1, mfA2⟩ := (Stt.getD (g := w.heap.size) (n := nA) (v := .slice aA lA cA) (e := eA) Z30.out.1 (List.mem_cons_of_mem _ (List.mem_cons_of_mem _ (List.mem_cons_of_mem _ (List.mem_cons_of_mem _ (List.mem_cons_of_mem _ (List.mem_cons_of_mem _ (List.mem_cons_of_mem _ List.mem_cons_self)))))))).facts
             obtain ⟨mB0, mB1, mB2, mfB0, mfB1, mfB2⟩ := (Stt.getD (g := w.heap.size + 1) (n := nB) (v := .slice aB lB cB) (e := eB) Z30.out.1 (List.mem_cons_of_mem _ (List.mem_cons_of_mem _ (List.mem_cons_of_mem _ (List.mem_cons_of_mem _ (List.mem_cons_of_mem _ (List.mem_cons_of_mem _ (List.mem_cons_of_mem _ (List.mem_cons_of_mem _ List.mem_cons_self))))))))).facts
             obtain ⟨mC0, mC1, mC2, mfC0, mfC1, mfC2⟩ := (Stt.getD (g := w.heap.size + 1 + 1) (n := nC) (v := .slice aC lC cC) (e := eC) Z30.out.1 (List.mem_cons_of_mem _ (List.mem_cons_of_mem _ (List.mem_cons_of_mem _ (List.mem_cons_of_mem _ (List.mem_cons_of_mem _ (List.mem_cons_of_mem _ (List.mem_cons_of_mem _ (List.mem_cons_of_mem _ (List.mem_cons_of_mem _ List.mem_cons_self)))))))))).facts
             have hnA0 : w.heap.size ≠ y30.heap.size := Nat.ne_of_lt ((Stt.getD (g := w.heap.size) (n := nA) (v := .slice aA lA cA) (e := eA) Z30.out.1 (List.mem_cons_of_mem _ (List.mem_cons_of_mem _ (List.mem_cons_of_mem _ (List.mem_cons_of_mem _ (List.mem_cons_of_mem _ (List.mem_cons_of_mem _ (List.mem_cons_of_mem _ List.mem_cons_self)))))))).lt)
             have hnnA0 : y30.heap.size ≠ w.heap.size := fun h => hnA0 h.symm
             have hnB0 : w.heap.size + 1 ≠ y30.heap.size := Nat.ne_of_lt ((Stt.getD (g := w.heap.size + 1) (n := nB) (v := .slice aB lB cB) (e := eB) Z30.out.1 (List.mem_cons_of_mem _ (List.mem_cons_of_mem _ (List.mem_cons_of_mem _ (List.mem_cons_of_mem _ (List.mem_cons_of_mem _ (List.mem_cons_of_mem _ (List.mem_cons_of_mem _ (List.mem_cons_of_mem _ List.mem_cons_self))))))))).lt)
             have hnnB0 : y30.heap.size ≠ w.heap.size + 1 := fun h => hnB0 h.symm
             have hnC0 : w.heap.size + 1 + 1 ≠ y30.heap.size := Nat.ne_of_lt ((Stt.getD (g := w.heap.size + 1 + 1) (n := nC) (v := .slice aC lC cC) (e := eC) Z30.out.1 (List.mem_cons_of_mem _ (List.mem_cons_of_mem _ (List.mem_cons_of_mem _ (List.mem_cons_of_mem _ (List.mem_cons_of_mem _ (List.mem_cons_of_mem _ (List.mem_cons_of_mem _ (List.mem_cons_of_mem _ (List.mem_cons_of_mem _ List.mem_cons_self)))))))))).lt)
             have hnnC0 : y30.heap.size ≠ w.heap.size + 1 + 1 := fun h => hnC0 h.symm
             clear hN hbut hF hb9 hN9 T9 HQ HQ2 hz9 hg9)
          | (go_at_call 42
             have HQ := fmul_all nA nB eA eB gF bq9 (S9.out.2.below (below_alloc U9 (.cells #[.bool false, .slice none 0 0, .int .i64 0] 38))) n5 X5 e5 er5 l5 (hid fun u' hu' => HO5.out u'  ((S9.out.1.below (below_alloc U9 (.cells #[.bool false, .slice none 0 0, .int .i64 0] 38))).bel.trans (hu'.mono (S9.out.1.below (below_alloc U9 (.cells #[.bool false, .slice none 0 0, .int .i64 0] 38))).bel.size)) )
             have HQ2 := fmul_all nA nB eA eB gF bq9 (Fk.below (S9.out.2.below (below_alloc U9 (.cells #[.bool false, .slice none 0 0, .int .i64 0] 38))) ((Below.refl _ _).drew)) n5 X5 e5 er5 l5 (hid fun u' hu' => HO5.out u'  ((Stt.below (S9.out.1.below (below_alloc U9 (.cells #[.bool false, .slice none 0 0, .int .i64 0] 38))) ((Below.refl _ _).drew)).bel.trans (hu'.mono (Stt.below (S9.out.1.below (below_alloc U9 (.cells #[.bool false, .slice none 0 0, .int .i64 0] 38))) ((Below.refl _ _).drew)).bel.size)) )
             first | with_reducible refine (Calls.mono HQ) ?_ | with_reducible refine (Calls.mono HQ2) ?_
             rintro r y30 ⟨⟨v, rfl, hN⟩, hbut, hF⟩
             have hb9 : But gF (U9.alloc (.cells #[.bool false, .slice none 0 0, .int .i64 0] 38)) y30 := by first | exact hbut | exact ((But.refl gF _).drew).trans hbut
             obtain ⟨a5, c5, rfl, _⟩ := hN.arg (by omega)
             have hz9 := hb9.size
             have hN9 : Nt (U9.alloc (.cells #[.bool false, .slice none 0 0, .int .i64 0] 38)).heap.size y30 (.slice a5 (ws X5).length c5) X5 := hN
             have hg9 : gF < (U9.alloc (.cells #[.bool false, .slice none 0 0, .int .i64 0] 38)).heap.size := (S9.out.1.below (below_alloc U9 (.cells #[.bool false, .slice none 0 0, .int .i64 0] 38))).hi
             rw [HB10.out] at hF
             have T9 := (Stt.but (S9.out.1.below (below_alloc U9 (.cells #[.bool false, .slice none 0 0, .int .i64 0] 38))) hb9).addN (hN9.mono (lo' := gF + 1) (by omega))
             have Z30 := (Aside.intro (And.intro T9 hF))
             have hzz : U9.heap.size < y30.heap.size := by have : (U9.alloc (.cells #[.bool false, .slice none 0 0, .int .i64 0] 38)).heap.size = U9.heap.size + 1 := (by simp); omega
             have TZ30 := Aside.intro ((Dk.new U9 false (.slice none 0 0) 0).but hb9 (by have := S9.out.1.hi; omega))
             obtain ⟨z0, z1, z2, zf0, zf1, zf2⟩ := TZ30.out.facts
             obtain ⟨mA0, mA1, mA2, mfA0, mfA1, mfA2⟩ := (Stt.getD (g := w.heap.size) (n := nA) (v := .slice aA lA cA) (e := eA) Z30.out.1 (List.mem_cons_of_mem _ (List.mem_cons_of_mem _ (List.mem_cons_of_mem _ (List.mem_cons_of_mem _ (List.mem_cons_of_mem _ (List.mem_cons_of_mem _ (List.mem_cons_of_mem _ List.mem_cons_self)))))))).facts
             obtain ⟨mB0, mB1, mB2, mfB0, mfB1, mfB2⟩ := (Stt.getD (g := w.heap.size + 1) (n := nB) (v := .slice aB lB cB) (e := eB) Z30.out.1 (List.mem_cons_of_mem _ (List.mem_cons_of_mem _ (List.mem_cons_of_mem _ (List.mem_cons_of_mem _ (List.mem_cons_of_mem _ (List.mem_cons_of_mem _ (List.mem_cons_of_mem _ (List.mem_cons_of_mem _ List.mem_cons_self))))))))).facts
             obtain ⟨mC0, mC1, mC2, mfC0, mfC1, mfC2⟩ := (Stt.getD (g := w.heap.size + 1 + 1) (n := nC) (v := .slice aC lC cC) (e := eC) Z30.out.1 (List.mem_cons_of_mem _ (List.mem_cons_of_mem _ (List.mem_cons_of_mem _ (List.mem_cons_of_mem _ (List.mem_cons_of_mem _ (List.mem_cons_of_mem _ (List.mem_cons_of_mem _ (List.mem_cons_of_mem _ (List.mem_cons_of_mem _ List.mem_cons_self)))))))))).facts
             have hnA0 : w.heap.size ≠ y30.heap.size := Nat.ne_of_lt ((Stt.getD (g := w.heap.size) (n := nA) (v := .slice aA lA cA) (e := eA) Z30.out.1 (List.mem_cons_of_mem _ (List.mem_cons_of_mem _ (List.mem_cons_of_mem _ (List.mem_cons_of_mem _ (List.mem_cons_of_mem _ (List.mem_cons_of_mem _ (List.mem_cons_of_mem _ List.mem_cons_self)))))))).lt)
             have hnnA0 : y30.heap.size ≠ w.heap.size := fun h => hnA0 h.symm
             have hnB0 : w.heap.size + 1 ≠ y30.heap.size := Nat.ne_of_lt ((Stt.getD (g := w.heap.size + 1) (n := nB) (v := .slice aB lB cB) (e := eB) Z30.out.1 (List.mem_cons_of_mem _ (List.mem_cons_of_mem _ (List.mem_cons_of_mem _ (List.mem_cons_of_mem _ (List.mem_cons_of_mem _ (List.mem_cons_of_mem _ (List.mem_cons_of_mem _ (List.mem_cons_of_mem _ List.mem_cons_self))))))))).lt)
             have hnnB0 : y30.heap.size ≠ w.heap.size + 1 := fun h => hnB0 h.symm
             have hnC0 : w.heap.size + 1 + 1 ≠ y30.heap.size := Nat.ne_of_lt ((Stt.getD (g := w.heap.size + 1 + 1) (n := nC) (v := .slice aC lC cC) (e := eC) Z30.out.1 (List.mem_cons_of_mem _ (List.mem_cons_of_mem _ (List.mem_cons_of_mem _ (List.mem_cons_of_mem _ (List.mem_cons_of_mem _ (List.mem_cons_of_mem _ (List.mem_cons_of_mem _ (List.mem_cons_of_mem _ (List.mem_cons_of_mem _ List.mem_cons_self)))))))))).lt)
             have hnnC0 : y30.heap.size ≠ w.heap.size + 1 + 1 := fun h => hnC0 h.symm
             clear hN hbut hF hb9 hN9 T9 HQ HQ2 hz9 hg9))
        all_goals (
          go_wp2_with fail
          go_meet
          case rel =>
            first
              | with_reducible exact ring_new (Stt.pick2 Z32.out.1) Z32.out.2 _ _
              | with_reducible exact ring_set (Stt.pick2 Z32.out.1) Z32.out.2 TZ32.out (by have := Z31.out.1.hi; omega) (Z31.out.1.bel.size) Z31.out.1.ne _ _
              | with_reducible exact ring_set (Stt.pick2 Z32.out.1) Z32.out.2 TZ31.out (by have := Z30.out.1.hi; omega) (Z30.out.1.bel.size) Z30.out.1.ne _ _
              | with_reducible exact ring_set (Stt.pick2 Z32.out.1) Z32.out.2 TZ30.out (by have := S9.out.1.hi; omega) (S9.out.1.bel.size) S9.out.1.ne _ _)
      case rest =>
        obtain ⟨g12, a12, c12, rfl, HC12⟩ := hcut
        obtain ⟨U12, hwU⟩ : ∃ U, U = wc := ⟨_, rfl⟩
        subst hwU
        have S12 := HC12
        have hgl12 : gF < U12.heap.size := S12.out.1.hi
        clear HC12
        go_upto_region 13 with fail
        go_cut [17] from 71 to 75 (fun p wx => ∃ g a c, p = .pointer (some ⟨g, 0, none⟩) ∧ Aside (Stt w gF ((g, n13, .slice a (ws X13).length c, e13) :: [(g12, n12, .slice a12 (ws X12).length c12, e12), (u9.heap.size, n9, .slice a9 (ws X9).length c9, e9), (g8, n8, .slice a8 (ws X8).length c8, e8), (g6, n6, .slice a6 (ws X6).length c6, e6), (u4.heap.size, n4, .slice a4 (ws X4).length c4, e4), (u3.heap.size, n3, .slice a3 (ws X3).length c3, e3), (u2.heap.size, n2, .slice a2 (ws X2).length c2, e2), (u1.heap.size, n1, .slice a1 (ws X1).length c1, e1), (w.heap.size, nA, .slice aA lA cA, eA), (w.heap.size + 1, nB, .slice aB lB cB, eB), (w.heap.size + 1 + 1, nC, .slice aC lC cC, eC)]) ((.slice a (ws X13).length c, X13) :: [(.slice a12 (ws X12).length c12, X12), (.slice a9 (ws X9).length c9, X9), (.slice a8 (ws X8).length c8, X8), (.slice a6 (ws X6).length c6, X6), (.slice a4 (ws X4).length c4, X4), (.slice a3 (ws X3).length c3, X3), (.slice a2 (ws X2).length c2, X2), (.slice a1 (ws X1).length c1, X1)]) wx ∧ Fk wx gF bq13))
        case first =>
          obtain ⟨k10, k11, k12, kf10, kf11, kf12⟩ := ((Stt.getD (g := u1.heap.size) (n := n1) (v := .slice a1 (ws X1).length c1) (e := e1) S12.out.1 (List.mem_cons_of_mem _ (List.mem_cons_of_mem _ (List.mem_cons_of_mem _ (List.mem_cons_of_mem _ (List.mem_cons_of_mem _ (List.mem_cons_of_mem _ (List.mem_cons_of_mem _ List.mem_cons_self))))))))).facts
          obtain ⟨kB0, kB1, kB2, kfB0, kfB1, kfB2⟩ := ((Stt.getD (g := w.heap.size + 1) (n := nB) (v := .slice aB lB cB) (e := eB) S12.out.1 (List.mem_cons_of_mem _ (List.mem_cons_of_mem _ (List.mem_cons_of_mem _ (List.mem_cons_of_mem _ (List.mem_cons_of_mem _ (List.mem_cons_of_mem _ (List.mem_cons_of_mem _ (List.mem_cons_of_mem _ (List.mem_cons_of_mem _ List.mem_cons_self))))))))))).facts
          have hlt1 : u1.heap.size < U12.heap.size := ((Stt.getD (g := u1.heap.size) (n := n1) (v := .slice a1 (ws X1).length c1) (e := e1) S12.out.1 (List.mem_cons_of_mem _ (List.mem_cons_of_mem _ (List.mem_cons_of_mem _ (List.mem_cons_of_mem _ (List.mem_cons_of_mem _ (List.mem_cons_of_mem _ (List.mem_cons_of_mem _ List.mem_cons_self))))))))).lt
          have hltB : w.heap.size + 1 < U12.heap.size := ((Stt.getD (g := w.heap.size + 1) (n := nB) (v := .slice aB lB cB) (e := eB) S12.out.1 (List.mem_cons_of_mem _ (List.mem_cons_of_mem _ (List.mem_cons_of_mem _ (List.mem_cons_of_mem _ (List.mem_cons_of_mem _ (List.mem_cons_of_mem _ (List.mem_cons_of_mem _ (List.mem_cons_of_mem _ (List.mem_cons_of_mem _ List.mem_cons_self))))))))))).lt
          have hm1 : u1.heap.size ≠ U12.heap.size := Nat.ne_of_lt hlt1
          have hmm1 : U12.heap.size ≠ u1.heap.size := fun h => hm1 h.symm
          have hmB : w.heap.size + 1 ≠ U12.heap.size := Nat.ne_of_lt hltB
          have hmmB : U12.heap.size ≠ w.heap.size + 1 := fun h => hmB h.symm
          go_region_held3 (fun w' => w'.cell? ⟨u1.heap.size, 0, none⟩ = some (.bool n1) ∧ w'.cell? ⟨u1.heap.size, 1, none⟩ = some (.slice a1 (ws X1).length c1) ∧ w'.cell? ⟨u1.heap.size, 2, none⟩ = some (.int .i64 e1) ∧ w'.cell? ⟨w.heap.size + 1, 0, none⟩ = some (.bool nB) ∧ w'.cell? ⟨w.heap.size + 1, 1, none⟩ = some (.slice aB lB cB) ∧ w'.cell? ⟨w.heap.size + 1, 2, none⟩ = some (.int .i64 eB)) (go_keep) (first
            | (go_at_call 41
               have HQ := fadd_all n1 nN e1 eN gF bq12 Z40.out.2 n13 X13 e13 er13 l13 (hid fun u' hu' => HO13.out u' a1 c1 aN cN (Z40.out.1.bel.trans (hu'.mono Z40.out.1.bel.size)) (((Stt.getN (v := .slice a1 (ws X1).length c1) (X := X1) Z40.out.1 (List.mem_cons_of_mem _ (List.mem_cons_of_mem _ (List.mem_cons_of_mem _ (List.mem_cons_of_mem _ (List.mem_cons_of_mem _ (List.mem_cons_of_mem _ (List.mem_cons_of_mem _ (List.mem_cons_of_mem _ List.mem_cons_self))))))))).arg' (by omega)).2.below hu') (((Stt.getN (v := .slice aN (ws XN).length cN) (X := XN) Z40.out.1 List.mem_cons_self).arg' (by omega)).2.below hu'))
               have HQ2 := fadd_all n1 nN e1 eN gF bq12 (Fk.below Z40.out.2 ((Below.refl _ _).drew)) n13 X13 e13 er13 l13 (hid fun u' hu' => HO13.out u' a1 c1 aN cN ((Stt.below Z40.out.1 ((Below.refl _ _).drew)).bel.trans (hu'.mono (Stt.below Z40.out.1 ((Below.refl _ _).drew)).bel.size)) (((Stt.getN (v := .slice a1 (ws X1).length c1) (X := X1) (Stt.below Z40.out.1 ((Below.refl _ _).drew)) (List.mem_cons_of_mem _ (List.mem_cons_of_mem _ (List.mem_cons_of_mem _ (List.mem_cons_of_mem _ (List.mem_cons_of_mem _ (List.mem_cons_of_mem _ (List.mem_cons_of_mem _ (List.mem_cons_of_mem _ List.mem_cons_self))))))))).arg' (by omega)).2.below hu') (((Stt.getN (v := .slice aN (ws XN).length cN) (X := XN) (Stt.below Z40.out.1 ((Below.refl _ _).drew)) List.mem_cons_self).arg' (by omega)).2.below hu'))
               first | with_reducible refine (Calls.mono HQ) ?_ | with_reducible refine (Calls.mono HQ2) ?_
               rintro r y41 ⟨⟨v, rfl, hN⟩, hbut, hF⟩
               have hb9 : But gF y40 y41 := by first | exact hbut | exact ((But.refl gF _).drew).trans hbut
               obtain ⟨a13, c13, rfl, _⟩ := hN.arg (by omega)
               have hz9 := hb9.size
               have hN9 : Nt y40.heap.size y41 (.slice a13 (ws X13).length c13) X13 := hN
               have hg9 : gF < y40.heap.size := Z40.out.1.hi
               rw [HB13.out] at hF
               have T9 := (Stt.but Z40.out.1 hb9).addN (hN9.mono (lo' := gF + 1) (by omega))
               have Z41 := (Aside.intro (And.intro T9 hF))
               have hzz : y40.heap.size ≤ y41.heap.size := hz9
               try (have TZn := Aside.intro (TZ40.out.but hb9 (by have := S12.out.1.hi; omega)); clear TZ40; have TZ40 := TZn; clear TZn; obtain ⟨z0, z1, z2, zf0, zf1, zf2⟩ := TZ40.out.facts)
               obtain ⟨m10, m11, m12, mf10, mf11, mf12⟩ := (Stt.getD (g := u1.heap.size) (n := n1) (v := .slice a1 (ws X1).length c1) (e := e1) Z41.out.1 (List.mem_cons_of_mem _ (List.mem_cons_of_mem _ (List.mem_cons_of_mem _ (List.mem_cons_of_mem _ (List.mem_cons_of_mem _ (List.mem_cons_of_mem _ (List.mem_cons_of_mem _ List.mem_cons_self)))))))).facts
               obtain ⟨mB0, mB1, mB2, mfB0, mfB1, mfB2⟩ := (Stt.getD (g := w.heap.size + 1) (n := nB) (v := .slice aB lB cB) (e := eB) Z41.out.1 (List.mem_cons_of_mem _ (List.mem_cons_of_mem _ (List.mem_cons_of_mem _ (List.mem_cons_of_mem _ (List.mem_cons_of_mem _ (List.mem_cons_of_mem _ (List.mem_cons_of_mem _ (List.mem_cons_of_mem _ (List.mem_cons_of_mem _ List.mem_cons_self)))))))))).facts
               have hn11 : u1.heap.size ≠ y41.heap.size := Nat.ne_of_lt ((Stt.getD (g := u1.heap.size) (n := n1) (v := .slice a1 (ws X1).length c1) (e := e1) Z41.out.1 (List.mem_cons_of_mem _ (List.mem_cons_of_mem _ (List.mem_cons_of_mem _ (List.mem_cons_of_mem _ (List.mem_cons_of_mem _ (List.mem_cons_of_mem _ (List.mem_cons_of_mem _ List.mem_cons_self)))))))).lt)
               have hnn11 : y41.heap.size ≠ u1.heap.size := fun h => hn11 h.symm
               have hnB1 : w.heap.size + 1 ≠ y41.heap.size := Nat.ne_of_lt ((Stt.getD (g := w.heap.size + 1) (n := nB) (v := .slice aB lB cB) (e := eB) Z41.out.1 (List.mem_cons_of_mem _ (List.mem_cons_of_mem _ (List.mem_cons_of_mem _ (List.mem_cons_of_mem _ (List.mem_cons_of_mem _ (List.mem_cons_of_mem _ (List.mem_cons_of_mem _ (List.mem_cons_of_mem _ (List.mem_cons_of_mem _ List.mem_cons_self)))))))))).lt)
               have hnnB1 : y41.heap.size ≠ w.heap.size + 1 := fun h => hnB1 h.symm
               clear hN hbut hF hb9 hN9 T9 HQ HQ2 hz9 hg9)
            | (go_at_call 41
               have HQ := fadd_all n1 nN e1 eN gF bq12 (Z40.out.2.below (below_alloc y40 (.cells #[.bool false, .slice none 0 0, .int .i64 0] 38))) n13 X13 e13 er13 l13 (hid fun u' hu' => HO13.out u' a1 c1 aN cN ((Z40.out.1.below (below_alloc y40 (.cells #[.bool false, .slice none 0 0, .int .i64 0] 38))).bel.trans (hu'.mono (Z40.out.1.below (below_alloc y40 (.cells #[.bool false, .slice none 0 0, .int .i64 0] 38))).bel.size)) (((Stt.getN (v := .slice a1 (ws X1).length c1) (X := X1) (Z40.out.1.below (below_alloc y40 (.cells #[.bool false, .slice none 0 0, .int .i64 0] 38))) (List.mem_cons_of_mem _ (List.mem_cons_of_mem _ (List.mem_cons_of_mem _ (List.mem_cons_of_mem _ (List.mem_cons_of_mem _ (List.mem_cons_of_mem _ (List.mem_cons_of_mem _ (List.mem_cons_of_mem _ List.mem_cons_self))))))))).arg' (by omega)).2.below hu') (((Stt.getN (v := .slice aN (ws XN).length cN) (X := XN) (Z40.out.1.below (below_alloc y40 (.cells #[.bool false, .slice none 0 0, .int .i64 0] 38))) List.mem_cons_self).arg' (by omega)).2.below hu'))
               have HQ2 := fadd_all n1 nN e1 eN gF bq12 (Fk.below (Z40.out.2.below (below_alloc y40 (.cells #[.bool false, .slice none 0 0, .int .i64 0] 38))) ((Below.refl _ _).drew)) n13 X13 e13 er13 l13 (hid fun u' hu' => HO13.out u' a1 c1 aN cN ((Stt.below (Z40.out.1.below (below_alloc y40 (.cells #[.bool false, .slice none 0 0, .int .i64 0] 38))) ((Below.refl _ _).drew)).bel.trans (hu'.mono (Stt.below (Z40.out.1.below (below_alloc y40 (.cells #[.bool false, .slice none 0 0, .int .i64 0] 38))) ((Below.refl _ _).drew)).bel.size)) (((Stt.getN (v := .slice a1 (ws X1).length c1) (X := X1) (Stt.below (Z40.out.1.below (below_alloc y40 (.cells #[.bool false, .slice none 0 0, .int .i64 0] 38))) ((Below.refl _ _).drew)) (List.mem_cons_of_mem _ (List.mem_cons_of_mem _ (List.mem_cons_of_mem _ (List.mem_cons_of_mem _ (List.mem_cons_of_mem _ (List.mem_cons_of_mem _ (List.mem_cons_of_mem _ (List.mem_cons_of_mem _ List.mem_cons_self))))))))).arg' (by omega)).2.below hu') (((Stt.getN (v := .slice aN (ws XN).length cN) (X := XN) (Stt.below (Z40.out.1.below (below_alloc y40 (.cells #[.bool false, .slice none 0 0, .int .i64 0] 38))) ((Below.refl _ _).drew)) List.mem_cons_self).arg' (by omega)).2.below hu'))
               first | with_reducible refine (Calls.mono HQ) ?_ | with_reducible refine (Calls.mono HQ2) ?_
               rintro r y41 ⟨⟨v, rfl, hN⟩, hbut, hF⟩
               have hb9 : But gF (y40.alloc (.cells #[.bool false, .slice none 0 0, .int .i64 0] 38)) y41 := by first | exact hbut | exact ((But.refl gF _).drew).trans hbut
               obtain ⟨a13, c13, rfl, _⟩ := hN.arg (by omega)
               have hz9 := hb9.size
               have hN9 : Nt (y40.alloc (.cells #[.bool false, .slice none 0 0, .int .i64 0] 38)).heap.size y41 (.slice a13 (ws X13).length c13) X13 := hN
               have hg9 : gF < (y40.alloc (.cells #[.bool false, .slice none 0 0, .int .i64 0] 38)).heap.size := (Z40.out.1.below (below_alloc y40 (.cells #[.bool false, .slice none 0 0, .int .i64 0] 38))).hi
               rw [HB13.out] at hF
               have T9 := (Stt.but (Z40.out.1.below (below_alloc y40 (.cells #[.bool false, .slice none 0 0, .int .i64 0] 38))) hb9).addN (hN9.mono (lo' := gF + 1) (by omega))
               have Z41 := (Aside.intro (And.intro T9 hF))
               have hzz : y40.heap.size < y41.heap.size := by have : (y40.alloc (.cells #[.bool false, .slice none 0 0, .int .i64 0] 38)).heap.size = y40.heap.size + 1 := (by simp); omega
               have TZ41 := Aside.intro ((Dk.new y40 false (.slice none 0 0) 0).but hb9 (by have := Z40.out.1.hi; omega))
               obtain ⟨z0, z1, z2, zf0, zf1, zf2⟩ := TZ41.out.facts
               obtain ⟨m10, m11, m12, mf10, mf11, mf12⟩ := (Stt.getD (g := u1.heap.size) (n := n1) (v := .slice a1 (ws X1).length c1) (e := e1) Z41.out.1 (List.mem_cons_of_mem _ (List.mem_cons_of_mem _ (List.mem_cons_of_mem _ (List.mem_cons_of_mem _ (List.mem_cons_of_mem _ (List.mem_cons_of_mem _ (List.mem_cons_of_mem _ List.mem_cons_self)))))))).facts
               obtain ⟨mB0, mB1, mB2, mfB0, mfB1, mfB2⟩ := (Stt.getD (g := w.heap.size + 1) (n := nB) (v := .slice aB lB cB) (e := eB) Z41.out.1 (List.mem_cons_of_mem _ (List.mem_cons_of_mem _ (List.mem_cons_of_mem _ (List.mem_cons_of_mem _ (List.mem_cons_of_mem _ (List.mem_cons_of_mem _ (List.mem_cons_of_mem _ (List.mem_cons_of_mem _ (List.mem_cons_of_mem _ List.mem_cons_self)))))))))).facts
               have hn11 : u1.heap.size ≠ y41.heap.size := Nat.ne_of_lt ((Stt.getD (g := u1.heap.size) (n := n1) (v := .slice a1 (ws X1).length c1) (e := e1) Z41.out.1 (List.mem_cons_of_mem _ (List.mem_cons_of_mem _ (List.mem_cons_of_mem _ (List.mem_cons_of_mem _ (List.mem_cons_of_mem _ (List.mem_cons_of_mem _ (List.mem_cons_of_mem _ List.mem_cons_self)))))))).lt)
               have hnn11 : y41.heap.size ≠ u1.heap.size := fun h => hn11 h.symm
               have hnB1 : w.heap.size + 1 ≠ y41.heap.size := Nat.ne_of_lt ((Stt.getD (g := w.heap.size + 1) (n := nB) (v := .slice aB lB cB) (e := eB) Z41.out.1 (List.mem_cons_of_mem _ (List.mem_cons_of_mem _ (List.mem_cons_of_mem _ (List.mem_cons_of_mem _ (List.mem_cons_of_mem _ (List.mem_cons_of_mem _ (List.mem_cons_of_mem _ (List.mem_cons_of_mem _ (List.mem_cons_of_mem _ List.mem_cons_self)))))))))).lt)
               have hnnB1 : y41.heap.size ≠ w.heap.size + 1 := fun h => hnB1 h.symm
               clear hN hbut hF hb9 hN9 T9 HQ HQ2 hz9 hg9)
            | (go_at_call 29
               have HQ := HN.out U12 S12.out.1.bel
               have HQ2 := HN.out U12.drew (Stt.below S12.out.1 ((Below.refl _ _).drew)).bel
               first | with_reducible refine (Calls.mono HQ) ?_ | with_reducible refine (Calls.mono HQ2) ?_
               rintro r y40 ⟨⟨v, rfl, hN⟩, hbut⟩
               have hb8 : Below U12.heap.size U12 y40 := by first | exact hbut | exact ((Below.refl _ _).drew).trans (hbut.mono (Nat.le_refl _))
               have hb9 : But gF U12 y40 := (But.refl gF _).of_below hb8
               have hF := Fk.below S12.out.2 hb8
               obtain ⟨aN, cN, rfl, _⟩ := hN.arg (by omega)
               have hz9 := hb9.size
               have hN9 : Nt U12.heap.size y40 (.slice aN (ws XN).length cN) XN := hN
               have hg9 : gF < U12.heap.size := S12.out.1.hi
               have T9 := (Stt.but S12.out.1 hb9).addN (hN9.mono (lo' := gF + 1) (by omega))
               have Z40 := (Aside.intro (And.intro T9 hF))
               have hzz : U12.heap.size ≤ y40.heap.size := hz9
               obtain ⟨m10, m11, m12, mf10, mf11, mf12⟩ := (Stt.getD (g := u1.heap.size) (n := n1) (v := .slice a1 (ws X1).length c1) (e := e1) Z40.out.1 (List.mem_cons_of_mem _ (List.mem_cons_of_mem _ (List.mem_cons_of_mem _ (List.mem_cons_of_mem _ (List.mem_cons_of_mem _ (List.mem_cons_of_mem _ (List.mem_cons_of_mem _ List.mem_cons_self)))))))).facts
               obtain ⟨mB0, mB1, mB2, mfB0, mfB1, mfB2⟩ := (Stt.getD (g := w.heap.size + 1) (n := nB) (v := .slice aB lB cB) (e := eB) Z40.out.1 (List.mem_cons_of_mem _ (List.mem_cons_of_mem _ (List.mem_cons_of_mem _ (List.mem_cons_of_mem _ (List.mem_cons_of_mem _ (List.mem_cons_of_mem _ (List.mem_cons_of_mem _ (List.mem_cons_of_mem _ (List.mem_cons_of_mem _ List.mem_cons_self)))))))))).facts
               have hn10 : u1.heap.size ≠ y40.heap.size := Nat.ne_of_lt ((Stt.getD (g := u1.heap.size) (n := n1) (v := .slice a1 (ws X1).length c1) (e := e1) Z40.out.1 (List.mem_cons_of_mem _ (List.mem_cons_of_mem _ (List.mem_cons_of_mem _ (List.mem_cons_of_mem _ (List.mem_cons_of_mem _ (List.mem_cons_of_mem _ (List.mem_cons_of_mem _ List.mem_cons_self)))))))).lt)
               have hnn10 : y40.heap.size ≠ u1.heap.size := fun h => hn10 h.symm
               have hnB0 : w.heap.size + 1 ≠ y40.heap.size := Nat.ne_of_lt ((Stt.getD (g := w.heap.size + 1) (n := nB) (v := .slice aB lB cB) (e := eB) Z40.out.1 (List.mem_cons_of_mem _ (List.mem_cons_of_mem _ (List.mem_cons_of_mem _ (List.mem_cons_of_mem _ (List.mem_cons_of_mem _ (List.mem_cons_of_mem _ (List.mem_cons_of_mem _ (List.mem_cons_of_mem _ (List.mem_cons_of_mem _ List.mem_cons_self)))))))))).lt)
               have hnnB0 : y40.heap.size ≠ w.heap.size + 1 := fun h => hnB0 h.symm
               clear hN hbut hF hb9 hN9 T9 HQ HQ2 hz9 hg9 hb8)
            | (go_at_call 29
               have HQ := HN.out (U12.alloc (.cells #[.bool false, .slice none 0 0, .int .i64 0] 38)) (S12.out.1.below (below_alloc U12 (.cells #[.bool false, .slice none 0 0, .int .i64 0] 38))).bel
               have HQ2 := HN.out (U12.alloc (.cells #[.bool false, .slice none 0 0, .int .i64 0] 38)).drew (Stt.below (S12.out.1.below (below_alloc U12 (.cells #[.bool false, .slice none 0 0, .int .i64 0] 38))) ((Below.refl _ _).drew)).bel
               first | with_reducible refine (Calls.mono HQ) ?_ | with_reducible refine (Calls.mono HQ2) ?_
               rintro r y40 ⟨⟨v, rfl, hN⟩, hbut⟩
               have hb8 : Below (U12.alloc (.cells #[.bool false, .slice none 0 0, .int .i64 0] 38)).heap.size (U12.alloc (.cells #[.bool false, .slice none 0 0, .int .i64 0] 38)) y40 := by first | exact hbut | exact ((Below.refl _ _).drew).trans (hbut.mono (Nat.le_refl _))
               have hb9 : But gF (U12.alloc (.cells #[.bool false, .slice none 0 0, .int .i64 0] 38)) y40 := (But.refl gF _).of_below hb8
               have hF := Fk.below (S12.out.2.below (below_alloc U12 (.cells #[.bool false, .slice none 0 0, .int .i64 0] 38))) hb8
               obtain ⟨aN, cN, rfl, _⟩ := hN.arg (by omega)
               have hz9 := hb9.size
               have hN9 : Nt (U12.alloc (.cells #[.bool false, .slice none 0 0, .int .i64 0] 38)).heap.size y40 (.slice aN (ws XN).length cN) XN := hN
               have hg9 : gF < (U12.alloc (.cells #[.bool false, .slice none 0 0, .int .i64 0] 38)).heap.size := (S12.out.1.below (below_alloc U12 (.cells #[.bool false, .slice none 0 0, .int .i64 0] 38))).hi
               have T9 := (Stt.but (S12.out.1.below (below_alloc U12 (.cells #[.bool false, .slice none 0 0, .int .i64 0] 38))) hb9).addN (hN9.mono (lo' := gF + 1) (by omega))
               have Z40 := (Aside.intro (And.intro T9 hF))
               have hzz : U12.heap.size < y40.heap.size := by have : (U12.alloc (.cells #[.bool false, .slice none 0 0, .int .i64 0] 38)).heap.size = U12.heap.size + 1 := (by simp); omega
               have TZ40 := Aside.intro ((Dk.new U12 false (.slice none 0 0) 0).but hb9 (by have := S12.out.1.hi; omega))
               obtain ⟨z0, z1, z2, zf0, zf1, zf2⟩ := TZ40.out.facts
               obtain ⟨m10, m11, m12, mf10, mf11, mf12⟩ := (Stt.getD (g := u1.heap.size) (n := n1) (v := .slice a1 (ws X1).length c1) (e := e1) Z40.out.1 (List.mem_cons_of_mem _ (List.mem_cons_of_mem _ (List.mem_cons_of_mem _ (List.mem_cons_of_mem _ (List.mem_cons_of_mem _ (List.mem_cons_of_mem _ (List.mem_cons_of_mem _ List.mem_cons_self)))))))).facts
               obtain ⟨mB0, mB1, mB2, mfB0, mfB1, mfB2⟩ := (Stt.getD (g := w.heap.size + 1) (n := nB) (v := .slice aB lB cB) (e := eB) Z40.out.1 (List.mem_cons_of_mem _ (List.mem_cons_of_mem _ (List.mem_cons_of_mem _ (List.mem_cons_of_mem _ (List.mem_cons_of_mem _ (List.mem_cons_of_mem _ (List.mem_cons_of_mem _ (List.mem_cons_of_mem _ (List.mem_cons_of_mem _ List.mem_cons_self)))))))))).facts
               have hn10 : u1.heap.size ≠ y40.heap.size := Nat.ne_of_lt ((Stt.getD (g := u1.heap.size) (n := n1) (v := .slice a1 (ws X1).length c1) (e := e1) Z40.out.1 (List.mem_cons_of_mem _ (List.mem_cons_of_mem _ (List.mem_cons_of_mem _ (List.mem_cons_of_mem _ (List.mem_cons_of_mem _ (List.mem_cons_of_mem _ (List.mem_cons_of_mem _ List.mem_cons_self)))))))).lt)
               have hnn10 : y40.heap.size ≠ u1.heap.size := fun h => hn10 h.symm
               have hnB0 : w.heap.size + 1 ≠ y40.heap.size := Nat.ne_of_lt ((Stt.getD (g := w.heap.size + 1) (n := nB) (v := .slice aB lB cB) (e := eB) Z40.out.1 (List.mem_cons_of_mem _ (List.mem_cons_of_mem _ (List.mem_cons_of_mem _ (List.mem_cons_of_mem _ (List.mem_cons_of_mem _ (List.mem_cons_of_mem _ (List.mem_cons_of_mem _ (List.mem_cons_of_mem _ (List.mem_cons_of_mem _ List.mem_cons_self)))))))))).lt)
               have hnnB0 : y40.heap.size ≠ w.heap.size + 1 := fun h => hnB0 h.symm
               clear hN hbut hF hb9 hN9 T9 HQ HQ2 hz9 hg9 hb8))
          all_goals (
            go_wp2_with fail
            go_meet
            case rel =>
              first
                | with_reducible exact ring_new (Stt.pick1 Z41.out.1) Z41.out.2 _ _
                | with_reducible exact ring_set (Stt.pick1 Z41.out.1) Z41.out.2 TZ41.out (by have := Z40.out.1.hi; omega) (Z40.out.1.bel.size) Z40.out.1.ne _ _
                | with_reducible exact ring_set (Stt.pick1 Z41.out.1) Z41.out.2 TZ40.out (by have := S12.out.1.hi; omega) (S12.out.1.bel.size) S12.out.1.ne _ _)
        case rest =>
          obtain ⟨g13, a13, c13, rfl, HC13⟩ := hcut
          obtain ⟨U13, hwU⟩ : ∃ U, U = wc := ⟨_, rfl⟩
          subst hwU
          have S13 := HC13
          have hgl13 : gF < U13.heap.size := S13.out.1.hi
          clear HC13
          go_upto_region 14 with fail
          obtain ⟨kA0, kA1, kA2, kfA0, kfA1, kfA2⟩ := ((Stt.getD (g := w.heap.size) (n := nA) (v := .slice aA lA cA) (e := eA) S13.out.1 (List.mem_cons_of_mem _ (List.mem_cons_of_mem _ (List.mem_cons_of_mem _ (List.mem_cons_of_mem _ (List.mem_cons_of_mem _ (List.mem_cons_of_mem _ (List.mem_cons_of_mem _ (List.mem_cons_of_mem _ (List.mem_cons_of_mem _ List.mem_cons_self))))))))))).facts
          have H := hid (HMk.out U13 S13.out.1.bel)
          go_wp2_with fail
          clear kA0 kA1 kA2 kfA0 kfA1 kfA2
          refine (Calls.mono H.out) ?_
          rintro r u14 ⟨⟨v, rfl, hN⟩, hb⟩
          obtain ⟨a14, c14, rfl, _⟩ := hN.arg (by omega)
          have hs14 := hb.size
          obtain ⟨U14, hU14⟩ : ∃ U, U = u14.alloc (.cells #[.bool n14, .slice a14 (ws X14).length c14, .int .i64 e14] 38) := ⟨_, rfl⟩
          have hA : Below u14.heap.size u14 U14 := by rw [hU14]; exact below_alloc _ _
          have DN : Dk U14 u14.heap.size n14 (.slice a14 (ws X14).length c14) e14 := by rw [hU14]; exact Dk.new _ _ _ _
          have T0 := ((S13.out.1.below hb).below hA).addN ((hN.mono (lo' := gF + 1) (by omega)).below hA)
          have T1 := T0.addD DN (by omega)
          have F1 := (S13.out.2.below hb).below hA
          have hgl14 : gF < U14.heap.size := T1.hi
          have S14 := (Aside.intro (And.intro T1 F1))
          clear hN hb H hA DN T0 T1 F1 S13
          go_upto_region 15 with fail
          rw [← hU14]
          clear hU14
          obtain ⟨f0, ff0⟩ := S14.out.2.facts
          have FB := S14.out.1.bel
          have FB2 := Aside.intro FB
          clear FB
          by_cases hbq : bq13 = true
          · rw [hbq] at f0
            go_wp2
            go_ret
            exact ⟨rfl, FB2.out⟩
          · have hbf : bq13 = false := by simpa using hbq
            rw [hbf] at f0
            by_cases he : er14 = 0
            · subst he
              have q13 := or_no (HB13.out.trans hbf)
              have q12 := or_no (HB12.out.trans q13.1)
              have q11 := or_no (HB11.out.trans q12.1)
              have q10 := or_no (HB10.out.trans q11.1)
              have q9 := or_no (HB9.out.trans q10.1)
              have q8 := or_no (HB8.out.trans q9.1)
              have q7 := or_no (HB7.out.trans q8.1)
              have q6 := or_no (HB6.out.trans q7.1)
              have q5 := or_no (HB5.out.trans q6.1)
              have q4 := or_no (HB4.out.trans q5.1)
              have q3 := or_no (HB3.out.trans q4.1)
              have q2 := or_no (HB2.out.trans q3.1)
              have q1 := or_no (HB1.out.trans q2.1)
              obtain ⟨⟨h1, h2, h3⟩, ⟨h4, h5, h6⟩, ⟨h7, h8, h9⟩, ⟨h10, h11, h12⟩, hsc⟩ := HE.out (bne_no q1.2) (bne_no q2.2) (bne_no q3.2) (bne_no q4.2) (bne_no q5.2) (bne_no q6.2) (bne_no q7.2) (bne_no q8.2) (bne_no q9.2) (bne_no q11.2) (bne_no q12.2) (bne_no q13.2) rfl
              clear q1 q2 q3 q4 q5 q6 q7 q8 q9 q10 q11 q12 q13
              subst h1
              subst h2
              subst h3
              subst h4
              subst h5
              subst h6
              subst h7
              subst h8
              subst h9
              subst h10
              subst h11
              subst h12
              have HSC := Aside.intro hsc
              clear hsc HE
              go_upto_region 17 with fail
              clear f0 ff0
              obtain ⟨kA0, kA1, kA2, kfA0, kfA1, kfA2⟩ := ((Stt.getD (g := w.heap.size) (n := nA) (v := .slice aA lA cA) (e := eA) S14.out.1 (List.mem_cons_of_mem _ (List.mem_cons_of_mem _ (List.mem_cons_of_mem _ (List.mem_cons_of_mem _ (List.mem_cons_of_mem _ (List.mem_cons_of_mem _ (List.mem_cons_of_mem _ (List.mem_cons_of_mem _ (List.mem_cons_of_mem _ (List.mem_cons_of_mem _ List.mem_cons_self)))))))))))).facts
              obtain ⟨kB0, kB1, kB2, kfB0, kfB1, kfB2⟩ := ((Stt.getD (g := w.heap.size + 1) (n := nB) (v := .slice aB lB cB) (e := eB) S14.out.1 (List.mem_cons_of_mem _ (List.mem_cons_of_mem _ (List.mem_cons_of_mem _ (List.mem_cons_of_mem _ (List.mem_cons_of_mem _ (List.mem_cons_of_mem _ (List.mem_cons_of_mem _ (List.mem_cons_of_mem _ (List.mem_cons_of_mem _ (List.mem_cons_of_mem _ (List.mem_cons_of_mem _ List.mem_cons_self))))))))))))).facts
              have H := hid (HSb.out U14 S14.out.1.bel)
              go_wp2_with fail
              clear kA0 kA1 kA2 kfA0 kfA1 kfA2 kB0 kB1 kB2 kfB0 kfB1 kfB2
              refine (Calls.mono H.out) ?_
              rintro r u15 ⟨⟨v, rfl, hN⟩, hb⟩
              obtain ⟨a15, c15, rfl, _⟩ := hN.arg (by omega)
              have hs15 := hb.size
              obtain ⟨U15, hU15⟩ : ∃ U, U = u15.alloc (.cells #[.bool n15, .slice a15 (ws X15).length c15, .int .i64 e15] 38) := ⟨_, rfl⟩
              have hA : Below u15.heap.size u15 U15 := by rw [hU15]; exact below_alloc _ _
              have DN : Dk U15 u15.heap.size n15 (.slice a15 (ws X15).length c15) e15 := by rw [hU15]; exact Dk.new _ _ _ _
              have T0 := ((S14.out.1.below hb).below hA).addN ((hN.mono (lo' := gF + 1) (by omega)).below hA)
              have T1 := T0.addD DN (by omega)
              have F1 := (S14.out.2.below hb).below hA
              have S15 := (Aside.intro (And.intro T1 F1))
              clear hN hb H hA DN T0 T1 F1 S14
              go_upto_region 18 with fail
              rw [← hU15]
              clear hU15
              obtain ⟨kA0, kA1, kA2, kfA0, kfA1, kfA2⟩ := ((Stt.getD (g := w.heap.size) (n := nA) (v := .slice aA lA cA) (e := eA) S15.out.1 (List.mem_cons_of_mem _ (List.mem_cons_of_mem _ (List.mem_cons_of_mem _ (List.mem_cons_of_mem _ (List.mem_cons_of_mem _ (List.mem_cons_of_mem _ (List.mem_cons_of_mem _ (List.mem_cons_of_mem _ (List.mem_cons_of_mem _ (List.mem_cons_of_mem _ (List.mem_cons_of_mem _ List.mem_cons_self))))))))))))).facts
              obtain ⟨kB0, kB1, kB2, kfB0, kfB1, kfB2⟩ := ((Stt.getD (g := w.heap.size + 1) (n := nB) (v := .slice aB lB cB) (e := eB) S15.out.1 (List.mem_cons_of_mem _ (List.mem_cons_of_mem _ (List.mem_cons_of_mem _ (List.mem_cons_of_mem _ (List.mem_cons_of_mem _ (List.mem_cons_of_mem _ (List.mem_cons_of_mem _ (List.mem_cons_of_mem _ (List.mem_cons_of_mem _ (List.mem_cons_of_mem _ (List.mem_cons_of_mem _ (List.mem_cons_of_mem _ List.mem_cons_self)))))))))))))).facts
              obtain ⟨k150, k151, k152, kf150, kf151, kf152⟩ := ((Stt.getD (g := u15.heap.size) (n := n15) (v := .slice a15 (ws X15).length c15) (e := e15) S15.out.1 List.mem_cons_self)).facts
              by_cases he2 : er15 = 0
              · have hsv := HSC.out he2
                subst he2
                subst hsv
                have G1 := hid (HSg.out U15 a15 c15 S15.out.1.bel ((Stt.getN (v := .slice a15 (ws X15).length c15) (X := X15) S15.out.1 List.mem_cons_self).arg' (by omega)).2)
                have G1' := hid (HSg.out U15.drew a15 c15 S15.out.1.bel.drew (Arg.drew' ((Stt.getN (v := .slice a15 (ws X15).length c15) (X := X15) S15.out.1 List.mem_cons_self).arg' (by omega)).2))
                go_region_held3 (fun w' => w'.cell? ⟨w.heap.size, 0, none⟩ = some (.bool nA) ∧ w'.cell? ⟨w.heap.size, 1, none⟩ = some (.slice aA lA cA) ∧ w'.cell? ⟨w.heap.size, 2, none⟩ = some (.int .i64 eA) ∧ w'.cell? ⟨w.heap.size + 1, 0, none⟩ = some (.bool nB) ∧ w'.cell? ⟨w.heap.size + 1, 1, none⟩ = some (.slice aB lB cB) ∧ w'.cell? ⟨w.heap.size + 1, 2, none⟩ = some (.int .i64 eB) ∧ w'.cell? ⟨u15.heap.size, 0, none⟩ = some (.bool n15) ∧ w'.cell? ⟨u15.heap.size, 1, none⟩ = some (.slice a15 (ws X15).length c15) ∧ w'.cell? ⟨u15.heap.size, 2, none⟩ = some (.int .i64 e15)) (go_keep) (first
                  | (go_at_call 30
                     with_reducible refine G2.out.mono ?_
                     rintro r u17 ⟨rfl, hb⟩
                     have T9 := S16.out.below hb
                     have S17 := Aside.intro T9
                     obtain ⟨oA0, oA1, oA2, ofA0, ofA1, ofA2⟩ := (Stt.getD (g := w.heap.size) (n := nA) (v := .slice aA lA cA) (e := eA) S17.out (List.mem_cons_of_mem _ (List.mem_cons_of_mem _ (List.mem_cons_of_mem _ (List.mem_cons_of_mem _ (List.mem_cons_of_mem _ (List.mem_cons_of_mem _ (List.mem_cons_of_mem _ (List.mem_cons_of_mem _ (List.mem_cons_of_mem _ (List.mem_cons_of_mem _ (List.mem_cons_of_mem _ List.mem_cons_self)))))))))))).facts
                     obtain ⟨oB0, oB1, oB2, ofB0, ofB1, ofB2⟩ := (Stt.getD (g := w.heap.size + 1) (n := nB) (v := .slice aB lB cB) (e := eB) S17.out (List.mem_cons_of_mem _ (List.mem_cons_of_mem _ (List.mem_cons_of_mem _ (List.mem_cons_of_mem _ (List.mem_cons_of_mem _ (List.mem_cons_of_mem _ (List.mem_cons_of_mem _ (List.mem_cons_of_mem _ (List.mem_cons_of_mem _ (List.mem_cons_of_mem _ (List.mem_cons_of_mem _ (List.mem_cons_of_mem _ List.mem_cons_self))))))))))))).facts
                     obtain ⟨o150, o151, o152, of150, of151, of152⟩ := (Stt.getD (g := u15.heap.size) (n := n15) (v := .slice a15 (ws X15).length c15) (e := e15) S17.out List.mem_cons_self).facts
                     clear hb T9)
                  | (go_at_call 31
                     first | with_reducible refine G1.out.mono ?_ | with_reducible refine G1'.out.mono ?_
                     rintro r u16 ⟨rfl, hb⟩
                     have hb9 : Below U15.heap.size U15 u16 := by first | exact hb | exact ((Below.refl _ U15).drew).trans (hb.mono (Nat.le_refl _))
                     have T9 := S15.out.1.below hb9
                     have S16 := Aside.intro T9
                     have G2 := hid (HCm.out u16 T9.bel)
                     obtain ⟨mA0, mA1, mA2, mfA0, mfA1, mfA2⟩ := (Stt.getD (g := w.heap.size) (n := nA) (v := .slice aA lA cA) (e := eA) S16.out (List.mem_cons_of_mem _ (List.mem_cons_of_mem _ (List.mem_cons_of_mem _ (List.mem_cons_of_mem _ (List.mem_cons_of_mem _ (List.mem_cons_of_mem _ (List.mem_cons_of_mem _ (List.mem_cons_of_mem _ (List.mem_cons_of_mem _ (List.mem_cons_of_mem _ (List.mem_cons_of_mem _ List.mem_cons_self)))))))))))).facts
                     obtain ⟨mB0, mB1, mB2, mfB0, mfB1, mfB2⟩ := (Stt.getD (g := w.heap.size + 1) (n := nB) (v := .slice aB lB cB) (e := eB) S16.out (List.mem_cons_of_mem _ (List.mem_cons_of_mem _ (List.mem_cons_of_mem _ (List.mem_cons_of_mem _ (List.mem_cons_of_mem _ (List.mem_cons_of_mem _ (List.mem_cons_of_mem _ (List.mem_cons_of_mem _ (List.mem_cons_of_mem _ (List.mem_cons_of_mem _ (List.mem_cons_of_mem _ (List.mem_cons_of_mem _ List.mem_cons_self))))))))))))).facts
                     obtain ⟨m150, m151, m152, mf150, mf151, mf152⟩ := (Stt.getD (g := u15.heap.size) (n := n15) (v := .slice a15 (ws X15).length c15) (e := e15) S16.out List.mem_cons_self).facts
                     clear hb hb9 T9))
                all_goals (
                  obtain ⟨k30, k31, k32, kf30, kf31, kf32⟩ := (Stt.getD (g := u3.heap.size) (n := n3) (v := .slice a3 (ws X3).length c3) (e := e3) S17.out (List.mem_cons_of_mem _ (List.mem_cons_of_mem _ (List.mem_cons_of_mem _ (List.mem_cons_of_mem _ (List.mem_cons_of_mem _ (List.mem_cons_of_mem _ (List.mem_cons_of_mem _ (List.mem_cons_of_mem _ List.mem_cons_self))))))))).facts
                  obtain ⟨k40, k41, k42, kf40, kf41, kf42⟩ := (Stt.getD (g := u4.heap.size) (n := n3) (v := .slice a4 (ws X3).length c4) (e := e3) S17.out (List.mem_cons_of_mem _ (List.mem_cons_of_mem _ (List.mem_cons_of_mem _ (List.mem_cons_of_mem _ (List.mem_cons_of_mem _ (List.mem_cons_of_mem _ (List.mem_cons_of_mem _ List.mem_cons_self)))))))).facts
                  have H := hid (rSame3_any n3 e3 (ws X3) a3 a4 (ws X3).length c3 c4 u17 rfl (by omega) ((Stt.getN (v := .slice a3 (ws X3).length c3) (X := X3) S17.out (List.mem_cons_of_mem _ (List.mem_cons_of_mem _ (List.mem_cons_of_mem _ (List.mem_cons_of_mem _ (List.mem_cons_of_mem _ (List.mem_cons_of_mem _ (List.mem_cons_of_mem _ (List.mem_cons_of_mem _ List.mem_cons_self))))))))).arg' (by omega)).2.rd ((Stt.getN (v := .slice a4 (ws X3).length c4) (X := X3) S17.out (List.mem_cons_of_mem _ (List.mem_cons_of_mem _ (List.mem_cons_of_mem _ (List.mem_cons_of_mem _ (List.mem_cons_of_mem _ (List.mem_cons_of_mem _ (List.mem_cons_of_mem _ List.mem_cons_self)))))))).arg' (by omega)).2.rd)
                  go_wp2_with fail
                  clear k30 k31 k32 kf30 kf31 kf32 k40 k41 k42 kf40 kf41 kf42
                  refine (Calls.mono H.out) ?_
                  rintro r q0 ⟨rfl, hb⟩
                  have R0 := Aside.intro (S17.out.below hb)
                  clear hb H
                  obtain ⟨k60, k61, k62, kf60, kf61, kf62⟩ := (Stt.getD (g := g6) (n := n6) (v := .slice a6 (ws X6).length c6) (e := e6) R0.out (List.mem_cons_of_mem _ (List.mem_cons_of_mem _ (List.mem_cons_of_mem _ (List.mem_cons_of_mem _ (List.mem_cons_of_mem _ (List.mem_cons_of_mem _ List.mem_cons_self))))))).facts
                  obtain ⟨k80, k81, k82, kf80, kf81, kf82⟩ := (Stt.getD (g := g8) (n := n6) (v := .slice a8 (ws X6).length c8) (e := e6) R0.out (List.mem_cons_of_mem _ (List.mem_cons_of_mem _ (List.mem_cons_of_mem _ (List.mem_cons_of_mem _ (List.mem_cons_of_mem _ List.mem_cons_self)))))).facts
                  have H := hid (rSame3_any n6 e6 (ws X6) a6 a8 (ws X6).length c6 c8 q0 rfl (by omega) ((Stt.getN (v := .slice a6 (ws X6).length c6) (X := X6) R0.out (List.mem_cons_of_mem _ (List.mem_cons_of_mem _ (List.mem_cons_of_mem _ (List.mem_cons_of_mem _ (List.mem_cons_of_mem _ (List.mem_cons_of_mem _ List.mem_cons_self))))))).arg' (by omega)).2.rd ((Stt.getN (v := .slice a8 (ws X6).length c8) (X := X6) R0.out (List.mem_cons_of_mem _ (List.mem_cons_of_mem _ (List.mem_cons_of_mem _ (List.mem_cons_of_mem _ (List.mem_cons_of_mem _ List.mem_cons_self)))))).arg' (by omega)).2.rd)
                  go_wp2_with fail
                  clear k60 k61 k62 kf60 kf61 kf62 k80 k81 k82 kf80 kf81 kf82
                  refine (Calls.mono H.out) ?_
                  rintro r q1 ⟨rfl, hb⟩
                  have R1 := Aside.intro (R0.out.below hb)
                  clear hb H
                  obtain ⟨k90, k91, k92, kf90, kf91, kf92⟩ := (Stt.getD (g := u9.heap.size) (n := n9) (v := .slice a9 (ws X9).length c9) (e := e9) R1.out (List.mem_cons_of_mem _ (List.mem_cons_of_mem _ (List.mem_cons_of_mem _ (List.mem_cons_of_mem _ List.mem_cons_self))))).facts
                  obtain ⟨k120, k121, k122, kf120, kf121, kf122⟩ := (Stt.getD (g := g12) (n := n9) (v := .slice a12 (ws X9).length c12) (e := e9) R1.out (List.mem_cons_of_mem _ (List.mem_cons_of_mem _ (List.mem_cons_of_mem _ List.mem_cons_self)))).facts
                  have H := hid (rSame3_any n9 e9 (ws X9) a9 a12 (ws X9).length c9 c12 q1 rfl (by omega) ((Stt.getN (v := .slice a9 (ws X9).length c9) (X := X9) R1.out (List.mem_cons_of_mem _ (List.mem_cons_of_mem _ (List.mem_cons_of_mem _ (List.mem_cons_of_mem _ List.mem_cons_self))))).arg' (by omega)).2.rd ((Stt.getN (v := .slice a12 (ws X9).length c12) (X := X9) R1.out (List.mem_cons_of_mem _ (List.mem_cons_of_mem _ (List.mem_cons_of_mem _ List.mem_cons_self)))).arg' (by omega)).2.rd)
                  go_wp2_with fail
                  clear k90 k91 k92 kf90 kf91 kf92 k120 k121 k122 kf120 kf121 kf122
                  refine (Calls.mono H.out) ?_
                  rintro r q2 ⟨rfl, hb⟩
                  have R2 := Aside.intro (R1.out.below hb)
                  clear hb H
                  obtain ⟨k130, k131, k132, kf130, kf131, kf132⟩ := (Stt.getD (g := g13) (n := n13) (v := .slice a13 (ws X13).length c13) (e := e13) R2.out (List.mem_cons_of_mem _ (List.mem_cons_of_mem _ List.mem_cons_self))).facts
                  obtain ⟨k140, k141, k142, kf140, kf141, kf142⟩ := (Stt.getD (g := u14.heap.size) (n := n13) (v := .slice a14 (ws X13).length c14) (e := e13) R2.out (List.mem_cons_of_mem _ List.mem_cons_self)).facts
                  have H := hid (rSame3_any n13 e13 (ws X13) a13 a14 (ws X13).length c13 c14 q2 rfl (by omega) ((Stt.getN (v := .slice a13 (ws X13).length c13) (X := X13) R2.out (List.mem_cons_of_mem _ (List.mem_cons_of_mem _ List.mem_cons_self))).arg' (by omega)).2.rd ((Stt.getN (v := .slice a14 (ws X13).length c14) (X := X13) R2.out (List.mem_cons_of_mem _ List.mem_cons_self)).arg' (by omega)).2.rd)
                  go_wp2_with fail
                  clear k130 k131 k132 kf130 kf131 kf132 k140 k141 k142 kf140 kf141 kf142
                  refine (Calls.mono H.out) ?_
                  rintro r q3 ⟨rfl, hb⟩
                  have R3 := Aside.intro (R2.out.below hb)
                  clear hb H
                  go_wp2
                  go_ret
                  exact ⟨rfl, R3.out.bel⟩)
              · have he3 : (er15 == 0) = false := by simpa using he2
                go_quiet (fail)
                generalize hV15 : World.drewN U15 _ = V15
                have BV : Below U15.heap.size U15 V15 := by rw [← hV15]; exact Below.drewN' (Below.refl _ _) _
                have T9 := S15.out.1.below BV
                have S17 := Aside.intro T9
                clear T9 hV15 BV
                obtain ⟨k30, k31, k32, kf30, kf31, kf32⟩ := (Stt.getD (g := u3.heap.size) (n := n3) (v := .slice a3 (ws X3).length c3) (e := e3) S17.out (List.mem_cons_of_mem _ (List.mem_cons_of_mem _ (List.mem_cons_of_mem _ (List.mem_cons_of_mem _ (List.mem_cons_of_mem _ (List.mem_cons_of_mem _ (List.mem_cons_of_mem _ (List.mem_cons_of_mem _ List.mem_cons_self))))))))).facts
                obtain ⟨k40, k41, k42, kf40, kf41, kf42⟩ := (Stt.getD (g := u4.heap.size) (n := n3) (v := .slice a4 (ws X3).length c4) (e := e3) S17.out (List.mem_cons_of_mem _ (List.mem_cons_of_mem _ (List.mem_cons_of_mem _ (List.mem_cons_of_mem _ (List.mem_cons_of_mem _ (List.mem_cons_of_mem _ (List.mem_cons_of_mem _ List.mem_cons_self)))))))).facts
                have H := hid (rSame3_any n3 e3 (ws X3) a3 a4 (ws X3).length c3 c4 V15 rfl (by omega) ((Stt.getN (v := .slice a3 (ws X3).length c3) (X := X3) S17.out (List.mem_cons_of_mem _ (List.mem_cons_of_mem _ (List.mem_cons_of_mem _ (List.mem_cons_of_mem _ (List.mem_cons_of_mem _ (List.mem_cons_of_mem _ (List.mem_cons_of_mem _ (List.mem_cons_of_mem _ List.mem_cons_self))))))))).arg' (by omega)).2.rd ((Stt.getN (v := .slice a4 (ws X3).length c4) (X := X3) S17.out (List.mem_cons_of_mem _ (List.mem_cons_of_mem _ (List.mem_cons_of_mem _ (List.mem_cons_of_mem _ (List.mem_cons_of_mem _ (List.mem_cons_of_mem _ (List.mem_cons_of_mem _ List.mem_cons_self)))))))).arg' (by omega)).2.rd)
                go_wp2_with fail
                clear k30 k31 k32 kf30 kf31 kf32 k40 k41 k42 kf40 kf41 kf42
                refine (Calls.mono H.out) ?_
                rintro r q0 ⟨rfl, hb⟩
                have R0 := Aside.intro (S17.out.below hb)
                clear hb H
                obtain ⟨k60, k61, k62, kf60, kf61, kf62⟩ := (Stt.getD (g := g6) (n := n6) (v := .slice a6 (ws X6).length c6) (e := e6) R0.out (List.mem_cons_of_mem _ (List.mem_cons_of_mem _ (List.mem_cons_of_mem _ (List.mem_cons_of_mem _ (List.mem_cons_of_mem _ (List.mem_cons_of_mem _ List.mem_cons_self))))))).facts
                obtain ⟨k80, k81, k82, kf80, kf81, kf82⟩ := (Stt.getD (g := g8) (n := n6) (v := .slice a8 (ws X6).length c8) (e := e6) R0.out (List.mem_cons_of_mem _ (List.mem_cons_of_mem _ (List.mem_cons_of_mem _ (List.mem_cons_of_mem _ (List.mem_cons_of_mem _ List.mem_cons_self)))))).facts
                have H := hid (rSame3_any n6 e6 (ws X6) a6 a8 (ws X6).length c6 c8 q0 rfl (by omega) ((Stt.getN (v := .slice a6 (ws X6).length c6) (X := X6) R0.out (List.mem_cons_of_mem _ (List.mem_cons_of_mem _ (List.mem_cons_of_mem _ (List.mem_cons_of_mem _ (List.mem_cons_of_mem _ (List.mem_cons_of_mem _ List.mem_cons_self))))))).arg' (by omega)).2.rd ((Stt.getN (v := .slice a8 (ws X6).length c8) (X := X6) R0.out (List.mem_cons_of_mem _ (List.mem_cons_of_mem _ (List.mem_cons_of_mem _ (List.mem_cons_of_mem _ (List.mem_cons_of_mem _ List.mem_cons_self)))))).arg' (by omega)).2.rd)
                go_wp2_with fail
                clear k60 k61 k62 kf60 kf61 kf62 k80 k81 k82 kf80 kf81 kf82
                refine (Calls.mono H.out) ?_
                rintro r q1 ⟨rfl, hb⟩
                have R1 := Aside.intro (R0.out.below hb)
                clear hb H
                obtain ⟨k90, k91, k92, kf90, kf91, kf92⟩ := (Stt.getD (g := u9.heap.size) (n := n9) (v := .slice a9 (ws X9).length c9) (e := e9) R1.out (List.mem_cons_of_mem _ (List.mem_cons_of_mem _ (List.mem_cons_of_mem _ (List.mem_cons_of_mem _ List.mem_cons_self))))).facts
                obtain ⟨k120, k121, k122, kf120, kf121, kf122⟩ := (Stt.getD (g := g12) (n := n9) (v := .slice a12 (ws X9).length c12) (e := e9) R1.out (List.mem_cons_of_mem _ (List.mem_cons_of_mem _ (List.mem_cons_of_mem _ List.mem_cons_self)))).facts
                have H := hid (rSame3_any n9 e9 (ws X9) a9 a12 (ws X9).length c9 c12 q1 rfl (by omega) ((Stt.getN (v := .slice a9 (ws X9).length c9) (X := X9) R1.out (List.mem_cons_of_mem _ (List.mem_cons_of_mem _ (List.mem_cons_of_mem _ (List.mem_cons_of_mem _ List.mem_cons_self))))).arg' (by omega)).2.rd ((Stt.getN (v := .slice a12 (ws X9).length c12) (X := X9) R1.out (List.mem_cons_of_mem _ (List.mem_cons_of_mem _ (List.mem_cons_of_mem _ List.mem_cons_self)))).arg' (by omega)).2.rd)
                go_wp2_with fail
                clear k90 k91 k92 kf90 kf91 kf92 k120 k121 k122 kf120 kf121 kf122
                refine (Calls.mono H.out) ?_
                rintro r q2 ⟨rfl, hb⟩
                have R2 := Aside.intro (R1.out.below hb)
                clear hb H
                obtain ⟨k130, k131, k132, kf130, kf131, kf132⟩ := (Stt.getD (g := g13) (n := n13) (v := .slice a13 (ws X13).length c13) (e := e13) R2.out (List.mem_cons_of_mem _ (List.mem_cons_of_mem _ List.mem_cons_self))).facts
                obtain ⟨k140, k141, k142, kf140, kf141, kf142⟩ := (Stt.getD (g := u14.heap.size) (n := n13) (v := .slice a14 (ws X13).length c14) (e := e13) R2.out (List.mem_cons_of_mem _ List.mem_cons_self)).facts
                have H := hid (rSame3_any n13 e13 (ws X13) a13 a14 (ws X13).length c13 c14 q2 rfl (by omega) ((Stt.getN (v := .slice a13 (ws X13).length c13) (X := X13) R2.out (List.mem_cons_of_mem _ (List.mem_cons_of_mem _ List.mem_cons_self))).arg' (by omega)).2.rd ((Stt.getN (v := .slice a14 (ws X13).length c14) (X := X13) R2.out (List.mem_cons_of_mem _ List.mem_cons_self)).arg' (by omega)).2.rd)
                go_wp2_with fail
                clear k130 k131 k132 kf130 kf131 kf132 k140 k141 k142 kf140 kf141 kf142
                refine (Calls.mono H.out) ?_
                rintro r q3 ⟨rfl, hb⟩
                have R3 := Aside.intro (R2.out.below hb)
                clear hb H
                go_wp2
                go_ret
                exact ⟨rfl, R3.out.bel⟩
            · have he3 : (er14 == 0) = false := by simpa using he
              go_wp2
              go_ret
              exact ⟨rfl, FB2.out⟩
end Go.Proofs.YtonhahbmdekkdaaDoor
