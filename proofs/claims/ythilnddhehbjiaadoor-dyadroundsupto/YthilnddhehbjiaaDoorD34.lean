/- The document's Lent, AsLent of Dyads. -/
import Derived.Test.YthilnddhehbjiaaDoorD28
import Derived.Test.YthilnddhehbjiaaDoorW39x
import Derived.Deep.RegionHeld3
namespace Go.Proofs.YthilnddhehbjiaaDoor
open Go.RowKit
set_option linter.unusedVariables false
set_option maxRecDepth 20000
set_option linter.unusedSimpArgs false

theorem Own.st3 {w : World} {g : Nat} {L : List Nat} (h : Own w g L) (k : Nat) (hk : k ≠ g) (x y z : Value) : Own (((w.setCell ⟨k, 0, none⟩ x).setCell ⟨k, 1, none⟩ y).setCell ⟨k, 2, none⟩ z) g L :=
  ((h.setOther hk _).setOther hk _).setOther hk _

set_option maxHeartbeats 4000000 in
theorem rLent3_any {w : World} {a : Option Addr} {n c : Nat} {xs : List Nat} (h1 : Arg w a n c xs) (hn : n ≤ 35184372087808) (ng : Bool) (e : Int) :
    Calls Tryd.prog 27 #[.agg #[.bool ng, .slice a n c, .int .i64 e]] w fun r w' => ∃ g, r = .returned (.agg #[.bool ng, .slice (some ⟨g, 0, none⟩) n (n + 2), .int .i64 e]) ∧ w.heap.size ≤ g ∧ Own w' g (xs ++ [71, 72]) ∧ Below w.heap.size w w' := by
  obtain ⟨W1, hW1⟩ : ∃ W, W = (w.alloc (.cells #[.bool ng, .slice a n c, .int .i64 e] 39)).alloc (.cells #[.bool false, .slice none 0 0, .int .i64 0] 39) := ⟨_, rfl⟩
  have hB : Below w.heap.size w W1 := by rw [hW1]; exact (below_alloc w _).alloc (by simp) _
  have hz : W1.heap.size = w.heap.size + 2 := by rw [hW1]; simp
  have DA : Dk W1 w.heap.size ng (.slice a n c) e := by rw [hW1]; exact (Dk.new w ng (.slice a n c) e).alloc _
  have DR : Dk W1 (w.heap.size + 1) false (.slice none 0 0) 0 := by
    rw [hW1]
    have := Dk.new (w.alloc (.cells #[.bool ng, .slice a n c, .int .i64 e] 39)) false (.slice none 0 0) 0
    simpa using this
  have A1 := h1.below hB
  have T1 := hid (lent_any xs a n c W1.heap.size W1 A1.len A1.cap hn A1.rd (Nat.le_refl _))
  have T2 := hid (lent_any xs a n c W1.heap.size W1.drew A1.len A1.cap hn A1.drew'.rd (Nat.le_refl _))
  obtain ⟨x0, x1, x2, xf0, xf1, xf2⟩ := DA.facts
  obtain ⟨r0, r1, r2, rf0, rf1, rf2⟩ := DR.facts
  have hs1 : w.heap.size + 1 < W1.heap.size := by omega
  have SB := (Aside.intro (And.intro hB (And.intro DA DR)))
  clear hB hz DA DR A1 h1
  go_enter Tryd.func27, Tryd.ntmps27
  go_wp2_with fail
  rw [← hW1]
  clear hW1
  have ne1 : w.heap.size ≠ w.heap.size + 1 := by omega
  go_region_held3 (fun w' => w'.cell? ⟨w.heap.size, 0, none⟩ = some (.bool ng) ∧ w'.cell? ⟨w.heap.size, 1, none⟩ = some (.slice a n c) ∧ w'.cell? ⟨w.heap.size, 2, none⟩ = some (.int .i64 e)) (go_keep) (first
    | (go_at_call 10
       first | with_reducible refine T1.out.mono ?_ | with_reducible refine T2.out.mono ?_
       rintro r u1 ⟨rfl, hO, hb⟩
       have hO1 : Own u1 W1.heap.size (xs ++ [71, 72]) := hO
       have hb1 : Below W1.heap.size W1 u1 := by first | exact hb | exact ((Below.refl _ W1).drew).trans (hb.mono (Nat.le_refl _))
       have hs2 : W1.heap.size ≤ u1.heap.size := hb1.size
       have KR := SB.out.2.2.below hb1
       obtain ⟨p0, p1, p2, pf0, pf1, pf2⟩ := KR.facts
       obtain ⟨q0, q1, q2, qf0, qf1, qf2⟩ := (SB.out.2.1.below hb1).facts
       have S1 := (Aside.intro (And.intro hO1 (And.intro (SB.out.1.trans (hb1.mono (by omega))) KR)))
       clear hO hb hO1 hb1 KR))
  all_goals (
    go_wp2
    refine bodyPost_ret (v := .agg #[.bool ng, .slice (some ⟨W1.heap.size, 0, none⟩) n (n + 2), .int .i64 e]) (by simp [results, Tryd.results27, go_sem, p0, p1, p2, hs1]) rfl ⟨W1.heap.size, rfl, by omega, ?_, ?_⟩
    · exact S1.out.1.st3 _ (by omega) _ _ _
    · exact Below.setC (Below.setC (Below.setC S1.out.2.1 _ _ _ (by omega) (by omega)) _ _ _ (by omega) (by simp [World.setCell]; omega)) _ _ _ (by omega) (by simp [World.setCell]; omega))

set_option maxHeartbeats 4000000 in
theorem rAsLent3_any {w : World} {a : Option Addr} {n c : Nat} {xs : List Nat} (h1 : Arg w a n c xs) (hn : n ≤ 35184372087808) (ng : Bool) (e : Int) (B g : Nat) (hR : Rd B w a xs) (hBw : B ≤ w.heap.size) (hB : B ≤ g) (hO : Own w g (xs ++ [71, 72])) :
    Calls Tryd.prog 30 #[.agg #[.bool ng, .slice (some ⟨g, 0, none⟩) n (n + 2), .int .i64 e], .agg #[.bool ng, .slice a n c, .int .i64 e]] w fun r w' => r = .returned (.bool true) ∧ But g w w' := by
  obtain ⟨W1, hW1⟩ : ∃ W, W = (w.alloc (.cells #[.bool ng, .slice (some ⟨g, 0, none⟩) n (n + 2), .int .i64 e] 39)).alloc (.cells #[.bool ng, .slice a n c, .int .i64 e] 39) := ⟨_, rfl⟩
  have hBe : Below w.heap.size w W1 := by rw [hW1]; exact (below_alloc w _).alloc (by simp) _
  have hg := hO.lt
  have DA : Dk W1 w.heap.size ng (.slice (some ⟨g, 0, none⟩) n (n + 2)) e := by rw [hW1]; exact (Dk.new w ng (.slice (some ⟨g, 0, none⟩) n (n + 2)) e).alloc _
  have DB : Dk W1 (w.heap.size + 1) ng (.slice a n c) e := by
    rw [hW1]
    have := Dk.new (w.alloc (.cells #[.bool ng, .slice (some ⟨g, 0, none⟩) n (n + 2), .int .i64 e] 39)) ng (.slice a n c) e
    simpa using this
  have A1 := h1.below hBe
  have T1 := hid (asLent_any xs a n c B g W1 A1.len A1.cap hn A1.wf (hR.below (hBe.mono hBw)) hB (hO.below hBe hg))
  have SB := (Aside.intro (And.intro hBe (And.intro DA (And.intro DB hg))))
  clear hBe DA DB A1 h1 hO hR hB hBw
  go_enter Tryd.func30, Tryd.ntmps30
  go_wp2_with fail
  rw [← hW1]
  clear hW1
  refine (Calls.mono T1.out) ?_
  rintro r u1 ⟨rfl, hb⟩
  obtain ⟨hBe, DA, DB, hg2⟩ := SB.out
  obtain ⟨x0, x1, x2, xf0, xf1, xf2⟩ := (DA.but hb (by omega)).facts
  obtain ⟨y0, y1, y2, yf0, yf1, yf2⟩ := (DB.but hb (by omega)).facts
  have S1 := Aside.intro (((But.refl g w).of_below hBe).trans hb)
  clear hBe DA DB hg2 hb
  go_wp2
  go_ret
  exact ⟨rfl, S1.out⟩
end Go.Proofs.YthilnddhehbjiaaDoor
