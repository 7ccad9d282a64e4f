/- took, of three and of two. -/
import Derived.Test.YtonhahbmdekkdaaDoorK43
namespace Go.Proofs.YtonhahbmdekkdaaDoor
open Go.RowKit
set_option linter.unusedVariables false
set_option maxRecDepth 20000

def it3 (i1 i2 i3 : It) : List It := [i1, i2, i3]
def flat3 (f : It → Value) (i1 i2 i3 : It) : Array Value := #[.bool i1.neg, f i1, .int .i64 i1.e, .bool i2.neg, f i2, .int .i64 i2.e, .bool i3.neg, f i3, .int .i64 i3.e]
theorem row3 (f : It → Value) (i1 i2 i3 : It) : Row3 (flat3 f i1 i2 i3) (it3 i1 i2 i3) f := by
  intro i it hi
  unfold it3 at hi
  match i, hi with
  | 0, hi | 1, hi | 2, hi => simp at hi; subst hi; exact ⟨rfl, rfl, rfl⟩
theorem took3 (i1 i2 i3 : It) (gC gW : Nat) (w0 w : World) (L : Led w0.heap.size w0 w [i1.v, i2.v, i3.v])
    (hC : w.heap[gC]? = some (.cells (flat3 It.v i1 i2 i3) 38 (0, 0))) (hW : w.heap[gW]? = some (.cells (flat3 It.u i1 i2 i3) 38 (0, 0)))
    (hI : ∀ it ∈ it3 i1 i2 i3, Nt w0.heap.size w it.v it.X ∧ Nt w0.heap.size w it.u it.X ∧ (ws it.X).length ≤ 8192) :
    Calls Tryd.prog 26 #[.slice (some ⟨gC, 0, none⟩) 3 3, .slice (some ⟨gW, 0, none⟩) 3 3] w fun r w' => r = .returned (.bool true) ∧ Below w0.heap.size w0 w' ∧ K.Keep0 w w' :=
  K.took_keep w0.heap.size gC gW 3 (it3 i1 i2 i3) _ _ w0 w L.bel L.size hC hW (row3 _ _ _ _) (row3 _ _ _ _) rfl (by omega) (by omega) L.nice (fun it h => ⟨(hI it h).1, (hI it h).2.1, by have := (hI it h).2.2; omega⟩)

def it2 (i1 i2 : It) : List It := [i1, i2]
def flat2 (f : It → Value) (i1 i2 : It) : Array Value := #[.bool i1.neg, f i1, .int .i64 i1.e, .bool i2.neg, f i2, .int .i64 i2.e]
theorem row2 (f : It → Value) (i1 i2 : It) : Row3 (flat2 f i1 i2) (it2 i1 i2) f := by
  intro i it hi
  unfold it2 at hi
  match i, hi with
  | 0, hi | 1, hi => simp at hi; subst hi; exact ⟨rfl, rfl, rfl⟩
theorem took2 (i1 i2 : It) (gC gW : Nat) (w0 w : World) (L : Led w0.heap.size w0 w [i1.v, i2.v])
    (hC : w.heap[gC]? = some (.cells (flat2 It.v i1 i2) 38 (0, 0))) (hW : w.heap[gW]? = some (.cells (flat2 It.u i1 i2) 38 (0, 0)))
    (hI : ∀ it ∈ it2 i1 i2, Nt w0.heap.size w it.v it.X ∧ Nt w0.heap.size w it.u it.X ∧ (ws it.X).length ≤ 8192) :
    Calls Tryd.prog 26 #[.slice (some ⟨gC, 0, none⟩) 2 2, .slice (some ⟨gW, 0, none⟩) 2 2] w fun r w' => r = .returned (.bool true) ∧ Below w0.heap.size w0 w' ∧ K.Keep0 w w' :=
  K.took_keep w0.heap.size gC gW 2 (it2 i1 i2) _ _ w0 w L.bel L.size hC hW (row2 _ _ _) (row2 _ _ _) rfl (by omega) (by omega) L.nice (fun it h => ⟨(hI it h).1, (hI it h).2.1, by have := (hI it h).2.2; omega⟩)
end Go.Proofs.YtonhahbmdekkdaaDoor
