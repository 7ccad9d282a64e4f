/- DyadNear: what is kept from call to call. -/
import Derived.Test.YtfaaidnhmddibaaDoorD13x
namespace Go.Proofs.YtfaaidnhmddibaaDoor
open Go.RowKit
set_option linter.unusedVariables false
set_option maxRecDepth 20000
set_option linter.unusedSimpArgs false

theorem Dk.butQ {w w' : World} {g k : Nat} {n : Bool} {v : Value} {e : Int} (h : Dk w k n v e) (hb : But g w w') (hk : k ≠ g) : Dk w' k n v e := by
  unfold Dk; rw [hb.block k h.lt hk]; exact h
theorem Nt.butneQ {lo g : Nat} {w w' : World} {v : Value} {X : Nat} (h : Nt lo w v X) (hb : But g w w') (hg : v.ownBlock ≠ Option.some g) : Nt lo w' v X :=
  row_other h fun b hb2 => hb.block b (h.lt b hb2).2 (fun e => hg (e ▸ hb2))
/-- The law's five numbers, in a block. -/
def Lk (w : World) (g : Nat) (c : Array Value) : Prop := w.heap[g]? = some (.cells c 42 (0, 0))
theorem Lk.lt {w : World} {g : Nat} {c : Array Value} (h : Lk w g c) : g < w.heap.size := (Array.getElem?_eq_some_iff.1 h).1
theorem Lk.below {w w' : World} {g : Nat} {c : Array Value} (h : Lk w g c) (hb : Below w.heap.size w w') : Lk w' g c := by
  unfold Lk; rw [hb.block g h.lt]; exact h
theorem Lk.facts {w : World} {g : Nat} {c : Array Value} (h : Lk w g c) (j : Nat) (v : Value) (hv : c[j]? = some v) : w.cell? ⟨g, j, none⟩ = some v ∧ w.frozen? ⟨g, j, none⟩ = false := by
  unfold Lk at h
  simp [World.cell?, World.frozen?, h, hv]
theorem Lk.set {w : World} {g : Nat} {c : Array Value} (h : Lk w g c) (j : Nat) (v : Value) (c' : Array Value) (hc : c.setIfInBounds j v = c') : Lk (w.setCell ⟨g, j, none⟩ v) g c' := by
  unfold Lk at h ⊢
  simp [World.setCell, Array.getElem?_modify, h, hc]

structure Sn (w : World) (gl : Nat) (c : Array Value) (ds : List (Nat × Bool × Value × Int)) (ns : List (Value × Nat)) (U : World) : Prop where
  bel : Below w.heap.size w U
  lo : w.heap.size ≤ gl
  lk : Lk U gl c
  dk : ∀ d ∈ ds, Dk U d.1 d.2.1 d.2.2.1 d.2.2.2 ∧ d.1 ≠ gl
  nt : ∀ x ∈ ns, Nt 0 U x.1 x.2 ∧ x.1.ownBlock ≠ some gl
theorem Sn.below {w U V : World} {gl : Nat} {c : Array Value} {ds : List (Nat × Bool × Value × Int)} {ns : List (Value × Nat)} (h : Sn w gl c ds ns U) (hb : Below U.heap.size U V) : Sn w gl c ds ns V :=
  ⟨h.bel.trans (hb.mono h.bel.size), h.lo, h.lk.below hb, fun d hd => ⟨(h.dk d hd).1.below hb, (h.dk d hd).2⟩, fun x hx => ⟨(h.nt x hx).1.below hb, (h.nt x hx).2⟩⟩
theorem Sn.store {w U : World} {gl : Nat} {c : Array Value} {ds : List (Nat × Bool × Value × Int)} {ns : List (Value × Nat)} (h : Sn w gl c ds ns U) (j : Nat) (v : Value) (c' : Array Value) (hc : c.setIfInBounds j v = c') : Sn w gl c' ds ns (U.setCell ⟨gl, j, none⟩ v) :=
  ⟨But.below h.bel (But.setC U j v) h.bel.size h.lo, h.lo, h.lk.set j v c' hc, fun d hd => ⟨(h.dk d hd).1.butQ (But.setC U j v) (h.dk d hd).2, (h.dk d hd).2⟩, fun x hx => ⟨(h.nt x hx).1.butneQ (But.setC U j v) (h.nt x hx).2, (h.nt x hx).2⟩⟩
theorem Sn.addD {w U : World} {gl : Nat} {c : Array Value} {ds : List (Nat × Bool × Value × Int)} {ns : List (Value × Nat)} (h : Sn w gl c ds ns U) {g : Nat} {n : Bool} {v : Value} {e : Int} (hd : Dk U g n v e) (hg : g ≠ gl) : Sn w gl c ((g, n, v, e) :: ds) ns U :=
  ⟨h.bel, h.lo, h.lk, fun d hm => by rcases List.mem_cons.1 hm with rfl | hm; exact ⟨hd, hg⟩; exact h.dk d hm, h.nt⟩
theorem Sn.addN {w U : World} {gl lo : Nat} {c : Array Value} {ds : List (Nat × Bool × Value × Int)} {ns : List (Value × Nat)} (h : Sn w gl c ds ns U) {v : Value} {X : Nat} (hn : Nt lo U v X) (hlo : gl < lo) : Sn w gl c ds ((v, X) :: ns) U :=
  ⟨h.bel, h.lo, h.lk, h.dk, fun x hm => by
    rcases List.mem_cons.1 hm with rfl | hm
    · exact ⟨hn.mono (Nat.zero_le _), fun hb => by have := (hn.lt gl hb).1; omega⟩
    · exact h.nt x hm⟩
theorem Sn.getD {w u : World} {gl : Nat} {c : Array Value} {ds : List (Nat × Bool × Value × Int)} {ns : List (Value × Nat)} {g : Nat} {n : Bool} {v : Value} {e : Int} (S : Sn w gl c ds ns u) (h : (g, n, v, e) ∈ ds) : Dk u g n v e := (S.dk _ h).1
theorem Sn.getN {w u : World} {gl : Nat} {c : Array Value} {ds : List (Nat × Bool × Value × Int)} {ns : List (Value × Nat)} {v : Value} {X : Nat} (S : Sn w gl c ds ns u) (h : (v, X) ∈ ns) : Nt 0 u v X := (S.nt _ h).1
/-- Where the five numbers are made. -/
theorem Sn.begin {w U : World} (hb : Below w.heap.size w U) {g1 g2 : Nat} {n1 n2 : Bool} {v1 v2 : Value} {e1 e2 : Int} {X1 X2 : Nat} (D1 : Dk U g1 n1 v1 e1) (D2 : Dk U g2 n2 v2 e2) {l1 l2 : Nat} (N1 : Nt l1 U v1 X1) (N2 : Nt l2 U v2 X2) (V : World) (c : Array Value) (hV : V = U.alloc (.cells c 42)) :
    Sn w U.heap.size c [(g2, n2, v2, e2), (g1, n1, v1, e1)] [(v2, X2), (v1, X1)] V := by
  subst hV
  have hA := below_alloc U (.cells c 42)
  have L1 := D1.lt
  have L2 := D2.lt
  refine ⟨hb.trans (hA.mono hb.size), hb.size, heap_alloc_new _ _, fun d hd => ?_, fun x hx => ?_⟩
  · simp only [List.mem_cons, List.not_mem_nil, or_false] at hd
    rcases hd with rfl | rfl
    · exact ⟨D2.below hA, Nat.ne_of_lt L2⟩
    · exact ⟨D1.below hA, Nat.ne_of_lt L1⟩
  · simp only [List.mem_cons, List.not_mem_nil, or_false] at hx
    rcases hx with rfl | rfl
    · exact ⟨(N2.below hA).mono (Nat.zero_le _), fun hb => Nat.lt_irrefl _ (N2.lt _ hb).2⟩
    · exact ⟨(N1.below hA).mono (Nat.zero_le _), fun hb => Nat.lt_irrefl _ (N1.lt _ hb).2⟩
end Go.Proofs.YtfaaidnhmddibaaDoor
