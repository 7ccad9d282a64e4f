/- What the laws of layer 3 share. -/
import Derived.Test.YthilnddhehbjiaaDoorD27
namespace Go.Proofs.YthilnddhehbjiaaDoor
open Go.RowKit
set_option linter.unusedVariables false
set_option maxRecDepth 20000

theorem Dk.but {w w' : World} {g k : Nat} {n : Bool} {v : Value} {e : Int} (h : Dk w k n v e) (hb : But g w w') (hk : k ≠ g) : Dk w' k n v e := by
  unfold Dk; rw [hb.block k h.lt hk]; exact h
theorem Nt.butne {lo g : Nat} {w w' : World} {v : Value} {X : Nat} (h : Nt lo w v X) (hb : But g w w') (hg : v.ownBlock ≠ Option.some g) : Nt lo w' v X :=
  row_other h fun b hb2 => hb.block b (h.lt b hb2).2 (fun e => hg (e ▸ hb2))
theorem nth_mem3 {vs : List Value} {u : Value} (hu : u ∈ vs) : ∃ i, i < vs.length ∧ nth vs i = u := by
  obtain ⟨i, hi, e⟩ := List.getElem_of_mem hu
  exact ⟨i, hi, by simp [nth, List.getD_eq_getElem?_getD, hi, e]⟩
theorem Nice.lt3 {lo : Nat} {w : World} {vs : List Value} (h : Nice lo w vs) {u : Value} (hu : u ∈ vs) (b : Nat) (hb : u.ownBlock = some b) : lo ≤ b ∧ b < w.heap.size := by
  obtain ⟨i, hi, e⟩ := nth_mem3 hu
  obtain ⟨ys, hy⟩ := h.rows i hi
  rw [e] at hy
  obtain ⟨h1, h2, _⟩ := Rw.lt hy b hb
  exact ⟨h1, h2⟩
theorem nth_in3 {vs : List Value} {i : Nat} (hi : i < vs.length) : nth vs i ∈ vs := by
  simp [nth, List.getD_eq_getElem?_getD, hi]

/-- What has come out so far, and nothing below lo has turned. -/
structure Led (lo : Nat) (w0 w : World) (vs : List Value) : Prop where
  bel : Below lo w0 w
  size : lo ≤ w.heap.size
  nice : Nice lo w vs
theorem Led.start (w : World) : Led w.heap.size w w [] := ⟨Below.refl _ _, Nat.le_refl _, Nice.nil _ _⟩
theorem Led.below {lo : Nat} {w0 w u : World} {vs : List Value} (h : Led lo w0 w vs) (hb : Below w.heap.size w u) : Led lo w0 u vs :=
  ⟨h.bel.trans (hb.mono h.size), Nat.le_trans h.size hb.size, h.nice.keep (Keep.below hb)⟩
theorem Led.add {lo : Nat} {w0 w u : World} {vs : List Value} {v : Value} {X : Nat} (h : Led lo w0 w vs) (hb : Below w.heap.size w u) (hN : Nt w.heap.size u v X) (hs : (ws X).length ≤ 8192) : Led lo w0 u (vs ++ [v]) :=
  ⟨(h.below hb).bel, (h.below hb).size, (h.below hb).nice.snoc (hN.mono h.size) (by omega) fun x hx b e1 e2 => by
    have h1 := h.nice.lt3 hx b e1
    have h2 := hN.lt b e2
    omega⟩
theorem Led.but {lo g : Nat} {w0 w w' : World} {vs : List Value} (h : Led lo w0 w vs) (hb : But g w w') (hg : lo ≤ g) (hv : ∀ v ∈ vs, v.ownBlock ≠ some g) : Led lo w0 w' vs :=
  ⟨But.below h.bel hb h.size hg, Nat.le_trans h.size hb.size, ⟨fun i hi => by
    obtain ⟨ys, hy⟩ := h.nice.rows i hi
    exact ⟨ys, row_other hy fun b hb2 => hb.block b (Rw.lt hy b hb2).2.1 (fun e => hv _ (nth_in3 hi) (e ▸ hb2))⟩, h.nice.small, h.nice.apart⟩⟩
end Go.Proofs.YthilnddhehbjiaaDoor
