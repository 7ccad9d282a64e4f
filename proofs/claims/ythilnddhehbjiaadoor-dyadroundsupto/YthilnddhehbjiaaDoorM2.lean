/- Words in memory: a row of words of one's own, words that are read. -/
import Derived.Test.YthilnddhehbjiaaDoorM1
import Derived.Test.YthilnddhehbjiaaDoorRows
import Derived.WalkKit
import Derived.Deep.LoopGhost
import Derived.OwnWalk
import Derived.Below
import Derived.Laws.OwnMore
import Derived.Laws.CopyOwn
namespace Go.Proofs.YthilnddhehbjiaaDoor
open Go.RowKit

theorem hid {p : Prop} (h : p) : Hid p := h
theorem _root_.Go.Aside.intro {p : Prop} (h : p) : Aside p := h

/-- A word as a cell. -/
def U (n : Nat) : Value := .int .u32 (n : Int)

/-- Block g is a row of these words, all of it, free to be written. -/
def Own (w : World) (g : Nat) (L : List Nat) : Prop := w.heap[g]? = some (.cells (L.map U).toArray 61 (0, 0))

theorem Own.lt {w : World} {g : Nat} {L : List Nat} (h : Own w g L) : g < w.heap.size := (Array.getElem?_eq_some_iff.1 h).1

theorem Own.cell {w : World} {g : Nat} {L : List Nat} (h : Own w g L) (i : Nat) (hi : i < L.length) : w.cell? ⟨g, i, none⟩ = some (.int .u32 ((L.getD i 0 : Nat) : Int)) := by
  unfold Own at h
  simp [World.cell?, h, U, hi]

theorem Own.frozen {w : World} {g : Nat} {L : List Nat} (h : Own w g L) (i : Nat) : w.frozen? ⟨g, i, none⟩ = false := by
  unfold Own at h
  simp [World.frozen?, h]

theorem Own.set {w : World} {g : Nat} {L : List Nat} (h : Own w g L) (i x : Nat) : Own (w.setCell ⟨g, i, none⟩ (.int .u32 (x : Int))) g (L.set i x) := by
  unfold Own at h ⊢
  simp only [World.setCell, Array.getElem?_modify, h]
  simp [U, List.map_set]

theorem Own.setOther {w : World} {g : Nat} {L : List Nat} (h : Own w g L) {a : Addr} (ha : a.block ≠ g) (u : Value) : Own (w.setCell a u) g L := by
  unfold Own at h ⊢
  rw [Below.heap_setCell _ _ _ _ (fun e => ha e.symm)]
  exact h

theorem Own.alloc {w : World} {g : Nat} {L : List Nat} (h : Own w g L) (o : Obj) : Own (w.alloc o) g L := by
  have := h.lt
  unfold Own at h ⊢
  rw [Below.heap_alloc _ _ _ this]
  exact h

theorem Own.drew {w : World} {g : Nat} {L : List Nat} (h : Own w g L) : Own w.drew g L := h

theorem Own.below {w w' : World} {g B : Nat} {L : List Nat} (h : Own w g L) (hb : Below B w w') (hg : g < B) : Own w' g L := by
  unfold Own at h ⊢
  rw [hb.block g hg]; exact h

/-- All blocks but g are as they were. -/
structure But (g : Nat) (w w' : World) : Prop where
  os : w'.os = w.os
  tape : w'.tape = w.tape
  output : w'.output = w.output
  size : w.heap.size ≤ w'.heap.size
  block : ∀ k, k < w.heap.size → k ≠ g → w'.heap[k]? = w.heap[k]?

theorem But.refl (g : Nat) (w : World) : But g w w := ⟨rfl, rfl, rfl, Nat.le_refl _, fun _ _ _ => rfl⟩
theorem But.trans {g : Nat} {a b c : World} (h : But g a b) (k : But g b c) : But g a c :=
  ⟨k.os.trans h.os, k.tape.trans h.tape, k.output.trans h.output, Nat.le_trans h.size k.size, fun i hi hg => (k.block i (Nat.lt_of_lt_of_le hi h.size) hg).trans (h.block i hi hg)⟩
theorem But.drew {g : Nat} {a w : World} (h : But g a w) : But g a w.drew := ⟨h.os, h.tape, h.output, h.size, h.block⟩
theorem But.set {g : Nat} {a w : World} (h : But g a w) (i : Nat) (u : Value) : But g a (w.setCell ⟨g, i, none⟩ u) :=
  h.trans ⟨rfl, rfl, rfl, by simp [World.setCell], fun k _ hk => Below.heap_setCell _ _ _ _ hk⟩
theorem But.alloc {g : Nat} {a w : World} (h : But g a w) (o : Obj) : But g a (w.alloc o) :=
  h.trans ⟨rfl, rfl, rfl, by simp, fun k hk _ => Below.heap_alloc _ _ _ hk⟩
theorem But.of_below {g : Nat} {a w w' : World} (h : But g a w) (hb : Below w.heap.size w w') : But g a w' :=
  h.trans ⟨hb.os, hb.tape, hb.output, hb.size, fun k hk _ => hb.block k hk⟩
theorem But.below {g B : Nat} {a w w' : World} (h : Below B a w) (hb : But g w w') (hB : B ≤ w.heap.size) (hg : B ≤ g) : Below B a w' :=
  h.trans ⟨hb.os, hb.tape, hb.output, hb.size, fun k hk => hb.block k (by omega) (by omega)⟩

/-- Words that are read: where there are any, they lie in a block below B. -/
def Rd (B : Nat) (w : World) (ao : Option Addr) (xs : List Nat) : Prop :=
  xs ≠ [] → ∃ b off, b < B ∧ ao = some ⟨b, off, none⟩ ∧ ∀ i, i < xs.length → w.cell? ⟨b, off + i, none⟩ = some (.int .u32 ((xs.getD i 0 : Nat) : Int))

theorem Rd.nil (B : Nat) (w : World) (ao : Option Addr) : Rd B w ao [] := fun h => absurd rfl h

theorem Rd.below {B : Nat} {w w' : World} {ao : Option Addr} {xs : List Nat} (h : Rd B w ao xs) (hb : Below B w w') : Rd B w' ao xs := by
  intro hx
  obtain ⟨b, off, hlt, rfl, hc⟩ := h hx
  exact ⟨b, off, hlt, rfl, fun i hi => (hb.cell (p := ⟨b, off + i, none⟩) hlt).trans (hc i hi)⟩

theorem Rd.but {B g : Nat} {w w' : World} {ao : Option Addr} {xs : List Nat} (h : Rd B w ao xs) (hb : But g w w') (hB : B ≤ w.heap.size) (hg : B ≤ g) : Rd B w' ao xs :=
  h.below (But.below (Below.refl _ _) hb hB hg)

theorem Rd.mono {B B' : Nat} {w : World} {ao : Option Addr} {xs : List Nat} (h : Rd B w ao xs) (hB : B ≤ B') : Rd B' w ao xs := by
  intro hx
  obtain ⟨b, off, hlt, rfl, hc⟩ := h hx
  exact ⟨b, off, by omega, rfl, hc⟩

theorem Rd.take {B : Nat} {w : World} {ao : Option Addr} {xs : List Nat} (h : Rd B w ao xs) (k : Nat) : Rd B w ao (xs.take k) := by
  intro hx
  have hx' : xs ≠ [] := by intro e; subst e; simp at hx
  obtain ⟨b, off, hlt, rfl, hc⟩ := h hx'
  refine ⟨b, off, hlt, rfl, fun i hi => ?_⟩
  simp only [List.length_take] at hi
  rw [hc i (by omega)]
  simp [List.getD_eq_getElem?_getD, show i < k by omega]

theorem Rd.ofOwn {w : World} {g : Nat} {L : List Nat} (h : Own w g L) (off n : Nat) : Rd (g + 1) w (some ⟨g, off, none⟩) ((L.drop off).take n) := by
  intro _
  refine ⟨g, off, by omega, rfl, fun i hi => ?_⟩
  simp only [List.length_take, List.length_drop] at hi
  rw [h.cell _ (by omega)]
  simp [List.getD_eq_getElem?_getD, show i < n by omega]

/-- A Nat of one's own: the words of X in their form, in a row from block lo on. -/
def Nt (lo : Nat) (w : World) (v : Value) (X : Nat) : Prop := w.ownsRow lo 61 1 v (ws X).length ((ws X).map U)

theorem Nt.nil (lo : Nat) (w : World) : Nt lo w (.slice none 0 0) 0 := by
  unfold Nt; rw [ws_zero]; exact World.ownsRow_nil _ _ _ _

theorem Nt.ofOwn {lo : Nat} {w : World} {g : Nat} {L : List Nat} (h : Own w g L) (hlo : lo ≤ g) (hL : Wf L) (hm : L.length ≤ maxLen) :
    Nt lo w (.slice (some ⟨g, 0, none⟩) (nl L) L.length) (val L) := by
  unfold Nt
  have e := form_eq L hL
  have hn := nl_le L
  rw [← e]
  refine ⟨by simp, .inr ⟨g, L.length, (L.map U).toArray, ?_, hlo, h, ?_, hm, by simp, by simp⟩⟩
  · simp [Nat.min_eq_left hn]
  · simp; omega

theorem Nt.shape {lo : Nat} {w : World} {v : Value} {X : Nat} (h : Nt lo w v X) : ∃ ao cap, v = .slice ao (ws X).length cap ∧ (ws X).length ≤ cap ∧ cap ≤ maxLen ∧ Rd w.heap.size w ao (ws X) := by
  rcases h.2 with ⟨rfl, h0⟩ | ⟨g, cap, cur, rfl, hlo, hg, hn, hm, hs, ht⟩
  · refine ⟨none, 0, by rw [h0], by omega, by unfold maxLen; omega, ?_⟩
    have : ws X = [] := List.length_eq_zero_iff.1 h0
    rw [this]; exact Rd.nil _ _ _
  · refine ⟨_, cap, rfl, hn, hm, fun _ => ⟨g, 0, (Array.getElem?_eq_some_iff.1 hg).1, rfl, fun i hi => ?_⟩⟩
    have := h.cells (g := g) (by simp [Value.ownBlock]) i (U ((ws X).getD i 0)) (by simp [hi])
    have e : (⟨g, 0, none⟩ : Addr).add i = ⟨g, 0 + i, none⟩ := by unfold Addr.add; split <;> simp_all
    rw [e] at this
    simpa [U] using this

theorem Nt.below {lo : Nat} {w w' : World} {v : Value} {X : Nat} (h : Nt lo w v X) (hb : Below w.heap.size w w') : Nt lo w' v X := by
  refine ⟨h.1, ?_⟩
  rcases h.2 with hn | ⟨g, cap, cur, rfl, hlo, hg, rest⟩
  · exact .inl hn
  · refine .inr ⟨g, cap, cur, rfl, hlo, ?_, rest⟩
    rw [hb.block g (Array.getElem?_eq_some_iff.1 hg).1]; exact hg

theorem Nt.mono {lo lo' : Nat} {w : World} {v : Value} {X : Nat} (h : Nt lo w v X) (hl : lo' ≤ lo) : Nt lo' w v X := by
  refine ⟨h.1, ?_⟩
  rcases h.2 with hn | ⟨g, cap, cur, rfl, hlo, rest⟩
  · exact .inl hn
  · exact .inr ⟨g, cap, cur, rfl, by omega, rest⟩

theorem Tryd.info61 : (Tryd.prog.info? 61).map (fun i => (i.zero, i.size, i.bytes)) = some (some (.int .u32 0), 1, 4) := by kernel_rfl
end Go.Proofs.YthilnddhehbjiaaDoor
