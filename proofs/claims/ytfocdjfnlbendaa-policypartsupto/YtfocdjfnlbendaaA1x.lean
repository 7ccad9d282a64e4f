/- Numbers in memory: a row of numbers of one's own, numbers that are read; rows that are made, copied, appended to. -/
import Derived.Test.YtfocdjfnlbendaaRows
import Derived.WalkKit
import Derived.Deep.LoopGhost
import Derived.OwnWalk
import Derived.Below
import Derived.Laws.OwnMore
import Derived.Laws.CopyOwn
import Derived.Deep.OwnRows
import Derived.Laws.MakeOwn
import Derived.ArgAppend
import Derived.Maps.AppendAt
import Derived.WalkMore
import Derived.Laws.Cover2
import Ieee.Arith
import Derived.Test.YtfocdjfnlbendaaProg
import Derived.WalkLawsBesides
import Derived.WalkSpells
import Derived.Laws.Externs
import Derived.Deep.RegionWith
import Derived.BigQuiet
import Derived.Laws.BitsAllLaws
namespace Go.Proofs.Ytfocdjfnlbendaa
open Go.RowKit
set_option linter.unusedVariables false
set_option maxRecDepth 20000

/-- Each is a number's bits. -/
def Wf (xs : List Nat) : Prop := ∀ x ∈ xs, x < 18446744073709551616
theorem Wf.nil : Wf [] := by intro x hx; cases hx
theorem Wf.get {xs : List Nat} (h : Wf xs) (k : Nat) : xs.getD k 0 < 18446744073709551616 := by
  by_cases hk : k < xs.length
  · rw [List.getD_eq_getElem?_getD, List.getElem?_eq_getElem hk]; exact h _ (List.getElem_mem hk)
  · rw [List.getD_eq_getElem?_getD, List.getElem?_eq_none (by omega)]; decide
theorem getD_set (L : List Nat) (i j x : Nat) : (L.set i x).getD j 0 = if i = j ∧ j < L.length then x else L.getD j 0 := by
  simp only [List.getD_eq_getElem?_getD, List.getElem?_set]
  by_cases h : i = j
  · subst h
    by_cases h2 : i < L.length
    · simp [h2]
    · simp [h2]
  · simp [h]
theorem getD_set_ne (L : List Nat) (i j x : Nat) (h : i ≠ j) : (L.set i x).getD j 0 = L.getD j 0 := by rw [getD_set, if_neg (fun e => h e.1)]

theorem hid {p : Prop} (h : p) : Hid p := h
theorem _root_.Go.Aside.intro {p : Prop} (h : p) : Aside p := h

/-- A word as a cell. -/
def U (n : Nat) : Value := .float .f64 n

/-- Block g is a row of these numbers, all of it, free to be written. -/
def Own (w : World) (g : Nat) (L : List Nat) : Prop := w.heap[g]? = some (.cells (L.map U).toArray 41 (0, 0))

theorem Own.lt {w : World} {g : Nat} {L : List Nat} (h : Own w g L) : g < w.heap.size := (Array.getElem?_eq_some_iff.1 h).1

theorem Own.cell {w : World} {g : Nat} {L : List Nat} (h : Own w g L) (i : Nat) (hi : i < L.length) : w.cell? ⟨g, i, none⟩ = some (.float .f64 (L.getD i 0)) := by
  unfold Own at h
  simp [World.cell?, h, U, hi]

theorem Own.frozen {w : World} {g : Nat} {L : List Nat} (h : Own w g L) (i : Nat) : w.frozen? ⟨g, i, none⟩ = false := by
  unfold Own at h
  simp [World.frozen?, h]

theorem Own.set {w : World} {g : Nat} {L : List Nat} (h : Own w g L) (i x : Nat) : Own (w.setCell ⟨g, i, none⟩ (.float .f64 x)) g (L.set i x) := by
  unfold Own at h ⊢
  simp only [World.setCell, Array.getElem?_modify, h]
  simp [U, List.map_set]

theorem Own.setOther {w : World} {g : Nat} {L : List Nat} (h : Own w g L) {a : Addr} (ha : a.block ≠ g) (u : Value) : Own (w.setCell a u) g L := by
  unfold Own at h ⊢
  rw [Below.heap_setCell _ _ _ _ (fun e => ha e.symm)]
  exact h

theorem Own.alloc {w : World} {g : Nat} {L : List Nat} (h : Own w g L) (o : Obj) : Own (w.alloc o) g L := by
  have := h.lt
  unfold Own at h ⊢
  rw [Below.heap_alloc _ _ _ this]
  exact h

theorem Own.drew {w : World} {g : Nat} {L : List Nat} (h : Own w g L) : Own w.drew g L := h

theorem Own.below {w w' : World} {g B : Nat} {L : List Nat} (h : Own w g L) (hb : Below B w w') (hg : g < B) : Own w' g L := by
  unfold Own at h ⊢
  rw [hb.block g hg]; exact h

/-- All blocks but g are as they were. -/
structure But (g : Nat) (w w' : World) : Prop where
  os : w'.os = w.os
  tape : w'.tape = w.tape
  output : w'.output = w.output
  size : w.heap.size ≤ w'.heap.size
  block : ∀ k, k < w.heap.size → k ≠ g → w'.heap[k]? = w.heap[k]?

theorem But.refl (g : Nat) (w : World) : But g w w := ⟨rfl, rfl, rfl, Nat.le_refl _, fun _ _ _ => rfl⟩
theorem But.trans {g : Nat} {a b c : World} (h : But g a b) (k : But g b c) : But g a c :=
  ⟨k.os.trans h.os, k.tape.trans h.tape, k.output.trans h.output, Nat.le_trans h.size k.size, fun i hi hg => (k.block i (Nat.lt_of_lt_of_le hi h.size) hg).trans (h.block i hi hg)⟩
theorem But.drew {g : Nat} {a w : World} (h : But g a w) : But g a w.drew := ⟨h.os, h.tape, h.output, h.size, h.block⟩
theorem But.set {g : Nat} {a w : World} (h : But g a w) (i : Nat) (u : Value) : But g a (w.setCell ⟨g, i, none⟩ u) :=
  h.trans ⟨rfl, rfl, rfl, by simp [World.setCell], fun k _ hk => Below.heap_setCell _ _ _ _ hk⟩
theorem But.alloc {g : Nat} {a w : World} (h : But g a w) (o : Obj) : But g a (w.alloc o) :=
  h.trans ⟨rfl, rfl, rfl, by simp, fun k hk _ => Below.heap_alloc _ _ _ hk⟩
theorem But.of_below {g : Nat} {a w w' : World} (h : But g a w) (hb : Below w.heap.size w w') : But g a w' :=
  h.trans ⟨hb.os, hb.tape, hb.output, hb.size, fun k hk _ => hb.block k hk⟩
theorem But.below {g B : Nat} {a w w' : World} (h : Below B a w) (hb : But g w w') (hB : B ≤ w.heap.size) (hg : B ≤ g) : Below B a w' :=
  h.trans ⟨hb.os, hb.tape, hb.output, hb.size, fun k hk => hb.block k (by omega) (by omega)⟩

/-- Words that are read: where there are any, they lie in a block below B. -/
def Rd (B : Nat) (w : World) (ao : Option Addr) (xs : List Nat) : Prop :=
  xs ≠ [] → ∃ b off, b < B ∧ ao = some ⟨b, off, none⟩ ∧ ∀ i, i < xs.length → w.cell? ⟨b, off + i, none⟩ = some (.float .f64 (xs.getD i 0))

theorem Rd.nil (B : Nat) (w : World) (ao : Option Addr) : Rd B w ao [] := fun h => absurd rfl h

theorem Rd.below {B : Nat} {w w' : World} {ao : Option Addr} {xs : List Nat} (h : Rd B w ao xs) (hb : Below B w w') : Rd B w' ao xs := by
  intro hx
  obtain ⟨b, off, hlt, rfl, hc⟩ := h hx
  exact ⟨b, off, hlt, rfl, fun i hi => (hb.cell (p := ⟨b, off + i, none⟩) hlt).trans (hc i hi)⟩

theorem Rd.but {B g : Nat} {w w' : World} {ao : Option Addr} {xs : List Nat} (h : Rd B w ao xs) (hb : But g w w') (hB : B ≤ w.heap.size) (hg : B ≤ g) : Rd B w' ao xs :=
  h.below (But.below (Below.refl _ _) hb hB hg)

theorem Rd.mono {B B' : Nat} {w : World} {ao : Option Addr} {xs : List Nat} (h : Rd B w ao xs) (hB : B ≤ B') : Rd B' w ao xs := by
  intro hx
  obtain ⟨b, off, hlt, rfl, hc⟩ := h hx
  exact ⟨b, off, by omega, rfl, hc⟩

theorem Rd.take {B : Nat} {w : World} {ao : Option Addr} {xs : List Nat} (h : Rd B w ao xs) (k : Nat) : Rd B w ao (xs.take k) := by
  intro hx
  have hx' : xs ≠ [] := by intro e; subst e; simp at hx
  obtain ⟨b, off, hlt, rfl, hc⟩ := h hx'
  refine ⟨b, off, hlt, rfl, fun i hi => ?_⟩
  simp only [List.length_take] at hi
  rw [hc i (by omega)]
  simp [List.getD_eq_getElem?_getD, show i < k by omega]

theorem Rd.ofOwn {w : World} {g : Nat} {L : List Nat} (h : Own w g L) (off n : Nat) : Rd (g + 1) w (some ⟨g, off, none⟩) ((L.drop off).take n) := by
  intro _
  refine ⟨g, off, by omega, rfl, fun i hi => ?_⟩
  simp only [List.length_take, List.length_drop] at hi
  rw [h.cell _ (by omega)]
  simp [List.getD_eq_getElem?_getD, show i < n by omega]

/-- A list of one's own: these numbers, in a row from block lo on. -/
def Lt (lo : Nat) (w : World) (v : Value) (xs : List Nat) : Prop := w.ownsRow lo 41 1 v xs.length (xs.map U)

theorem Lt.nil (lo : Nat) (w : World) : Lt lo w (.slice none 0 0) [] := World.ownsRow_nil _ _ _ _

theorem Lt.shape {lo : Nat} {w : World} {v : Value} {xs : List Nat} (h : Lt lo w v xs) : ∃ ao cap, v = .slice ao xs.length cap ∧ xs.length ≤ cap ∧ cap ≤ maxLen ∧ Rd w.heap.size w ao xs := by
  rcases h.2 with ⟨rfl, h0⟩ | ⟨g, cap, cur, rfl, hlo, hg, hn, hm, hs, ht⟩
  · refine ⟨none, 0, by rw [h0], by omega, by unfold maxLen; omega, ?_⟩
    have : xs = [] := List.length_eq_zero_iff.1 h0
    rw [this]; exact Rd.nil _ _ _
  · refine ⟨_, cap, rfl, hn, hm, fun _ => ⟨g, 0, (Array.getElem?_eq_some_iff.1 hg).1, rfl, fun i hi => ?_⟩⟩
    have := h.cells (g := g) (by simp [Value.ownBlock]) i (U (xs.getD i 0)) (by simp [hi])
    have e : (⟨g, 0, none⟩ : Addr).add i = ⟨g, 0 + i, none⟩ := by unfold Addr.add; split <;> simp_all
    rw [e] at this
    simpa [U] using this

theorem Lt.below {lo : Nat} {w w' : World} {v : Value} {xs : List Nat} (h : Lt lo w v xs) (hb : Below w.heap.size w w') : Lt lo w' v xs := by
  refine ⟨h.1, ?_⟩
  rcases h.2 with hn | ⟨g, cap, cur, rfl, hlo, hg, rest⟩
  · exact .inl hn
  · refine .inr ⟨g, cap, cur, rfl, hlo, ?_, rest⟩
    rw [hb.block g (Array.getElem?_eq_some_iff.1 hg).1]; exact hg

theorem Lt.mono {lo lo' : Nat} {w : World} {v : Value} {xs : List Nat} (h : Lt lo w v xs) (hl : lo' ≤ lo) : Lt lo' w v xs := by
  refine ⟨h.1, ?_⟩
  rcases h.2 with hn | ⟨g, cap, cur, rfl, hlo, rest⟩
  · exact .inl hn
  · exact .inr ⟨g, cap, cur, rfl, by omega, rest⟩

theorem Try.info41 : (Try.prog.info? 41).map (fun i => (i.zero, i.size, i.bytes)) = some (some (.float .f64 0), 1, 8) := by kernel_rfl

theorem make_numbers (z : Int) (n : Nat) (hz : z = (n : Int)) (hn : n ≤ 35184372088832) (w : World) :
    (Instr.makeSlice 27 (.int .i64 z) (.int .i64 z)).run Try.prog w = .ok (.slice (some ⟨w.heap.size, 0, none⟩) n n) (w.alloc (.cells (madeCells #[.float .f64 0] n) 41)) := by
  subst hz
  exact run_make_row' 27 41 (.float .f64 0) 8 Try.underlying27 Try.info41 rfl .i64 .i64 n (by omega) (by omega) w

theorem Own.made (w : World) (n : Nat) : Own (w.alloc (.cells (madeCells #[.float .f64 0] n) 41)) w.heap.size (List.replicate n 0) := by
  unfold Own
  have h1 := heap_alloc_new w (.cells (madeCells #[.float .f64 0] n) 41)
  rw [h1]
  congr 2
  apply Array.toList_inj.1
  rw [toList_madeCells_one]
  simp [U]

theorem Rd.drop {B : Nat} {w : World} {b off : Nat} {xs : List Nat} (h : Rd B w (some ⟨b, off, none⟩) xs) (k : Nat) : Rd B w (some ⟨b, off + k, none⟩) (xs.drop k) := by
  intro hx
  have hx' : xs ≠ [] := by intro e; subst e; simp at hx
  obtain ⟨b', off', hlt, e, hc⟩ := h hx'
  cases e
  refine ⟨b, off + k, hlt, rfl, fun i hi => ?_⟩
  simp only [List.length_drop] at hi
  rw [Nat.add_assoc, hc (k + i) (by omega)]
  simp [List.getD_eq_getElem?_getD]

theorem copy_numbers (w : World) (g dLen dCap : Nat) (ao : Option Addr) (sLen sCap B : Nat) (ty : TypeId)
    (L xs : List Nat) (hO : Own w g L) (hL : dLen ≤ L.length) (hx : sLen = xs.length) (hR : Rd B w ao xs) (hle : sLen ≤ dLen) :
    ∃ w', (Builtin.copy_ #[27, 27] ty #[.slice (some ⟨g, 0, none⟩) dLen dCap, .slice ao sLen sCap]).run Try.prog w = .ok (.int .i64 (sLen : Int)) w' ∧ Own w' g (xs ++ L.drop sLen) ∧ But g w w' := by
  subst hx
  have hmin : Nat.min xs.length dLen = xs.length := Nat.min_eq_left hle
  by_cases h0 : xs = []
  · subst h0
    exact ⟨w, run_copy_none (P := Try.prog) w 27 27 ty 41 _ _ _ _ _ _ Try.underlying27 (by kernel_rfl) (by simp at hmin ⊢), by simpa using hO, But.refl _ _⟩
  · obtain ⟨b, off, hlt, rfl, hc⟩ := hR h0
    have hadd : ∀ j, (⟨b, off, none⟩ : Addr).add j = ⟨b, off + j, none⟩ := by intro j; unfold Addr.add; split <;> simp_all
    have hrun := run_copy_row (P := Try.prog) w 27 27 ty 41 g 0 dLen dCap ⟨b, off, none⟩ xs.length sCap (L.map U).toArray 41 (xs.map U) Try.underlying27 (by kernel_rfl) hO (by rw [hmin]; simp) (by
      intro j v hv
      rw [hadd]
      have hj : j < xs.length := by
        have := (List.getElem?_eq_some_iff.1 hv).1
        simpa using this
      rw [hc j hj]
      simp [hj, U] at hv
      simp [hj, ← hv]) (by simp; omega) (by
      intro v hv
      obtain ⟨n, _, rfl⟩ := List.mem_map.1 hv
      rfl)
    refine ⟨w.setRow g (((xs ++ L.drop xs.length).map U)).toArray, ?_, setRow_heap w g _ _ 41 _ hO, ⟨rfl, rfl, rfl, by simp [World.setRow], fun k _ hk => setRow_other w g k _ hk⟩⟩
    simpa [List.map_append, List.map_drop, goInt] using hrun
theorem append_numbers (w : World) (lo : Nat) (v : Value) (n : Nat) (xs src : List Nat) (ao : Option Addr) (m c B : Nat) (ty : TypeId) (hown : w.ownsRow lo 41 1 v n (xs.map U)) (hm : m = src.length) (hR : Rd B w ao src)
    (hnil : ao = none → c = 0) (hbig : n + m ≤ 17592186044416) (hlo : lo ≤ w.heap.size) :
    ∃ v' w', (Builtin.append_ #[27, 27] ty #[v, .slice ao m c]).run Try.prog w = .ok v' w' ∧ w'.ownsRow lo 41 1 v' (n + m) ((xs ++ src).map U) ∧ w.grownBy w' v.ownBlock := by
  obtain ⟨i0, hi, hz0, hz1, hz2⟩ := info_parts Try.info41
  subst hm
  rcases hao : ao with _ | a
  · have h0 : src = [] := by
      by_cases h : src = []
      · exact h
      · obtain ⟨b, off, _, e, _⟩ := hR h
        rw [hao] at e; cases e
    subst h0
    have hc := hnil hao
    subst hc
    exact ⟨v, w, run_append_owned_none (P := Try.prog) w lo 27 ty 41 i0 1 Try.underlying27 hi v n _ hown, by simpa using hown, World.grownBy.refl _ _⟩
  · obtain ⟨v', w', h1, h2, h3, _⟩ := run_append_own (P := Try.prog) w lo 27 ty 41 i0 (.float .f64 0) 1 8 Try.underlying27 hi hz0 hz1 hz2 rfl (by decide) v n (xs.map U) hown a src.length c (src.map U) (by simp) (by
      intro j u hj
      have hj2 : j < src.length := by have := (List.getElem?_eq_some_iff.1 hj).1; simpa using this
      obtain ⟨b, off, _, e, hc⟩ := hR (by intro e; subst e; simp at hj2)
      rw [hao] at e
      cases e
      have hadd : (⟨b, off, none⟩ : Addr).add j = ⟨b, off + j, none⟩ := by unfold Addr.add; split <;> simp_all
      rw [hadd, hc j hj2]
      simp [hj2, U] at hj
      simp [hj2, ← hj]) (by
      intro u hu
      obtain ⟨x, _, rfl⟩ := List.mem_map.1 hu
      rfl) (by unfold maxLen; omega) (by omega) hlo
    exact ⟨v', w', h1, by rw [List.map_append]; exact h2, h3⟩

/-- An append whose run is known, as a law for the walk. -/
theorem wpList_append_run {w : World} {ops : Array Oper} {rest : List Oper} {o : Oper} {a : Act} {Q : Exit → Act → World → Prop} (hgd : o.guard = none) (s x : Operand)
    (ho : o.op = .call { callee := .builtin .append, args := #[s, x], argTypes := #[27, 27] }) (v u : Value) (hs : a.eval s = v) (hx : a.eval x = u) (v' : Value) (w' : World)
    (hrun : (Builtin.append_ #[27, 27] o.type #[v, u]).run Try.prog w = .ok v' w') (h : wpList Try.prog ops Q rest (a.put o.dst v') w') : wpList Try.prog ops Q (o :: rest) a w := by
  refine wpList_plain hgd fun K hK => ?_
  unfold Oper.wp
  simp [execOp, ho, resolve, invoke, builtin, hs, hx, hrun, Result.andThen]
  exact hK _ _ h

end Go.Proofs.Ytfocdjfnlbendaa

/- Rows of numbers that are kept in a book: what is appended, what stays; the document's Take. -/
namespace Go.Proofs.Ytfocdjfnlbendaa
open Go.RowKit
set_option linter.unusedVariables false
set_option maxRecDepth 20000

/-- A row of numbers. -/
abbrev Rw (lo : Nat) (w : World) (v : Value) (n : Nat) (ys : List Value) : Prop := w.ownsRow lo 41 1 v n ys

/-- All rows of numbers are as they were. -/
def Keep (w w' : World) : Prop := ∀ (g : Nat) (cur : Array Value) (e : TypeId), e ≠ 27 → e ≠ 38 → w.heap[g]? = some (.cells cur e (0, 0)) → w'.heap[g]? = some (.cells cur e (0, 0))

theorem Keep.refl (w : World) : Keep w w := fun _ _ _ _ _ h => h
theorem Keep.trans {a b c : World} (h : Keep a b) (k : Keep b c) : Keep a c := fun g cur t h1 h2 e => k g cur t h1 h2 (h g cur t h1 h2 e)
theorem Keep.row {w w' : World} {lo : Nat} {v : Value} {n : Nat} {ys : List Value} (h : Rw lo w v n ys) (k : Keep w w') : Rw lo w' v n ys := by
  refine ⟨h.1, ?_⟩
  rcases h.2 with hn | ⟨g, cap, cur, rfl, hlo, hg, rest⟩
  · exact .inl hn
  · exact .inr ⟨g, cap, cur, rfl, hlo, k _ _ _ (by decide) (by decide) hg, rest⟩
theorem Keep.below {w w' : World} (h : Below w.heap.size w w') : Keep w w' := fun g cur _ _ _ e => by rw [h.block g (Array.getElem?_eq_some_iff.1 e).1]; exact e

theorem Try.info27 : (Try.prog.info? 27).map (fun i => (i.zero, i.size, i.bytes)) = some (some (.slice none 0 0), 1, 24) := by kernel_rfl

theorem row_other {w w' : World} {lo e s : Nat} {v : Value} {n : Nat} {ys : List Value} (h : w.ownsRow lo e s v n ys) (hb : ∀ g, v.ownBlock = some g → w'.heap[g]? = w.heap[g]?) : w'.ownsRow lo e s v n ys := by
  refine ⟨h.1, ?_⟩
  rcases h.2 with hn | ⟨g, cap, cur, rfl, hlo, hg, rest⟩
  · exact .inl hn
  · refine .inr ⟨g, cap, cur, rfl, hlo, ?_, rest⟩
    rw [hb g rfl]; exact hg

theorem row_set {w : World} {lo g n cap : Nat} {ys : List Value} (h : Rw lo w (.slice (some ⟨g, 0, none⟩) n cap) n ys) (k : Nat) (hk : k < n) (u : Value) :
    Rw lo (w.setCell ⟨g, k, none⟩ u) (.slice (some ⟨g, 0, none⟩) n cap) n (ys.set k u) := by
  refine ⟨by simpa using h.1, ?_⟩
  rcases h.2 with ⟨e, hn⟩ | ⟨g', cap', cur, e, hlo, hg, hnc, hm, hs, ht⟩
  · omega
  · cases e
    refine .inr ⟨g, cap, cur.set! k u, rfl, hlo, ?_, hnc, hm, by simpa using hs, ?_⟩
    · simp only [World.setCell, Array.getElem?_modify, hg]
      simp
    · rw [← ht]
      simp [List.take_set]

theorem row_setOther {w : World} {lo e s : Nat} {v : Value} {n : Nat} {ys : List Value} (h : w.ownsRow lo e s v n ys) (a : Addr) (u : Value) (ha : v.ownBlock ≠ some a.block) : (w.setCell a u).ownsRow lo e s v n ys :=
  row_other h fun g hg => Below.heap_setCell _ _ _ _ (fun e => ha (by rw [hg, e]))

/-- One word appended to a row of numbers: what else there is, and what is shorter in the same row, stays. -/
theorem append_word (w : World) (lo : Nat) (v : Value) (n : Nat) (ys : List Value) (x : Value) (s : Nat) (ty : TypeId) (hown : Rw lo w v n ys) (hx : w.cell? ⟨s, 0, none⟩ = some x) (h1 : x.oneCell' = true)
    (hbig : n + 1 ≤ 17592186044416) (hlo : lo ≤ w.heap.size) :
    ∃ v' w', (Builtin.append_ #[27, 27] ty #[v, .slice (some ⟨s, 0, none⟩) 1 1]).run Try.prog w = .ok v' w' ∧ Rw lo w' v' (n + 1) (ys ++ [x]) ∧ w.grownBy w' v.ownBlock ∧
      (v'.ownBlock = v.ownBlock ∨ ∃ g, v'.ownBlock = some g ∧ w.heap.size ≤ g) ∧ (∀ (u : Value) (k : Nat) (zs : List Value), Rw lo w u k zs → (u.ownBlock = v.ownBlock → k ≤ n) → Rw lo w' u k zs) := by
  obtain ⟨i0, hi, hz0, hz1, hz2⟩ := info_parts Try.info41
  have hnews : ∀ j u, [x][j]? = some u → w.cell? ((⟨s, 0, none⟩ : Addr).add j) = some u := by
    intro j u hj
    match j, hj with
    | 0, hj => simp at hj; subst hj; simpa [Addr.add] using hx
  have h1' : ∀ u ∈ [x], u.oneCell' = true := by intro u hu; simp at hu; subst hu; exact h1
  have keep : ∀ w', w.grownBy w' none → ∀ (u : Value) (k : Nat) (zs : List Value), Rw lo w u k zs → Rw lo w' u k zs := by
    intro w' hg u k zs hr
    rcases hr.2 with hn | ⟨g, cap, cur, rfl, hl, hgb, rest⟩
    · exact ⟨hr.1, .inl hn⟩
    · refine ⟨hr.1, .inr ⟨g, cap, cur, rfl, hl, ?_, rest⟩⟩
      rw [hg.block g (Array.getElem?_eq_some_iff.1 hgb).1 (by simp)]; exact hgb
  have newb : ∀ (v' : Value) (w' : World) (m : Nat) (zs : List Value), w'.ownsRow w.heap.size 41 1 v' (m + 1) zs → ∃ g, v'.ownBlock = some g ∧ w.heap.size ≤ g := by
    intro v' w' m zs h
    rcases h.2 with ⟨_, h0⟩ | ⟨g, cap, cur, rfl, hl, _⟩
    · omega
    · exact ⟨g, rfl, hl⟩
  have mono : ∀ (v' : Value) (w' : World) (m : Nat) (zs : List Value), w'.ownsRow w.heap.size 41 1 v' m zs → Rw lo w' v' m zs := by
    intro v' w' m zs h
    refine ⟨h.1, ?_⟩
    rcases h.2 with hn | ⟨g, cap, cur, rfl, hl, rest⟩
    · exact .inl hn
    · exact .inr ⟨g, cap, cur, rfl, by omega, rest⟩
  rcases hown.2 with ⟨rfl, rfl⟩ | ⟨g, cap, cur, rfl, hlg, hg, hnc, hm, hs, ht⟩
  · obtain ⟨v', w', r1, r2, r3, _, _⟩ := run_append_own_at (P := Try.prog) w w.heap.size 27 ty 41 i0 (.float .f64 0) 1 8 Try.underlying27 hi hz0 hz1 hz2 rfl (by decide) (.slice none 0 0) 0 [] (World.ownsRow_nil _ _ _ _) ⟨s, 0, none⟩ 1 1 [x] rfl hnews h1' (by unfold maxLen; omega) (by omega) (Nat.le_refl _)
    have hy : ys = [] := List.eq_nil_of_length_eq_zero (by simpa using hown.1)
    subst hy
    exact ⟨v', w', r1, mono _ _ _ _ (by simpa using r2), r3, .inr (newb _ _ 0 _ (by simpa using r2)), fun u k zs hr _ => keep _ r3 u k zs hr⟩
  · by_cases hroom : n + 1 ≤ cap
    · have hr := run_append_room (P := Try.prog) w 27 ty 41 i0 Try.underlying27 hi g n cap cur hg ⟨s, 0, none⟩ 1 1 [x] (by rw [hz1]; rfl) hnews h1' hroom (by rw [hz1, hs]; simp; omega)
      rw [hz1] at hr
      refine ⟨_, _, hr, ⟨by simpa using hown.1, .inr ⟨g, cap, _, rfl, hlg, setRow_heap w g cur _ 41 _ hg, hroom, hm, ?_, ?_⟩⟩, ⟨rfl, rfl, rfl, by simp, fun k _ hk => setRow_other w g k _ (fun e => hk (by simp [Value.ownBlock, e]))⟩, .inl rfl, ?_⟩
      · simp only [List.size_toArray, List.length_append, List.length_take, List.length_drop, Array.length_toList, List.length_cons, List.length_nil]
        omega
      · rw [ht]
        have hyl : ys.length = n := by simpa using hown.1
        simp only [Nat.mul_one, List.append_assoc]
        rw [← List.append_assoc]
        rw [List.take_append_of_le_length (by simp [hyl])]
        rw [List.take_of_length_le (by simp [hyl])]
      · intro u k zs hr2 hle
        rcases hr2.2 with hn | ⟨g2, cap2, cur2, rfl, hl2, hg2, hnc2, hm2, hs2, ht2⟩
        · exact ⟨hr2.1, .inl hn⟩
        · by_cases he : g2 = g
          · subst he
            rw [hg] at hg2
            cases hg2
            have hk := hle rfl
            refine ⟨hr2.1, .inr ⟨g2, cap2, _, rfl, hl2, setRow_heap w g2 cur _ 41 _ hg, hnc2, hm2, ?_, ?_⟩⟩
            · simp only [List.size_toArray, List.length_append, List.length_take, List.length_drop, Array.length_toList, List.length_cons, List.length_nil]
              omega
            · have hcl : cur.toList.length = cap2 := by simpa using hs2
              rw [← ht2]
              simp only [Nat.mul_one, List.append_assoc]
              rw [List.take_append_of_le_length (by rw [List.length_take]; omega), List.take_take, Nat.min_eq_left hk]
          · refine ⟨hr2.1, .inr ⟨g2, cap2, cur2, rfl, hl2, ?_, hnc2, hm2, hs2, ht2⟩⟩
            rw [setRow_other w g g2 _ he]; exact hg2
    · obtain ⟨v', w', r1, r2, r3⟩ := run_append_arg_grows (P := Try.prog) w 27 ty 41 i0 (.float .f64 0) 1 8 Try.underlying27 hi hz0 hz1 hz2 rfl (by decide) ⟨g, 0, none⟩ n cap ys (by simpa using hown.1) (fun j u hj => hown.cells (g := g) (by simp [Value.ownBlock]) j u hj) ⟨s, 0, none⟩ 1 1 [x] rfl hnews (by omega) (by unfold maxLen; omega) (by omega)
      exact ⟨v', w', r1, mono _ _ _ _ r2, ⟨r3.os, r3.tape, r3.output, r3.size, fun k hk _ => r3.block k hk (by simp)⟩, .inr (newb _ _ n _ r2), fun u k zs hr _ => keep _ r3 u k zs hr⟩

/-- One Nat appended to a row of lists. -/
theorem append_nat (w : World) (lo : Nat) (v : Value) (n : Nat) (vs : List Value) (x : Value) (s : Nat) (ty : TypeId) (hown : w.ownsRow lo 27 1 v n vs) (hx : w.cell? ⟨s, 0, none⟩ = some x) (h1 : x.oneCell' = true)
    (hbig : n + 1 ≤ 1000000) (hlo : lo ≤ w.heap.size) :
    ∃ g cap w', (Builtin.append_ #[36, 36] ty #[v, .slice (some ⟨s, 0, none⟩) 1 1]).run Try.prog w = .ok (.slice (some ⟨g, 0, none⟩) (n + 1) cap) w' ∧ w'.ownsRow lo 27 1 (.slice (some ⟨g, 0, none⟩) (n + 1) cap) (n + 1) (vs ++ [x]) ∧ w.grownBy w' v.ownBlock ∧ Keep w w' := by
  obtain ⟨i0, hi, hz0, hz1, hz2⟩ := info_parts Try.info27
  have hnews : ∀ j u, [x][j]? = some u → w.cell? ((⟨s, 0, none⟩ : Addr).add j) = some u := by
    intro j u hj
    match j, hj with
    | 0, hj => simp at hj; subst hj; simpa [Addr.add] using hx
  have h1' : ∀ u ∈ [x], u.oneCell' = true := by intro u hu; simp at hu; subst hu; exact h1
  obtain ⟨v', w', r1, r2, r3, _, _⟩ := run_append_own_at (P := Try.prog) w lo 36 ty 27 i0 (.slice none 0 0) 1 24 Try.underlying36 hi hz0 hz1 hz2 rfl (by decide) v n vs hown ⟨s, 0, none⟩ 1 1 [x] rfl hnews h1' (by unfold maxLen; omega) (by omega) hlo
  have hk : Keep w w' := by
    intro g cur te ht1 ht2 hg
    rw [r3.block g (Array.getElem?_eq_some_iff.1 hg).1]
    · exact hg
    · intro e
      rcases hown.2 with ⟨rfl, _⟩ | ⟨g2, cap2, cur2, rfl, _, hg2, _⟩
      · simp [Value.ownBlock] at e
      · simp [Value.ownBlock] at e
        subst e
        rw [hg] at hg2
        cases hg2
        exact ht1 rfl
  rcases r2.2 with ⟨_, h0⟩ | ⟨g, cap, cur, rfl, rest⟩
  · omega
  · exact ⟨g, cap, w', r1, r2, r3, hk⟩

/-- The law for the walk, of whatever slices. -/
theorem wpList_append_run2 {w : World} {ops : Array Oper} {rest : List Oper} {o : Oper} {a : Act} {Q : Exit → Act → World → Prop} (hgd : o.guard = none) (s x : Operand) (t : TypeId)
    (ho : o.op = .call { callee := .builtin .append, args := #[s, x], argTypes := #[t, t] }) (v u : Value) (hs : a.eval s = v) (hx : a.eval x = u) (v' : Value) (w' : World)
    (hrun : (Builtin.append_ #[t, t] o.type #[v, u]).run Try.prog w = .ok v' w') (h : wpList Try.prog ops Q rest (a.put o.dst v') w') : wpList Try.prog ops Q (o :: rest) a w := by
  refine wpList_plain hgd fun K hK => ?_
  unfold Oper.wp
  simp [execOp, ho, resolve, invoke, builtin, hs, hx, hrun, Result.andThen]
  exact hK _ _ h

/-- A book of lists at block h. -/
def Bk (lo : Nat) (w : World) (h : Nat) (vs : List Value) : Prop := lo ≤ h ∧ ∃ v, w.heap[h]? = some (.cells #[v] 38 (0, 0)) ∧ w.ownsRow lo 27 1 v vs.length vs

theorem Bk.made (lo : Nat) (w : World) (hlo : lo ≤ w.heap.size) : Bk lo (w.alloc (.cells #[.slice none 0 0] 38)) w.heap.size [] :=
  ⟨hlo, _, heap_alloc_new w _, World.ownsRow_nil _ _ _ _⟩

set_option maxHeartbeats 1000000 in
theorem take_any (lo h : Nat) (vs : List Value) (ao : Option Addr) (n cap : Nat) (w : World) (hB : Bk lo w h vs) (hlen : vs.length ≤ 1000) (hlo : lo ≤ w.heap.size) :
    Calls Try.prog 16 #[.pointer (some ⟨h, 0, none⟩), .slice ao n cap] w fun r w' => r = .returned (.tuple #[]) ∧ Bk lo w' h (vs ++ [.slice ao n cap]) ∧ Keep w w' ∧ Below lo w w' ∧ w.heap.size ≤ w'.heap.size := by
  obtain ⟨hlh, v, hv, hrow⟩ := hB
  have hhl := (Array.getElem?_eq_some_iff.1 hv).1
  have hc : w.cell? ⟨h, 0, none⟩ = some v := by simp [World.cell?, hv]
  have hrow1 : (w.alloc (.cells #[.slice ao n cap] 27)).ownsRow lo 27 1 v vs.length vs := hrow.alloc _
  obtain ⟨g, cap', w', hap, hown, hgrow, hkeep⟩ := append_nat (w.alloc (.cells #[.slice ao n cap] 27)) lo v vs.length vs (.slice ao n cap) w.heap.size 36 hrow1 (by unfold World.cell?; simp only [heap_alloc_new]; rfl) rfl (by omega) (by simp; omega)
  have hvh : v.ownBlock ≠ some h := by
    intro e
    rcases hrow.2 with ⟨rfl, _⟩ | ⟨g2, cap2, cur2, rfl, _, hg2, _⟩
    · simp [Value.ownBlock] at e
    · simp [Value.ownBlock] at e
      subst e
      rw [hv] at hg2
      cases hg2
  have hh' : w'.heap[h]? = some (.cells #[v] 38 (0, 0)) := by
    rw [hgrow.block h (by simp; omega) (fun e => hvh e.symm), Below.heap_alloc _ _ _ hhl]; exact hv
  have hf' : w'.frozen? ⟨h, 0, none⟩ = false := by simp [World.frozen?, hh']
  have hc' : w'.cell? ⟨h, 0, none⟩ = some v := by simp [World.cell?, hh']
  have hgh : g ≠ h := by
    intro e
    subst e
    rcases hown.2 with ⟨e, _⟩ | ⟨g2, cap2, cur2, e, _, hg2, _⟩
    · cases e
    · cases e
      rw [hh'] at hg2
      cases hg2
  have hbel : Below lo w w' := ((Below.refl lo w).alloc hlo _).grown hgrow (by simp; omega) (fun k hk => by
    rcases hrow.2 with ⟨rfl, _⟩ | ⟨g2, cap2, cur2, rfl, hl2, _⟩
    · simp [Value.ownBlock] at hk
    · simp [Value.ownBlock] at hk; omega)
  have hsz : w.heap.size ≤ w'.heap.size := by have := hgrow.size; simp at this; omega
  have HX := (Aside.intro (And.intro hown (And.intro hkeep (And.intro hh' (And.intro hgh (And.intro hbel (And.intro hlh hsz)))))))
  clear hown hkeep hh' hgh hbel hlh hsz hgrow hvh hrow1 hrow hv hhl
  have HAP := hid hap
  clear hap
  go_enter Try.func16, Try.ntmps16
  go_wp2_with (at_builtin; refine wpList_append_run2 rfl (.tmp 8) (.tmp 10) 36 rfl _ _ rfl rfl _ _ HAP.out ?_)
  go_end0
  obtain ⟨hown, hkeep, hh', hgh, hbel, hlh, hsz⟩ := HX.out
  refine ⟨rfl, ⟨hlh, .slice (some ⟨g, 0, none⟩) (vs.length + 1) cap', ?_, ?_⟩, ?_, ?_, by simpa [World.setCell] using hsz⟩
  · simp only [World.setCell, Array.getElem?_modify, hh']
    simp
  · have h1 := row_setOther hown ⟨h, 0, none⟩ (.slice (some ⟨g, 0, none⟩) (vs.length + 1) cap') (by simp [Value.ownBlock]; exact hgh)
    simpa using h1
  · intro b cur te ht1 ht2 hb
    have h1 : (w.alloc (.cells #[.slice ao n cap] 27)).heap[b]? = some (.cells cur te (0, 0)) := by rw [Below.heap_alloc _ _ _ (Array.getElem?_eq_some_iff.1 hb).1]; exact hb
    have h2 := hkeep b cur te ht1 ht2 h1
    rw [Below.heap_setCell _ _ _ _ (fun e => by
      subst e
      rw [hh'] at h2
      cases h2
      exact ht2 rfl)]
    exact h2
  · exact hbel.trans ⟨rfl, rfl, rfl, by simp [World.setCell], fun k hk => Below.heap_setCell _ _ _ _ (by simp; omega)⟩
end Go.Proofs.Ytfocdjfnlbendaa

/- What Owned keeps to, phase by phase. -/
namespace Go.Proofs.Ytfocdjfnlbendaa
open Go.RowKit
set_option linter.unusedVariables false
set_option maxRecDepth 20000

def slen : Value → Nat
  | .slice _ n _ => n
  | _ => 0
def nth (vs : List Value) (i : Nat) : Value := vs.getD i (.slice none 0 0)

theorem Rw.len {lo : Nat} {w : World} {v : Value} {n : Nat} {ys : List Value} (h : Rw lo w v n ys) : slen v = n := by
  rcases h.2 with ⟨rfl, h0⟩ | ⟨g, cap, cur, rfl, _⟩
  · exact h0.symm
  · rfl

theorem Rw.lt {lo : Nat} {w : World} {v : Value} {n : Nat} {ys : List Value} (h : Rw lo w v n ys) (b : Nat) (hb : v.ownBlock = some b) : lo ≤ b ∧ b < w.heap.size ∧ ∃ cur, w.heap[b]? = some (.cells cur 41 (0, 0)) := by
  rcases h.2 with ⟨rfl, h0⟩ | ⟨g, cap, cur, rfl, hlo, hg, _⟩
  · cases hb
  · cases hb
    exact ⟨hlo, (Array.getElem?_eq_some_iff.1 hg).1, cur, hg⟩

theorem Rw.noneLen {lo : Nat} {w : World} {v : Value} {n : Nat} {ys : List Value} (h : Rw lo w v n ys) (hb : v.ownBlock = none) : n = 0 := by
  rcases h.2 with ⟨rfl, h0⟩ | ⟨g, cap, cur, rfl, _⟩
  · exact h0
  · cases hb

theorem Rw.alloc' {lo e : Nat} {w : World} {v : Value} {n : Nat} {ys : List Value} (h : w.ownsRow lo e 1 v n ys) (o : Obj) : (w.alloc o).ownsRow lo e 1 v n ys := h.alloc o

theorem Rw.mono' {lo lo' e : Nat} {w : World} {v : Value} {n : Nat} {ys : List Value} (h : w.ownsRow lo e 1 v n ys) (hl : lo' ≤ lo) : w.ownsRow lo' e 1 v n ys := by
  refine ⟨h.1, ?_⟩
  rcases h.2 with hn | ⟨g, cap, cur, rfl, hlo, rest⟩
  · exact .inl hn
  · exact .inr ⟨g, cap, cur, rfl, by omega, rest⟩

/-- lists of one's own, in rows apart. -/
structure Nice (lo : Nat) (w : World) (vs : List Value) : Prop where
  rows : ∀ i, i < vs.length → ∃ ys, Rw lo w (nth vs i) (slen (nth vs i)) ys
  small : ∀ i, i < vs.length → slen (nth vs i) ≤ 17592186043904
  apart : ∀ i j, i < vs.length → j < vs.length → i ≠ j → ∀ b, (nth vs i).ownBlock = some b → (nth vs j).ownBlock ≠ some b

def mrk (i : Nat) : Value := .float .f64 (floatOfInt .f64 (1000 + (i : Int)))

theorem mrk_ord (q : Nat) (h : q ≤ 100) : FloatKind.f64.format.order (floatOfInt .f64 (1000 + (q : Int))) (floatOfInt .f64 (1000 + (q : Int))) = some .eq := by
  have h1 : ∀ j : _root_.Fin 101, FloatKind.f64.format.order (floatOfInt .f64 (1000 + (j.val : Int))) (floatOfInt .f64 (1000 + (j.val : Int))) = some .eq := by decide +kernel
  exact h1 ⟨q, by omega⟩

/-- Phase 1: k numbers of Nat i are written, and all of the lists ahead of it. -/
structure P1 (lo h : Nat) (v : Value) (vs : List Value) (w : World) (i k : Nat) (wr : World) : Prop where
  book : wr.heap[h]? = some (.cells #[v] 38 (0, 0))
  list : wr.ownsRow lo 27 1 v vs.length vs
  below : Below lo w wr
  size : wr.heap.size = w.heap.size
  rows : ∀ j, j < vs.length → ∃ ys, Rw lo wr (nth vs j) (slen (nth vs j)) ys ∧ (j < i → ys = List.replicate (slen (nth vs j)) (mrk j)) ∧ (j = i → ys.take k = List.replicate k (mrk i))

theorem P1.start {lo h : Nat} {v : Value} {vs : List Value} {w : World} (hv : w.heap[h]? = some (.cells #[v] 38 (0, 0))) (hl : w.ownsRow lo 27 1 v vs.length vs) (hN : Nice lo w vs) : P1 lo h v vs w 0 0 w :=
  ⟨hv, hl, Below.refl _ _, rfl, fun j hj => by
    obtain ⟨ys, hy⟩ := hN.rows j hj
    exact ⟨ys, hy, fun h => absurd h (by omega), fun _ => by simp⟩⟩

theorem P1.next {lo h : Nat} {v : Value} {vs : List Value} {w wr : World} {i : Nat} (H : P1 lo h v vs w i (slen (nth vs i)) wr) : P1 lo h v vs w (i + 1) 0 wr :=
  ⟨H.book, H.list, H.below, H.size, fun j hj => by
    obtain ⟨ys, hy, a, b⟩ := H.rows j hj
    refine ⟨ys, hy, fun h => ?_, fun _ => by simp⟩
    by_cases e : j = i
    · subst e
      have h1 := b rfl
      have hl : ys.length = slen (nth vs j) := by simpa using hy.1
      rwa [← hl, List.take_length, hl] at h1
    · exact a (by omega)⟩

theorem P1.step {lo h : Nat} {v : Value} {vs : List Value} {w wr : World} {i k g n cap : Nat} (H : P1 lo h v vs w i k wr) (hN : Nice lo w vs) (hi : i < vs.length) (hV : nth vs i = .slice (some ⟨g, 0, none⟩) n cap) (hk : k < n) :
    P1 lo h v vs w i (k + 1) (wr.setCell ⟨g, k, none⟩ (mrk i)) := by
  obtain ⟨ys0, hy0, _, _⟩ := H.rows i hi
  obtain ⟨hlg, _, cur, hcur⟩ := hy0.lt g (by rw [hV]; rfl)
  have hgh : h ≠ g := by intro e; subst e; rw [H.book] at hcur; cases hcur
  have hvg : v.ownBlock ≠ some g := by
    intro e
    rcases H.list.2 with ⟨rfl, _⟩ | ⟨g2, cap2, cur2, rfl, _, hg2, _⟩
    · cases e
    · cases e; rw [hcur] at hg2; cases hg2
  refine ⟨?_, row_setOther H.list _ _ hvg, H.below.trans ⟨rfl, rfl, rfl, by simp [World.setCell], fun b hb => Below.heap_setCell _ _ _ _ (by simp; omega)⟩, by simpa [World.setCell] using H.size, fun j hj => ?_⟩
  · rw [Below.heap_setCell _ _ _ _ hgh]; exact H.book
  · obtain ⟨ys, hy, a, b⟩ := H.rows j hj
    by_cases e : j = i
    · subst e
      rw [hV] at hy ⊢
      have h1 := row_set hy k hk (mrk j)
      have hl : ys.length = n := by simpa [slen] using hy.1
      refine ⟨ys.set k (mrk j), h1, fun h => absurd h (by omega), fun _ => ?_⟩
      rw [List.take_succ_eq_append_getElem (by simp; omega), List.take_set_of_le (Nat.le_refl _), b rfl, List.replicate_succ']
      simp
    · refine ⟨ys, row_setOther hy _ _ (fun e2 => hN.apart i j hi hj (fun e3 => e e3.symm) g (by rw [hV]; rfl) e2), a, fun h => absurd h e⟩

/-- Phase 2, ahead of Nat i: what stands in the list, and what is still to come. -/
structure P2 (lo h : Nat) (v : Value) (vs : List Value) (w : World) (i c d : Nat) (av : Value) (es : List Value) (x : Value) (wr : World) : Prop where
  book : wr.heap[h]? = some (.cells #[v] 38 (0, 0))
  list : wr.ownsRow lo 27 1 v vs.length vs
  below : Below lo w wr
  size : w.heap.size ≤ wr.heap.size
  all : wr.ownsRow w.heap.size 27 1 av es.length es
  len : es.length = 5 * i + d
  come : ∀ j, i < j → j < vs.length → Rw lo wr (nth vs j) (slen (nth vs j)) (List.replicate (slen (nth vs j)) (mrk j))
  old : ∀ j, j < es.length → Rw lo wr (nth es j) (slen (nth es j)) (List.replicate (slen (nth es j)) (mrk (j / 5)))
  row : Rw lo wr x (slen x) (List.replicate (slen x) (mrk i))
  more : slen x = slen (nth vs i) + c
  less : ∀ j, j < es.length → (nth es j).ownBlock = x.ownBlock → slen (nth es j) ≤ slen x
  off : ∀ j, i < j → j < vs.length → ∀ b, (nth vs j).ownBlock = some b → x.ownBlock ≠ some b ∧ ∀ k, k < es.length → (nth es k).ownBlock ≠ some b

/-- Between two lists. -/
structure P2o (lo h : Nat) (v : Value) (vs : List Value) (w : World) (i : Nat) (av : Value) (es : List Value) (wr : World) : Prop where
  book : wr.heap[h]? = some (.cells #[v] 38 (0, 0))
  list : wr.ownsRow lo 27 1 v vs.length vs
  below : Below lo w wr
  size : w.heap.size ≤ wr.heap.size
  all : wr.ownsRow w.heap.size 27 1 av es.length es
  len : es.length = 5 * i
  come : ∀ j, i ≤ j → j < vs.length → Rw lo wr (nth vs j) (slen (nth vs j)) (List.replicate (slen (nth vs j)) (mrk j))
  old : ∀ j, j < es.length → Rw lo wr (nth es j) (slen (nth es j)) (List.replicate (slen (nth es j)) (mrk (j / 5)))
  off : ∀ j, i ≤ j → j < vs.length → ∀ b, (nth vs j).ownBlock = some b → ∀ k, k < es.length → (nth es k).ownBlock ≠ some b

theorem P2o.start {lo h : Nat} {v : Value} {vs : List Value} {w wr : World} (H : P1 lo h v vs w vs.length 0 wr) : P2o lo h v vs w 0 (.slice none 0 0) [] wr :=
  ⟨H.book, H.list, H.below, by rw [H.size]; exact Nat.le_refl _, World.ownsRow_nil _ _ _ _, rfl, fun j _ hj => by
    obtain ⟨ys, hy, a, _⟩ := H.rows j hj
    rw [← a hj]; exact hy, fun j hj => absurd hj (by simp), fun _ _ _ _ _ k hk => absurd hk (by simp)⟩

theorem P2o.enter {lo h : Nat} {v : Value} {vs : List Value} {w wr : World} {i : Nat} {av : Value} {es : List Value} (H : P2o lo h v vs w i av es wr) (hN : Nice lo w vs) (hi : i < vs.length) :
    P2 lo h v vs w i 0 0 av es (nth vs i) wr :=
  ⟨H.book, H.list, H.below, H.size, H.all, H.len, fun j h1 h2 => H.come j (by omega) h2, H.old, H.come i (Nat.le_refl _) hi, rfl, fun j hj e => by
    rcases hb : (nth vs i).ownBlock with _ | b
    · rw [hb] at e
      have := (H.old j hj).noneLen e
      omega
    · rw [hb] at e
      exact absurd e (H.off i (Nat.le_refl _) hi b hb j hj), fun j h1 h2 b hb => ⟨fun e => hN.apart i j hi h2 (by omega) b e hb, H.off j (by omega) h2 b hb⟩⟩

theorem P2.leave {lo h : Nat} {v : Value} {vs : List Value} {w wr : World} {i : Nat} {av x : Value} {es : List Value} {c : Nat} (H : P2 lo h v vs w i c 5 av es x wr) : P2o lo h v vs w (i + 1) av es wr :=
  ⟨H.book, H.list, H.below, H.size, H.all, by rw [H.len]; omega, fun j h1 h2 => H.come j (by omega) h2, H.old, fun j h1 h2 b hb => (H.off j (by omega) h2 b hb).2⟩

theorem nth_append_lt (es : List Value) (x : Value) (j : Nat) (h : j < es.length) : nth (es ++ [x]) j = nth es j := by
  simp [nth, List.getD_eq_getElem?_getD, List.getElem?_append_left h]
theorem nth_append_eq (es : List Value) (x : Value) : nth (es ++ [x]) es.length = x := by
  simp [nth, List.getD_eq_getElem?_getD]

/-- The list takes the Nat. -/
theorem P2.take {lo h : Nat} {v : Value} {vs : List Value} {w wr w' : World} {i c d : Nat} {av av' x : Value} {es : List Value} (H : P2 lo h v vs w i c d av es x wr) (hd : d < 5) (hlo : lo ≤ w.heap.size) (hh : h < w.heap.size) (hvl : ∀ b, v.ownBlock = some b → b < w.heap.size) (o : Obj)
    (hown : w'.ownsRow w.heap.size 27 1 av' (es.length + 1) (es ++ [x])) (hgrow : (wr.alloc o).grownBy w' av.ownBlock) (hkeep : Keep (wr.alloc o) w') :
    P2 lo h v vs w i c (d + 1) av' (es ++ [x]) x w' := by
  have hs := H.size
  have hav : ∀ b, av.ownBlock = some b → w.heap.size ≤ b := by
    intro b hb
    rcases H.all.2 with ⟨rfl, _⟩ | ⟨g, cap, cur, rfl, hl, _⟩
    · cases hb
    · cases hb; exact hl
  have hblk : ∀ b, b < w.heap.size → w'.heap[b]? = wr.heap[b]? := by
    intro b hb
    rw [hgrow.block b (by simp; omega) (fun e => by have := hav b e.symm; omega), Below.heap_alloc _ _ _ (by omega)]
  have hk : Keep wr w' := Keep.trans (fun g cur _ _ _ e => by rw [Below.heap_alloc _ _ _ (Array.getElem?_eq_some_iff.1 e).1]; exact e) hkeep
  refine ⟨by rw [hblk h hh]; exact H.book, row_other H.list (fun g hg => hblk g (hvl g hg)), ?_, by have := hgrow.size; simp at this; omega, by simpa using hown, by simp [H.len]; omega, fun j h1 h2 => Keep.row (H.come j h1 h2) hk, ?_, Keep.row H.row hk, H.more, ?_, ?_⟩
  · exact ((H.below.alloc (by omega) o).grown hgrow (by simp; omega) (fun k hk => by have := hav k hk; omega))
  · intro j hj
    by_cases e : j = es.length
    · subst e
      rw [nth_append_eq, show es.length / 5 = i by rw [H.len]; omega]
      exact Keep.row H.row hk
    · simp at hj
      rw [nth_append_lt _ _ _ (by omega)]
      exact Keep.row (H.old j (by omega)) hk
  · intro j hj e2
    by_cases e : j = es.length
    · subst e
      rw [nth_append_eq]; exact Nat.le_refl _
    · simp at hj
      rw [nth_append_lt _ _ _ (by omega)] at e2 ⊢
      exact H.less j (by omega) e2
  · intro j h1 h2 b hb
    obtain ⟨a1, a2⟩ := H.off j h1 h2 b hb
    refine ⟨a1, fun k hk2 => ?_⟩
    by_cases e : k = es.length
    · subst e
      rw [nth_append_eq]; exact a1
    · simp at hk2
      rw [nth_append_lt _ _ _ (by omega)]
      exact a2 k (by omega)

/-- The Nat grows by a number. -/
theorem P2.grow {lo h : Nat} {v : Value} {vs : List Value} {w wr w' : World} {i c d : Nat} {av x x' : Value} {es : List Value} (H : P2 lo h v vs w i c d av es x wr) (hlo : lo ≤ w.heap.size) (o : Obj)
    (hown : Rw lo w' x' (slen x + 1) (List.replicate (slen x) (mrk i) ++ [mrk i])) (hgrow : (wr.alloc o).grownBy w' x.ownBlock) (hpl : x'.ownBlock = x.ownBlock ∨ ∃ g, x'.ownBlock = some g ∧ (wr.alloc o).heap.size ≤ g)
    (hkeep : ∀ (u : Value) (k : Nat) (zs : List Value), Rw lo (wr.alloc o) u k zs → (u.ownBlock = x.ownBlock → k ≤ slen x) → Rw lo w' u k zs) :
    P2 lo h v vs w i (c + 1) d av es x' w' := by
  have hs := H.size
  have hl' := hown.len
  have hxb : ∀ b, x.ownBlock = some b → ∃ cur, wr.heap[b]? = some (.cells cur 41 (0, 0)) := fun b hb => (H.row.lt b hb).2.2
  have hblk : ∀ b, b < wr.heap.size → x.ownBlock ≠ some b → w'.heap[b]? = wr.heap[b]? := by
    intro b hb hx
    rw [hgrow.block b (by simp; omega) (fun e => hx e.symm), Below.heap_alloc _ _ _ hb]
  have hnb : ∀ b, wr.heap[b]? = some (.cells #[v] 38 (0, 0)) → x.ownBlock ≠ some b := by
    intro b hb e
    obtain ⟨cur, hc⟩ := hxb b e
    rw [hb] at hc; cases hc
  have hrow24 : ∀ (l : Nat) (u : Value) (n : Nat) (zs : List Value), wr.ownsRow l 27 1 u n zs → w'.ownsRow l 27 1 u n zs := by
    intro l u n zs hr
    refine row_other hr fun g hg => ?_
    rcases hr.2 with ⟨rfl, _⟩ | ⟨g2, cap, cur, rfl, _, hg2, _⟩
    · cases hg
    · cases hg
      refine hblk g2 (Array.getElem?_eq_some_iff.1 hg2).1 (fun e => ?_)
      obtain ⟨cur', hc⟩ := hxb g2 e
      rw [hg2] at hc; cases hc
  have hlow : ∀ b, x.ownBlock = some b → lo ≤ b := fun b hb => (H.row.lt b hb).1
  refine ⟨by rw [hblk h (Array.getElem?_eq_some_iff.1 H.book).1 (hnb h H.book)]; exact H.book, hrow24 _ _ _ _ H.list, ?_, by have := hgrow.size; simp at this; omega, hrow24 _ _ _ _ H.all, H.len, ?_, ?_, ?_, by rw [hl', H.more]; omega, ?_, ?_⟩
  · exact ((H.below.alloc (by omega) o).grown hgrow (by simp; omega) hlow)
  · intro j h1 h2
    refine hkeep _ _ _ ((H.come j h1 h2).alloc o) (fun e => ?_)
    rcases hb : (nth vs j).ownBlock with _ | b
    · have := (H.come j h1 h2).noneLen hb
      omega
    · exact absurd (by rw [← e, hb]) (H.off j h1 h2 b hb).1
  · intro j hj
    exact hkeep _ _ _ ((H.old j hj).alloc o) (fun e => H.less j hj e)
  · rw [hl', List.replicate_succ']
    exact hown
  · intro j hj e
    rw [hl']
    rcases hpl with h1 | ⟨g, h1, h2⟩
    · have := H.less j hj (e.trans h1); omega
    · have := (H.old j hj).lt g (e.trans h1)
      simp at h2
      omega
  · intro j h1 h2 b hb
    obtain ⟨a1, a2⟩ := H.off j h1 h2 b hb
    refine ⟨?_, a2⟩
    rcases hpl with h3 | ⟨g, h3, h4⟩
    · rw [h3]; exact a1
    · rw [h3]
      intro e
      cases e
      have := (H.come j h1 h2).lt _ hb
      simp at h4
      omega
end Go.Proofs.Ytfocdjfnlbendaa

/- The document's Owned. -/
namespace Go.Proofs.Ytfocdjfnlbendaa
open Go.RowKit
set_option linter.unusedVariables false
set_option maxRecDepth 20000

theorem list_shape {lo : Nat} {w : World} {v : Value} {vs : List Value} (h : w.ownsRow lo 27 1 v vs.length vs) (hm : 0 < vs.length) :
    ∃ g cap, v = .slice (some ⟨g, 0, none⟩) vs.length cap ∧ vs.length ≤ cap := by
  rcases h.2 with ⟨_, h0⟩ | ⟨g, cap, cur, rfl, _, _, hn, _⟩
  · omega
  · exact ⟨g, cap, rfl, hn⟩

theorem list_cell {lo : Nat} {w : World} {g n cap : Nat} {vs : List Value} (h : w.ownsRow lo 27 1 (.slice (some ⟨g, 0, none⟩) n cap) vs.length vs) (i : Nat) (hi : i < vs.length) : w.cell? ⟨g, i, none⟩ = some (nth vs i) := by
  have h1 := h.cells (g := g) (by simp [Value.ownBlock]) i (nth vs i) (by simp [nth, hi])
  have e : (⟨g, 0, none⟩ : Addr).add i = ⟨g, i, none⟩ := by unfold Addr.add; split <;> simp_all
  rw [e] at h1
  exact h1

theorem Rw.cell {lo : Nat} {w : World} {g n cap : Nat} {ys : List Value} (h : Rw lo w (.slice (some ⟨g, 0, none⟩) n cap) n ys) (k : Nat) (u : Value) (hk : ys[k]? = some u) : w.cell? ⟨g, k, none⟩ = some u := by
  have h1 := h.cells (g := g) (by simp [Value.ownBlock]) k u hk
  have e : (⟨g, 0, none⟩ : Addr).add k = ⟨g, k, none⟩ := by unfold Addr.add; split <;> simp_all
  rw [e] at h1
  exact h1

theorem Rw.frozen {lo : Nat} {w : World} {g n cap : Nat} {ys : List Value} (h : Rw lo w (.slice (some ⟨g, 0, none⟩) n cap) n ys) (k : Nat) : w.frozen? ⟨g, k, none⟩ = false := by
  rcases h.2 with ⟨e, _⟩ | ⟨g2, cap2, cur2, e, _, hg2, _⟩
  · cases e
  · cases e
    simp [World.frozen?, hg2]

theorem Rw.shape {lo : Nat} {w : World} {v : Value} {n : Nat} {ys : List Value} (h : Rw lo w v n ys) : ∃ ao cap, v = .slice ao n cap ∧ n ≤ cap ∧ cap ≤ maxLen ∧ (0 < n → ∃ g, ao = some ⟨g, 0, none⟩) := by
  rcases h.2 with ⟨rfl, h0⟩ | ⟨g, cap, cur, rfl, _, _, hn, hm, _⟩
  · exact ⟨none, 0, by rw [h0], by omega, by unfold maxLen; omega, fun h => absurd h (by omega)⟩
  · exact ⟨_, cap, rfl, hn, hm, fun _ => ⟨g, rfl⟩⟩

theorem st_float5 {P : Program} {w : World} (a : Addr) (k : FloatKind) (n : Nat) (m : Mode) : (store a (.float k n) m).run P w = stored P w a (.float k n) m := run_store P w a _ m rfl
attribute [local go_sem] st_float5

set_option maxHeartbeats 4000000 in
set_option maxRecDepth 100000 in
theorem owned_any (lo h : Nat) (vs : List Value) (w : World) (hB : Bk lo w h vs) (hN : Nice lo w vs) (hm : 0 < vs.length) (hm2 : vs.length ≤ 100) (hlo : lo ≤ w.heap.size) :
    Calls Try.prog 17 #[.pointer (some ⟨h, 0, none⟩)] w fun r w' => r = .returned (.bool true) ∧ Below lo w w' := by
  obtain ⟨hlh, v, hv, hrow⟩ := hB
  have hhl := (Array.getElem?_eq_some_iff.1 hv).1
  obtain ⟨gv, capv, rfl, hcapv⟩ := list_shape hrow hm
  have hvl : ∀ b, (Value.slice (some ⟨gv, 0, none⟩) vs.length capv).ownBlock = some b → b < w.heap.size := by
    intro b hb
    rcases hrow.2 with ⟨e, _⟩ | ⟨g2, cap2, cur2, e, _, hg2, _⟩
    · cases e
    · cases e; cases hb; exact (Array.getElem?_eq_some_iff.1 hg2).1
  have H0 := P1.start hv hrow hN
  obtain ⟨m, hmm⟩ : ∃ m, vs.length = m := ⟨_, rfl⟩
  have HX := (Aside.intro (And.intro hlh (And.intro hlo (And.intro hhl (And.intro hvl (And.intro hN (And.intro hmm H0)))))))
  rw [hmm] at hm hm2 hcapv
  clear hlh hlo hhl hvl hN hv hrow H0
  go_enter Try.func17, Try.ntmps17
  go_wp2
  go_loopg [3] m (fun gk iv wr => ∃ (i : Nat), gk + i = m ∧ iv = .int .i64 (i : Nat) ∧ Aside (P1 lo h (.slice (some ⟨gv, 0, none⟩) vs.length capv) vs w i 0 wr))
  case atStart => exact ⟨0, by omega, rfl, HX.out.2.2.2.2.2.2⟩
  case round =>
    obtain ⟨i, hi, rfl, HA⟩ := hrel
    have hcb : wr.cell? ⟨h, 0, none⟩ = some (.slice (some ⟨gv, 0, none⟩) vs.length capv) := by simp [World.cell?, HA.out.book]
    rw [hmm] at hcb
    by_cases him : i = m
    · obtain rfl : gk = 0 := by omega
      have him2 : m = i := him.symm
      have H2 : Aside (P2o lo h (.slice (some ⟨gv, 0, none⟩) vs.length capv) vs w 0 (.slice none 0 0) [] wr) := by
        have h1 := HA.out
        rw [him, ← hmm] at h1
        exact P2o.start h1
      clear HA hi him
      subst him2
      go_wp2
      clear hcb
      go_loopg [5, 6] m (fun gk av iv w2 => ∃ (i : Nat) (es : List Value), gk + i = m ∧ iv = .int .i64 (i : Nat) ∧ Aside (P2o lo h (.slice (some ⟨gv, 0, none⟩) vs.length capv) vs w i av es w2))
      case atStart => exact ⟨0, [], by omega, rfl, H2⟩
      case round =>
        obtain ⟨i, es, hi, rfl, HA⟩ := hrel
        clear H2
        have hcb : wr.cell? ⟨h, 0, none⟩ = some (.slice (some ⟨gv, 0, none⟩) vs.length capv) := by simp [World.cell?, HA.out.book]
        rw [hmm] at hcb
        by_cases him : i = m
        · obtain rfl : gk = 0 := by omega
          have hel : es.length = 5 * m := by rw [HA.out.len, him]
          obtain ⟨ga, capa, hav, hcapa⟩ := list_shape HA.out.all (by omega)
          rw [hel] at hav hcapa
          subst hav
          have HA2 := HA
          have him2 : m = i := him.symm
          clear HA him hi
          subst him2
          obtain ⟨W3, hW3⟩ : ∃ W, W = wr := ⟨_, rfl⟩
          go_wp2
          go_loopg [9] (5 * m) (fun gk jv w3 => ∃ (j : Nat), gk + j = 5 * m ∧ jv = .int .i64 (j : Nat) ∧ w3 = W3)
          case atStart => exact ⟨0, by omega, rfl, hW3.symm⟩
          case round =>
            obtain ⟨j, hj, rfl, rfl⟩ := hrel
            subst hW3
            by_cases hjm : j = 5 * m
            · obtain rfl : gk = 0 := by omega
              have hjm2 : (j : Int) = 5 * (m : Int) := by omega
              go_wp2
              go_ret
              exact ⟨rfl, HA2.out.below⟩
            · have hjl : j < 5 * m := by omega
              have hcj := list_cell HA2.out.all j (by omega)
              have hold := HA2.out.old j (by omega)
              obtain ⟨ao, cap, hsh, hnc, hcm, hg⟩ := hold.shape
              obtain ⟨n, hn⟩ : ∃ n, slen (nth es j) = n := ⟨_, rfl⟩
              obtain ⟨q, hq⟩ : ∃ q, j / 5 = q := ⟨_, rfl⟩
              have hq2 : (j : Int) / 5 = (q : Int) := by omega
              have hq3 : q ≤ 100 := by omega
              rw [hn] at hsh hnc hg hold
              rw [hq] at hold
              rw [hsh] at hcj hold
              have HO := hid hold
              clear hold hsh hn hq
              unfold maxLen at hcm
              go_wp2
              go_loopg [10] n (fun gk kv w3 => ∃ (k : Nat), gk + k = n ∧ kv = .int .i64 (k : Nat) ∧ w3 = wr)
              case atStart => exact ⟨0, by omega, rfl, rfl⟩
              case round =>
                obtain ⟨k, hk, rfl, rfl⟩ := hrel
                by_cases hkn : k = n
                · obtain rfl : gk = 0 := by omega
                  subst hkn
                  go_wp2
                  go_roundg (5 * m - (j + 1))
                  case measure => omega
                  case rel => exact ⟨j + 1, by omega, by first | go_num | (congr 1; omega), rfl⟩
                · have hkl : k < n := by omega
                  obtain ⟨g, rfl⟩ := hg (by omega)
                  have hck := Rw.cell HO.out k (mrk q) (by simp [hkl])
                  unfold mrk at hck
                  have hord := mrk_ord q hq3
                  obtain ⟨mq, hmq⟩ : ∃ mq, floatOfInt .f64 (1000 + (q : Int)) = mq := ⟨_, rfl⟩
                  rw [hmq] at hck hord
                  go_wp2
                  go_roundg (gk - 1)
                  case measure => omega
                  case rel => exact ⟨k + 1, by omega, by first | go_num | (congr 1; omega), rfl⟩
        · have hil : i < m := by omega
          have hil2 : i < vs.length := by omega
          have hcv := list_cell HA.out.list i hil2
          obtain ⟨hlh, hlo, hhl, hvl, hN, _, _⟩ := HX.out
          obtain ⟨ao, cap, hsh, hnc, hcm, hg⟩ := (HA.out.come i (Nat.le_refl _) hil2).shape
          obtain ⟨n, hn⟩ : ∃ n, slen (nth vs i) = n := ⟨_, rfl⟩
          have HS : Aside (slen (nth vs i) ≤ 17592186043904) := hN.small i hil2
          have HE : Aside (P2 lo h (.slice (some ⟨gv, 0, none⟩) vs.length capv) vs w i 0 0 u5 es (nth vs i) wr) := P2o.enter HA.out hN hil2
          rw [hn] at hsh hnc
          rw [hsh] at hcv
          have hsh2 := Aside.intro hsh
          clear hlh hlo hhl hvl hN hsh hn HA hg
          unfold maxLen at hcm
          go_wp2
          go_loopg [5, 7, 8] 5 (fun gk av xv kv w2 => ∃ (c : Nat) (es : List Value), gk + c = 5 ∧ kv = .int .i64 (c : Nat) ∧ Aside (P2 lo h (.slice (some ⟨gv, 0, none⟩) vs.length capv) vs w i c c av es xv w2))
          case atStart => exact ⟨0, es, by omega, rfl, by rw [← hsh2.out]; exact HE⟩
          case round =>
            obtain ⟨c, es, hc, rfl, HA⟩ := hrel
            clear hcb hcv HE
            by_cases hc5 : c = 5
            · obtain rfl : gk = 0 := by omega
              subst hc5
              have HL := Aside.intro (P2.leave HA.out)
              clear HA
              go_wp2
              go_roundg (m - (i + 1))
              case measure => omega
              case rel => exact ⟨i + 1, _, by omega, by first | go_num | (congr 1; omega), HL⟩
            · have hcl : c < 5 := by omega
              obtain ⟨hlh, hlo, hhl, hvl, hN, _, _⟩ := HX.out
              obtain ⟨ao, cap, hsh, _, _, _⟩ := HA.out.row.shape
              obtain ⟨n, hn⟩ : ∃ n, slen u7 = n := ⟨_, rfl⟩
              have hns : n ≤ 17592186043909 := by have h1 := HA.out.more; have h2 := HS.out; omega
              rw [hn] at hsh
              have H1 := HA.out
              subst hsh
              obtain ⟨ga, capa, w1, hap1, hown1, hgrow1, hkeep1⟩ := append_nat (wr.alloc (.cells #[.slice ao n cap] 27)) w.heap.size u5 es.length es (.slice ao n cap) wr.heap.size 36 (H1.all.alloc _) (by unfold World.cell?; simp only [heap_alloc_new]; rfl) rfl (by have := H1.len; omega) (by have := H1.size; simp; omega)
              have H3 := P2.take H1 hcl hlo hhl hvl _ hown1 hgrow1 hkeep1
              obtain ⟨x', w2, hap2, hown2, hgrow2, hpl2, hkeep2⟩ := append_word (w1.alloc (.cells #[mrk i] 41)) lo (.slice ao n cap) n (List.replicate n (mrk i)) (mrk i) w1.heap.size 27 (H3.row.alloc _) (by unfold World.cell?; simp only [heap_alloc_new]; rfl) rfl (by omega) (by have := H3.size; simp; omega)
              have H4 := Aside.intro (P2.grow H3 hlo _ hown2 hgrow2 hpl2 hkeep2)
              unfold mrk at hap2
              have HAP1 := hid hap1
              have HAP2 := hid hap2
              clear hap1 hap2 hown1 hgrow1 hkeep1 H3 hown2 hgrow2 hpl2 hkeep2 H1 HA hlh hlo hhl hvl hN hc5
              go_wp2_with (first | (at_builtin; refine wpList_append_run2 rfl (.tmp 64) (.tmp 66) 36 rfl _ _ rfl rfl _ _ HAP1.out ?_) | (at_builtin; refine wpList_append_run2 rfl (.tmp 68) (.tmp 72) 27 rfl _ _ rfl rfl _ _ HAP2.out ?_))
              go_roundg (gk - 1)
              case measure => omega
              case rel => exact ⟨c + 1, _, by omega, by first | go_num | (congr 1; omega), H4⟩
    · have hil : i < m := by omega
      have hil2 : i < vs.length := by omega
      obtain ⟨ys, hy, _, _⟩ := HA.out.rows i hil2
      obtain ⟨ao, cap, hsh, hnc, hcm, hg⟩ := hy.shape
      obtain ⟨n, hn⟩ : ∃ n, slen (nth vs i) = n := ⟨_, rfl⟩
      have hns : n ≤ 17592186043904 := hn ▸ HX.out.2.2.2.2.1.small i hil2
      rw [hn] at hsh hnc hg
      clear hy
      go_wp2
      go_loopg [4] n (fun gk2 kv w2 => ∃ (k : Nat), gk2 + k = n ∧ kv = .int .i64 (k : Nat) ∧ Aside (P1 lo h (.slice (some ⟨gv, 0, none⟩) vs.length capv) vs w i k w2))
      case atStart => exact ⟨0, by omega, rfl, HA.out⟩
      case round =>
        obtain ⟨k, hk, rfl, HB⟩ := hrel
        have hcb2 : wr.cell? ⟨h, 0, none⟩ = some (.slice (some ⟨gv, 0, none⟩) vs.length capv) := by simp [World.cell?, HB.out.book]
        have hcv := list_cell HB.out.list i hil2
        rw [hsh] at hcv
        rw [hmm] at hcb2
        by_cases hkn : k = n
        · obtain rfl : gk = 0 := by omega
          have HC : Aside (P1 lo h (.slice (some ⟨gv, 0, none⟩) vs.length capv) vs w (i + 1) 0 wr) := by
            have h1 := HB.out
            rw [hkn, ← hn] at h1
            exact P1.next h1
          clear hn hsh hmm hcb
          subst hkn
          go_wp2
          go_roundg (m - (i + 1))
          case measure => omega
          case rel => exact ⟨i + 1, by omega, by first | go_num | (congr 1; omega), HC⟩
        · have hkl : k < n := by omega
          obtain ⟨g, rfl⟩ := hg (by omega)
          obtain ⟨ys2, hy2, _, _⟩ := HB.out.rows i hil2
          rw [hsh] at hy2
          have hl2 : ys2.length = n := by simpa [slen] using hy2.1
          obtain ⟨yk, hyk⟩ : ∃ y, ys2[k]? = some y := ⟨ys2[k]'(by omega), by simp⟩
          have hgc := Rw.cell hy2 k yk hyk
          have hgf := Rw.frozen hy2 k
          have HC : Aside (P1 lo h (.slice (some ⟨gv, 0, none⟩) vs.length capv) vs w i (k + 1) (wr.setCell ⟨g, k, none⟩ (mrk i))) := P1.step HB.out HX.out.2.2.2.2.1 hil2 hsh hkl
          clear hy2 hyk hn hsh hmm hcb hkn him
          go_wp2
          go_roundg (gk - 1)
          case measure => omega
          case rel =>
            refine ⟨k + 1, by omega, by first | go_num | (congr 1; omega), ?_⟩
            exact HC
end Go.Proofs.Ytfocdjfnlbendaa

/- Plain facts on the numbers of a format of IEEE 754, by rungs: their values rise, words are in the order of their signed rungs, what is a number of the format is written as that number, sums that are numbers are exact. No condition but what each theorem names. -/
namespace Go.Proofs.Ytfocdjfnlbendaa.B
set_option linter.unusedVariables false
set_option maxRecDepth 20000
open Ieee

def val (f : Format) (r : Nat) : Nat := if r < f.binade then r else (f.binade + r % f.binade) * 2 ^ (r / f.binade - 1)

theorem binade_pos (f : Format) : 0 < f.binade := Nat.two_pow_pos _

theorem val_succ (f : Format) (r : Nat) : val f (r + 1) = val f r + 2 ^ (r / f.binade - 1) := by
  have hb := binade_pos f
  unfold val
  generalize hB : f.binade = B at *
  by_cases h : r < B
  · rw [if_pos h, Nat.div_eq_of_lt h]
    by_cases h1 : r + 1 < B
    · rw [if_pos h1]
    · have e : r + 1 = B := by omega
      rw [if_neg h1, e, Nat.mod_self, Nat.div_self hb]; simp
  · have h1 : ¬ r + 1 < B := by omega
    rw [if_neg h, if_neg h1]
    have hq : 1 ≤ r / B := by
      have := Nat.div_le_div_right (c := B) (Nat.le_of_not_lt h)
      rw [Nat.div_self hb] at this; exact this
    have hm := Nat.mod_lt r hb
    have hd := Nat.div_add_mod r B
    generalize r / B = q at *
    generalize hmm : r % B = m at *
    obtain ⟨q, rfl⟩ : ∃ k, q = k + 1 := ⟨q - 1, by omega⟩
    by_cases h2 : m + 1 < B
    · have e : r + 1 = B * (q + 1) + (m + 1) := by omega
      have e1 : (r + 1) % B = m + 1 := by rw [e, Nat.mul_add_mod, Nat.mod_eq_of_lt h2]
      have e2 : (r + 1) / B = q + 1 := by rw [e, Nat.mul_add_div hb, Nat.div_eq_of_lt h2]
      rw [e1, e2, Nat.add_sub_cancel, ← Nat.add_assoc, Nat.add_mul, Nat.one_mul]
    · have hm1 : m + 1 = B := by omega
      have e : r + 1 = B * (q + 2) := by rw [show q + 2 = (q + 1) + 1 from rfl, Nat.mul_succ]; omega
      have e1 : (r + 1) % B = 0 := by rw [e, Nat.mul_mod_right]
      have e2 : (r + 1) / B = q + 2 := by rw [e, Nat.mul_div_cancel_left _ hb]
      rw [e1, e2]
      have : B + m = 2 * B - 1 := by omega
      have h3 : (B + m) * 2 ^ q + 2 ^ q = (2 * B) * 2 ^ q := by
        rw [← Nat.succ_mul]; congr 1; omega
      show (B + 0) * 2 ^ (q + 1) = (B + m) * 2 ^ q + 2 ^ q
      rw [h3, Nat.pow_succ, Nat.add_zero, Nat.mul_comm 2 B, Nat.mul_assoc, Nat.mul_comm 2]

theorem val_lt_succ (f : Format) (r : Nat) : val f r < val f (r + 1) := by
  rw [val_succ]; exact Nat.lt_add_of_pos_right (Nat.two_pow_pos _)

theorem val_lt (f : Format) {r s : Nat} (h : r < s) : val f r < val f s := by
  induction s with
  | zero => omega
  | succ s ih =>
    by_cases e : r = s
    · subst e; exact val_lt_succ f r
    · exact Nat.lt_trans (ih (by omega)) (val_lt_succ f s)

theorem val_lt_iff (f : Format) {r s : Nat} : val f r < val f s ↔ r < s := by
  constructor
  · intro h
    by_cases e : r < s
    · exact e
    · by_cases e2 : r = s
      · subst e2; omega
      · have := val_lt f (show s < r by omega); omega
  · exact val_lt f

theorem val_zero (f : Format) : val f 0 = 0 := by
  unfold val; rw [if_pos (binade_pos f)]

/-- the signed rung. -/
def sg (s : Bool) (r : Nat) : Int := if s then -(r : Int) else r

theorem sg_val_lt (f : Format) (s t : Bool) (r u : Nat) : sg s (val f r) < sg t (val f u) ↔ sg s r < sg t u := by
  have h1 := @val_lt_iff f r u
  have h2 := @val_lt_iff f u r
  have z := val_zero f
  have h3 := @val_lt_iff f 0 r
  have h4 := @val_lt_iff f 0 u
  cases s <;> cases t <;> simp only [sg, if_true, if_false, Bool.false_eq_true] <;> omega

theorem signed_eq (s : Bool) (m k : Nat) : signed s m k = sg s (m * 2 ^ k) := by
  unfold signed sg; rw [Nat.shiftLeft_eq]

/-- what a word below infinity reads as. -/
theorem read_word (f : Format) (s : Bool) (r : Nat) (hr : r < f.infRung) (hs : f.infRung < f.signWeight) :
    ∃ m : Nat, ∃ k : Nat, f.read (f.word s r) = .number s m (f.leastPlace + k) ∧ m * 2 ^ k = val f r := by
  have e1 : (f.word s r / f.signWeight % 2 == 1) = s := by
    unfold Format.word
    cases s
    · simp only [Bool.false_eq_true, if_false]
      rw [Nat.div_eq_of_lt (by omega)]; rfl
    · simp only [if_true]
      rw [Nat.add_div_left _ (by omega), Nat.div_eq_of_lt (by omega)]; rfl
  have e2 : f.word s r % f.signWeight = r := by
    unfold Format.word
    cases s
    · simp only [Bool.false_eq_true, if_false]; exact Nat.mod_eq_of_lt (by omega)
    · simp only [if_true]; rw [Nat.add_mod_left]; exact Nat.mod_eq_of_lt (by omega)
  unfold Format.read
  simp only [e1, e2]
  unfold val
  by_cases h : r < f.binade
  · rw [if_pos h, if_pos h]
    exact ⟨r, 0, by simp, by simp⟩
  · rw [if_neg h, if_neg h, if_pos hr]
    exact ⟨_, _, rfl, rfl⟩

theorem read_inf (f : Format) (s : Bool) (hs : f.infRung < f.signWeight) (hb : f.binade ≤ f.infRung) :
    f.read (f.word s f.infRung) = .infinity s := by
  have e1 : (f.word s f.infRung / f.signWeight % 2 == 1) = s := by
    unfold Format.word
    cases s
    · simp only [Bool.false_eq_true, if_false]
      rw [Nat.div_eq_of_lt (by omega)]; rfl
    · simp only [if_true]
      rw [Nat.add_div_left _ (by omega), Nat.div_eq_of_lt (by omega)]; rfl
  have e2 : f.word s f.infRung % f.signWeight = f.infRung := by
    unfold Format.word
    cases s
    · simp only [Bool.false_eq_true, if_false]; exact Nat.mod_eq_of_lt (by omega)
    · simp only [if_true]; rw [Nat.add_mod_left]; exact Nat.mod_eq_of_lt (by omega)
  unfold Format.read
  simp only [e1, e2]
  rw [if_neg (by omega), if_neg (by omega), if_pos trivial]

theorem read_nan (f : Format) (w : Nat) (h : f.infRung < w % f.signWeight) (hb : f.binade ≤ f.infRung) :
    f.read w = .nan (w / f.signWeight % 2 == 1) (w % f.signWeight - f.infRung) := by
  unfold Format.read
  simp only
  rw [if_neg (by omega), if_neg (by omega), if_neg (by omega)]

theorem compare_of (a b c d : Int) (h1 : a < b ↔ c < d) (h2 : b < a ↔ d < c) : compare a b = compare c d := by
  by_cases x : a < b
  · rw [Int.compare_eq_lt.2 x, Int.compare_eq_lt.2 (h1.1 x)]
  · by_cases y : b < a
    · rw [Int.compare_eq_gt.2 y, Int.compare_eq_gt.2 (h2.1 y)]
    · have e1 : a = b := by omega
      have e2 : c = d := by
        have n1 := mt h1.2 x
        have n2 := mt h2.2 y
        omega
      rw [Int.compare_eq_eq.2 e1, Int.compare_eq_eq.2 e2]

theorem sg_mul (s : Bool) (a k : Nat) : sg s (a * k) = sg s a * (k : Int) := by
  unfold sg; cases s <;> simp [Int.neg_mul]

/-- how two numbers compare. -/
theorem order_num (s t : Bool) (m n j k : Nat) (p : Int) :
    Datum.order (.number s m (p + j)) (.number t n (p + k)) = some (compare (sg s (m * 2 ^ j)) (sg t (n * 2 ^ k))) := by
  unfold Datum.order
  simp only [signed_eq]
  congr 1
  have hb : ∃ c : Nat, min (p + (j : Int)) (p + (k : Int)) = p + c := ⟨min j k, by omega⟩
  obtain ⟨c, hc⟩ := hb
  have hj : (p + (j : Int) - min (p + (j : Int)) (p + (k : Int))).toNat = j - c := by rw [hc]; omega
  have hk : (p + (k : Int) - min (p + (j : Int)) (p + (k : Int))).toNat = k - c := by rw [hc]; omega
  have cj : c ≤ j := by omega
  have ck : c ≤ k := by omega
  rw [hj, hk]
  have ej : m * 2 ^ j = m * 2 ^ (j - c) * 2 ^ c := by rw [Nat.mul_assoc, ← Nat.pow_add, Nat.sub_add_cancel cj]
  have ek : n * 2 ^ k = n * 2 ^ (k - c) * 2 ^ c := by rw [Nat.mul_assoc, ← Nat.pow_add, Nat.sub_add_cancel ck]
  rw [ej, ek, sg_mul s (m * 2 ^ (j - c)), sg_mul t (n * 2 ^ (k - c))]
  have hp : (0 : Int) < ((2 ^ c : Nat) : Int) := by exact_mod_cast Nat.two_pow_pos c
  refine compare_of _ _ _ _ ?_ ?_
  · exact ⟨fun h => Int.mul_lt_mul_of_pos_right h hp, fun h => Int.lt_of_mul_lt_mul_right h (Int.le_of_lt hp)⟩
  · exact ⟨fun h => Int.mul_lt_mul_of_pos_right h hp, fun h => Int.lt_of_mul_lt_mul_right h (Int.le_of_lt hp)⟩

/-- THE ORDER OF WORDS IS THAT OF THEIR SIGNED RUNGS. -/
theorem order_word (f : Format) (hs : f.infRung < f.signWeight) (hb : f.binade ≤ f.infRung) (s t : Bool) (r u : Nat) (hr : r ≤ f.infRung) (hu : u ≤ f.infRung) :
    f.order (f.word s r) (f.word t u) = some (compare (sg s r) (sg t u)) := by
  have hB := binade_pos f
  unfold Format.order
  by_cases r1 : r = f.infRung
  · by_cases u1 : u = f.infRung
    · subst r1 u1
      rw [read_inf f s hs hb, read_inf f t hs hb]
      unfold Datum.order; simp only
      congr 1
      cases s <;> cases t <;> simp only [sg, Bool.toNat_true, Bool.toNat_false, if_true, if_false, Bool.false_eq_true]
      · rw [Int.compare_eq_eq.2 rfl]; rfl
      · rw [Int.compare_eq_gt.2 (by omega)]; rfl
      · rw [Int.compare_eq_lt.2 (by omega)]; rfl
      · rw [Int.compare_eq_eq.2 rfl]; rfl
    · obtain ⟨n, k, e, hv⟩ := read_word f t u (by omega) hs
      subst r1
      rw [read_inf f s hs hb, e]
      unfold Datum.order; simp only
      cases s <;> cases t <;> simp only [sg, if_true, if_false, Bool.false_eq_true] <;>
        first | rw [Int.compare_eq_gt.2 (by omega)] | rw [Int.compare_eq_lt.2 (by omega)]
  · obtain ⟨m, j, e, hv⟩ := read_word f s r (by omega) hs
    by_cases u1 : u = f.infRung
    · subst u1
      rw [read_inf f t hs hb, e]
      unfold Datum.order; simp only
      cases s <;> cases t <;> simp only [sg, if_true, if_false, Bool.false_eq_true] <;>
        first | rw [Int.compare_eq_gt.2 (by omega)] | rw [Int.compare_eq_lt.2 (by omega)]
    · obtain ⟨n, k, e2, hv2⟩ := read_word f t u (by omega) hs
      rw [e, e2, order_num, hv, hv2]
      congr 1
      exact compare_of _ _ _ _ (sg_val_lt f s t r u) (sg_val_lt f t s u r)

end Go.Proofs.Ytfocdjfnlbendaa.B

/- Plain facts on the bits of a number of 64 bits: its sign, its exponent's field, its fraction's field; what is taken apart. -/
namespace Go.Proofs.Ytfocdjfnlbendaa.B
set_option linter.unusedVariables false
set_option maxRecDepth 20000

def bw (s : Bool) (e f : Nat) : Nat := s.toNat * 9223372036854775808 + e * 4503599627370496 + f

theorem bw_of (b : Nat) (hb : b < 18446744073709551616) : ∃ s e f, e < 2048 ∧ f < 4503599627370496 ∧ b = bw s e f := by
  refine ⟨decide (9223372036854775808 ≤ b), b % 9223372036854775808 / 4503599627370496, b % 4503599627370496, by omega, by omega, ?_⟩
  unfold bw
  by_cases h : 9223372036854775808 ≤ b
  · rw [decide_eq_true h]; simp only [Bool.toNat_true]; omega
  · rw [decide_eq_false h]; simp only [Bool.toNat_false]; omega

theorem bw_lt (s : Bool) (e f : Nat) (he : e < 2048) (hf : f < 4503599627370496) : bw s e f < 18446744073709551616 := by
  unfold bw; cases s <;> simp only [Bool.toNat_true, Bool.toNat_false] <;> omega

theorem wraps_i64 (n : Int) (h0 : 0 ≤ n) (h1 : n < 2 ^ 63) : IntKind.i64.wrap n = n := by rw [IntKind.wrap_i64]; omega
theorem wraps_u64 (n : Int) (h0 : 0 ≤ n) (h1 : n < 2 ^ 64) : IntKind.u64.wrap n = n := by
  simp [IntKind.wrap, IntKind.bits, IntKind.signed]; omega

theorem bw_exp (s : Bool) (e f : Nat) (he : e < 2048) (hf : f < 4503599627370496) : bits .and .i64 ((bw s e f : Int) / 4503599627370496) 2047 = (e : Int) := by
  have hl := bw_lt s e f he hf
  have h := bits_mask .i64 63 (by decide) wraps_i64 11 (by decide) ((bw s e f : Int) / 4503599627370496) (by omega) (by omega)
  rw [show ((2 : Int) ^ 11 - 1) = 2047 from rfl] at h
  rw [h]
  unfold bw; cases s <;> simp only [Bool.toNat_true, Bool.toNat_false] <;> omega

theorem bw_frac (s : Bool) (e f : Nat) (he : e < 2048) (hf : f < 4503599627370496) : bits .and .u64 ((bw s e f : Nat) : Int) 4503599627370495 = (f : Int) := by
  have hl := bw_lt s e f he hf
  have h := bits_mask .u64 64 (by decide) wraps_u64 52 (by decide) (bw s e f : Int) (by omega) (by omega)
  rw [show ((2 : Int) ^ 52 - 1) = 4503599627370495 from rfl] at h
  rw [h]
  unfold bw; cases s <;> simp only [Bool.toNat_true, Bool.toNat_false] <;> omega

theorem bw_sign (s : Bool) (e f : Nat) (he : e < 2048) (hf : f < 4503599627370496) : bits .and .u64 ((bw s e f : Int) / 9223372036854775808) 1 = (s.toNat : Int) := by
  have hl := bw_lt s e f he hf
  have h := bits_mask .u64 64 (by decide) wraps_u64 1 (by decide) ((bw s e f : Int) / 9223372036854775808) (by omega) (by omega)
  rw [show ((2 : Int) ^ 1 - 1) = 1 from rfl] at h
  rw [h]
  unfold bw; cases s <;> simp only [Bool.toNat_true, Bool.toNat_false] <;> omega

theorem frac_or (f : Nat) (hf : f < 4503599627370496) : bits .or .u64 (f : Int) 4503599627370496 = (f : Int) + 4503599627370496 := by
  have hc : bits .or .u64 (f : Int) 4503599627370496 = bits .or .u64 4503599627370496 (f : Int) := by simp only [bits, BitVec.or_comm]
  rw [hc, bits_join .u64 64 (by decide) wraps_u64 52 4503599627370496 (f : Int) (by decide) (by decide) (by decide) (by omega) (by omega) (by omega)]
  omega

/-- Parts as a value. -/
def pv (neg : Bool) (c x : Int) (f : Int) : Value := .agg #[.bool neg, .int .i64 c, .int .i64 x, .int .u64 f]

def cls (e f : Nat) : Int := if e = 2047 then (if f = 0 then 3 else 4) else if e = 0 then (if f = 0 then 0 else 1) else 2
def xp (e : Nat) : Int := if e = 2047 then 0 else if e = 0 then -1074 else (e : Int) - 1075
def fr (e f : Nat) : Int := if e = 2047 then 0 else if e = 0 then (f : Int) else (f : Int) + 4503599627370496
def ng (s : Bool) (e f : Nat) : Bool := if e = 2047 ∧ f ≠ 0 then false else s
def splitV (s : Bool) (e f : Nat) : Value := pv (ng s e f) (cls e f) (xp e) (fr e f)

theorem splitV_odd (s : Bool) (e f : Nat) (h : e = 2047) (h2 : ((f : Int) != 0) = true) : splitV s e f = .agg #[.bool false, .int .i64 4, .int .i64 0, .int .u64 0] := by
  have : f ≠ 0 := by intro h; subst h; simp at h2
  simp [splitV, pv, ng, cls, xp, fr, h, this]
theorem splitV_end (s : Bool) (e f : Nat) (h : e = 2047) (h2 : ((f : Int) != 0) = false) : splitV s e f = .agg #[.bool s, .int .i64 3, .int .i64 0, .int .u64 0] := by
  have : f = 0 := by simp at h2; omega
  simp [splitV, pv, ng, cls, xp, fr, h, this]
theorem splitV_nought (s : Bool) (e f : Nat) (h : e = 0) (h2 : ((f : Int) == 0) = true) : splitV s e f = .agg #[.bool s, .int .i64 0, .int .i64 (-1074), .int .u64 0] := by
  have : f = 0 := by simp at h2; omega
  simp [splitV, pv, ng, cls, xp, fr, h, this]
theorem splitV_small (s : Bool) (e f : Nat) (h : e = 0) (h2 : ((f : Int) == 0) = false) : splitV s e f = .agg #[.bool s, .int .i64 1, .int .i64 (-1074), .int .u64 f] := by
  have : f ≠ 0 := by intro h; subst h; simp at h2
  simp [splitV, pv, ng, cls, xp, fr, h, this]
theorem splitV_plain (s : Bool) (e f : Nat) (h : e ≠ 2047) (h2 : e ≠ 0) : splitV s e f = .agg #[.bool s, .int .i64 2, .int .i64 ((e : Int) - 1075), .int .u64 ((f : Int) + 4503599627370496)] := by
  simp [splitV, pv, ng, cls, xp, fr, h, h2]

/-- NaN? -/
def odd (e f : Nat) : Bool := e == 2047 && f != 0

theorem not_odd (e f : Nat) (h : odd e f = false) : ¬ (e = 2047 ∧ f ≠ 0) := by
  rintro ⟨h1, h2⟩; simp [odd, h1, h2] at h
theorem is_odd (e f : Nat) (h : odd e f = true) : e = 2047 ∧ f ≠ 0 := by
  simpa [odd] using h

theorem dInf : Ieee.double.infRung = 9218868437227405312 := by decide
theorem dSign : Ieee.double.signWeight = 9223372036854775808 := by decide
theorem dHs : Ieee.double.infRung < Ieee.double.signWeight := by decide
theorem dHb : Ieee.double.binade ≤ Ieee.double.infRung := by decide

/-- the bits as a word. -/
theorem bw_word (s : Bool) (e f : Nat) : bw s e f = Ieee.double.word s (e * 4503599627370496 + f) := by
  unfold bw Ieee.Format.word
  rw [dSign]
  cases s <;> simp [Nat.add_assoc]

theorem bw_read_odd (s : Bool) (e f : Nat) (hf : f < 4503599627370496) (h : odd e f = true) : Ieee.double.read (bw s e f) = .nan s f := by
  have h0 : e = 2047 ∧ f ≠ 0 := by simpa [odd] using h
  have e1 : bw s e f % Ieee.double.signWeight = e * 4503599627370496 + f := by
    rw [dSign]; unfold bw; cases s <;> simp only [Bool.toNat_true, Bool.toNat_false] <;> omega
  have e2 : (bw s e f / Ieee.double.signWeight % 2 == 1) = s := by
    rw [dSign]
    cases s
    · have : bw false e f / 9223372036854775808 % 2 = 0 := by unfold bw; simp only [Bool.toNat_false]; omega
      rw [this]; rfl
    · have : bw true e f / 9223372036854775808 % 2 = 1 := by unfold bw; simp only [Bool.toNat_true]; omega
      rw [this]; rfl
  rw [read_nan Ieee.double _ (by rw [e1, dInf]; omega) dHb, e1, e2, dInf, show e * 4503599627370496 + f - 9218868437227405312 = f from by omega]

theorem rung_le (e f : Nat) (he : e < 2048) (hf : f < 4503599627370496) (h : odd e f = false) : e * 4503599627370496 + f ≤ Ieee.double.infRung := by
  rw [dInf]; have := not_odd e f h; omega

/-- the place of a number in the order of all but NaN. -/
def pl (s : Bool) (e f : Nat) : Int := sg s (e * 4503599627370496 + f)

theorem ord (s t : Bool) (e f u v : Nat) (he : e < 2048) (hf : f < 4503599627370496) (hu : u < 2048) (hv : v < 4503599627370496) :
    FloatKind.f64.format.order (bw s e f) (bw t u v) = if odd e f || odd u v then none else some (compare (pl s e f) (pl t u v)) := by
  show Ieee.double.order _ _ = _
  by_cases h1 : odd e f = true
  · rw [h1]
    show (Ieee.double.read (bw s e f)).order _ = none
    rw [bw_read_odd s e f hf h1]; rfl
  · by_cases h2 : odd u v = true
    · rw [h2]
      show (Ieee.double.read (bw s e f)).order (Ieee.double.read (bw t u v)) = if (odd e f || true) = true then none else _
      rw [bw_read_odd t u v hv h2, Bool.or_true, if_pos rfl]
      cases Ieee.double.read (bw s e f) <;> rfl
    · have h3 : odd e f = false := by simpa using h1
      have h4 : odd u v = false := by simpa using h2
      rw [h3, h4, bw_word, bw_word]
      rw [order_word Ieee.double dHs dHb s t _ _ (rung_le e f he hf h3) (rung_le u v hu hv h4)]
      simp [pl]

end Go.Proofs.Ytfocdjfnlbendaa.B

/- What the functions that take a number of 64 bits apart answer, at every number. -/
namespace Go.Proofs.Ytfocdjfnlbendaa.B
set_option linter.unusedVariables false
set_option maxRecDepth 20000
open Go.RowKit

set_option maxHeartbeats 1000000 in
theorem split_any (s : Bool) (e f : Nat) (he : e < 2048) (hf : f < 4503599627370496) (w : World) :
    Calls Try.prog 46 #[.int .u64 (bw s e f), .int .u64 52, .int .u64 11, .int .i64 (-1074)] w fun r w' => r = .returned (splitV s e f) ∧ Below w.heap.size w w' := by
  have hl := bw_lt s e f he hf
  have h1 := bw_exp s e f he hf
  have h2 := bw_frac s e f he hf
  have h3 := bw_sign s e f he hf
  have h4 := frac_or f hf
  have h5 : ((s.toNat : Int) == 1) = s := by cases s <;> rfl
  go_enter Try.func46, Try.ntmps46
  go_wp2
  · rw [splitV_odd s e f (by omega) ‹_›]
    exact bodyPost_ret (v := .agg #[.bool false, .int .i64 4, .int .i64 0, .int .u64 0]) (by simp [results, Try.results46, go_sem]) rfl ⟨rfl, (by repeat (first | exact Below.refl _ _ | assumption | exact Nat.le_refl _ | (simp; done) | (simp; omega) | refine Below.alloc ?_ ?_ _ | refine Below.setCell ?_ ?_ _ | refine Below.drew ?_))⟩
  · rw [splitV_end s e f (by omega) ‹_›]
    exact bodyPost_ret (v := .agg #[.bool s, .int .i64 3, .int .i64 0, .int .u64 0]) (by simp [results, Try.results46, go_sem]) rfl ⟨rfl, (by repeat (first | exact Below.refl _ _ | assumption | exact Nat.le_refl _ | (simp; done) | (simp; omega) | refine Below.alloc ?_ ?_ _ | refine Below.setCell ?_ ?_ _ | refine Below.drew ?_))⟩
  · rw [splitV_nought s e f (by omega) ‹_›]
    exact bodyPost_ret (v := .agg #[.bool s, .int .i64 0, .int .i64 (-1074), .int .u64 0]) (by simp [results, Try.results46, go_sem]) rfl ⟨rfl, (by repeat (first | exact Below.refl _ _ | assumption | exact Nat.le_refl _ | (simp; done) | (simp; omega) | refine Below.alloc ?_ ?_ _ | refine Below.setCell ?_ ?_ _ | refine Below.drew ?_))⟩
  · rw [splitV_small s e f (by omega) ‹_›]
    exact bodyPost_ret (v := .agg #[.bool s, .int .i64 1, .int .i64 (-1074), .int .u64 f]) (by simp [results, Try.results46, go_sem]) rfl ⟨rfl, (by repeat (first | exact Below.refl _ _ | assumption | exact Nat.le_refl _ | (simp; done) | (simp; omega) | refine Below.alloc ?_ ?_ _ | refine Below.setCell ?_ ?_ _ | refine Below.drew ?_))⟩
  · rw [splitV_plain s e f (by omega) (by omega)]
    refine bodyPost_ret (v := .agg #[.bool s, .int .i64 2, .int .i64 ((e : Int) - 1075), .int .u64 ((f : Int) + 4503599627370496)]) (by simp [results, Try.results46, go_sem]; try omega) rfl ⟨rfl, (by repeat (first | exact Below.refl _ _ | assumption | exact Nat.le_refl _ | (simp; done) | (simp; omega) | refine Below.alloc ?_ ?_ _ | refine Below.setCell ?_ ?_ _ | refine Below.drew ?_))⟩
end Go.Proofs.Ytfocdjfnlbendaa.B

/- What the four body-less functions of package math answer over this program. -/
namespace Go.Proofs.Ytfocdjfnlbendaa.B
set_option linter.unusedVariables false
set_option maxRecDepth 20000
theorem f64bits (b : Nat) (w : World) : (callFunc 39 #[.float .f64 b]).run Try.prog w = .ok (.value (.int .u64 b)) w := by
  rw [run_callFunc_extern (e := Extern.MathFloatBits.float64bits) Try.func39 (by kernel_rfl) (by kernel_rfl) (by kernel_rfl) (by kernel_rfl)]; rfl
theorem f64frombits (n : Int) (w : World) : (callFunc 40 #[.int .u64 n]).run Try.prog w = .ok (.value (.float .f64 n.toNat)) w := by
  rw [run_callFunc_extern (e := Extern.MathFloatBits.float64frombits) Try.func40 (by kernel_rfl) (by kernel_rfl) (by kernel_rfl) (by kernel_rfl)]; rfl
end Go.Proofs.Ytfocdjfnlbendaa.B

/- What Split, its twin of the document, the classes and Same answer, at every number. -/
namespace Go.Proofs.Ytfocdjfnlbendaa.B
set_option linter.unusedVariables false
set_option maxRecDepth 20000
open Go.RowKit
attribute [local go_sem] f64bits f64frombits
theorem bcell {W w1 : World} (hb : Below W.heap.size W w1) : (∀ b o, b < W.heap.size → w1.cell? ⟨b, o, none⟩ = W.cell? ⟨b, o, none⟩) ∧ (∀ b o, b < W.heap.size → w1.frozen? ⟨b, o, none⟩ = W.frozen? ⟨b, o, none⟩) :=
  ⟨fun b o h => hb.cell (p := ⟨b, o, none⟩) h, fun b o h => hb.frozen (p := ⟨b, o, none⟩) h⟩

theorem split_lit (s : Bool) (e f : Nat) (he : e < 2048) (hf : f < 4503599627370496) (w : World) :
    Calls Try.prog 46 #[.int .u64 (bw s e f), .int .u64 52, .int .u64 11, .int .i64 (-1074)] w fun r w' => r = .returned (.agg #[.bool (ng s e f), .int .i64 (cls e f), .int .i64 (xp e), .int .u64 (fr e f)]) ∧ Below w.heap.size w w' :=
  split_any s e f he hf w

set_option maxHeartbeats 1000000 in
theorem nan_any (w : World) : Calls Try.prog 35 #[] w fun r w' => r = .returned (.float .f64 9221120237041090560) ∧ w' = w := by
  go_enter Try.func35, Try.ntmps35
  go_wp2
  go_ret
  exact ⟨rfl, rfl⟩

set_option maxHeartbeats 1000000 in
theorem Split_any (s : Bool) (e f : Nat) (he : e < 2048) (hf : f < 4503599627370496) (w : World) :
    Calls Try.prog 41 #[.float .f64 (bw s e f)] w fun r w' => r = .returned (.agg #[.bool (ng s e f), .int .i64 (cls e f), .int .i64 (xp e), .int .u64 (fr e f)]) ∧ Below w.heap.size w w' := by
  go_enter Try.func41, Try.ntmps41
  go_wp2_with (go_at_call 46; refine (split_lit s e f he hf _).mono ?_; rintro r w1 ⟨rfl, hb⟩; (obtain ⟨hc, hfz⟩ := bcell hb; have hz : w.heap.size < w1.heap.size := by (have := hb.size; simp at this; omega)))
  exact bodyPost_ret (v := (.agg #[.bool (ng s e f), .int .i64 (cls e f), .int .i64 (xp e), .int .u64 (fr e f)])) (by simp [results, Try.results41, go_sem, hc]) rfl ⟨rfl, (by repeat (first | exact Below.refl _ _ | exact ((Below.refl _ _).alloc (Nat.le_refl _) _).trans (hb.mono (by simp)) | exact Nat.le_refl _ | (simp; done) | (simp; omega) | refine Below.alloc ?_ ?_ _ | refine Below.setCell ?_ ?_ _ | refine Below.drew ?_))⟩

end Go.Proofs.Ytfocdjfnlbendaa.B

/- The document's Lent, AsLent. -/
namespace Go.Proofs.Ytfocdjfnlbendaa
open Go.RowKit
set_option linter.unusedVariables false
set_option maxRecDepth 20000
open Go.Proofs.Ytfocdjfnlbendaa.B (f64bits f64frombits)
theorem st_float {P : Program} {w : World} (a : Addr) (k : FloatKind) (n : Nat) (m : Mode) : (store a (.float k n) m).run P w = stored P w a (.float k n) m := run_store P w a _ m rfl
attribute [local go_sem] st_float f64bits f64frombits
theorem ord71 : (FloatKind.f64.format.order 4634696597773484032 4634696597773484032 == some .eq) = true := by decide +kernel
theorem ord72 : (FloatKind.f64.format.order 4634766966517661696 4634766966517661696 == some .eq) = true := by decide +kernel
attribute [local go_sem] ord71 ord72

theorem alike_any (x y : Nat) (w : World) : Calls Try.prog 21 #[.float .f64 x, .float .f64 y] w fun r w' => r = .returned (.bool (decide (x = y))) ∧ w' = w := by
  go_enter Try.func21, Try.ntmps21
  go_wp2
  go_ret
  refine ⟨congrArg (fun z => Ending.returned (Value.bool z)) ?_, rfl⟩
  first | rfl | (rw [Bool.eq_iff_iff]; simp; omega)

theorem alike_same (x : Nat) (w : World) : Calls Try.prog 21 #[.float .f64 x, .float .f64 x] w fun r w' => r = .returned (.bool true) ∧ w' = w := (alike_any x x w).mono fun r w' ⟨h1, h2⟩ => ⟨by rw [h1, decide_eq_true rfl], h2⟩


theorem But.drewN {g : Nat} {a w : World} (h : But g a w) (n : Nat) : But g a (w.drewN n) := ⟨h.os, h.tape, h.output, h.size, h.block⟩

theorem lent_zeros (xs : List Nat) (n : Nat) (hn : n = xs.length) : xs ++ (List.replicate (n + 2) 0).drop n = xs ++ [0, 0] := by
  rw [List.drop_replicate, show n + 2 - n = 2 by omega]; rfl

theorem lent_marks (xs : List Nat) (n : Nat) (hn : n = xs.length) : ((xs ++ [0, 0]).set n 4634696597773484032).set (n + 1) 4634766966517661696 = xs ++ [4634696597773484032, 4634766966517661696] := by
  subst hn
  simp

set_option maxHeartbeats 1000000 in
theorem lent_any (xs : List Nat) (ao : Option Addr) (n cap B : Nat) (w : World) (hn : n = xs.length) (hc : n ≤ cap) (hm : n ≤ 17592186043904) (hR : Rd B w ao xs) (hB : B ≤ w.heap.size) :
    Calls Try.prog 11 #[.slice ao n cap] w fun r w' => r = .returned (.slice (some ⟨w.heap.size, 0, none⟩) n (n + 2)) ∧ Own w' w.heap.size (xs ++ [4634696597773484032, 4634766966517661696]) ∧ Below w.heap.size w w' := by
  have hmk := make_numbers ((n + 2 : Nat) : Int) (n + 2) rfl (by omega)
  have hmk2 := make_numbers ((n : Int) + 2) (n + 2) (by omega) (by omega)
  have HO2 : Hid (Own (w.alloc (.cells (madeCells #[.float .f64 0] (n + 2)) 41)) w.heap.size (List.replicate (n + 2) 0)) := Own.made w (n + 2)
  obtain ⟨w2, hcp, hO2, hbut⟩ := copy_numbers _ w.heap.size (n + 2) (n + 2) ao n cap B 3 (List.replicate (n + 2) 0) xs HO2.out (by simp) hn (hR.below ((Below.refl _ _).alloc hB _)) (by omega)
  rw [lent_zeros xs n hn] at hO2
  have hg1 := hO2.frozen n
  have hg2 := hO2.frozen (n + 1)
  have hc1 := hO2.cell n (by simp; omega)
  have hc2 := hO2.cell (n + 1) (by simp; omega)
  have HX := (Aside.intro (And.intro hO2 (And.intro hbut hn)))
  clear hO2 hbut HO2 hn hR
  go_enter Try.func11, Try.ntmps11
  go_wp2
  go_ret
  obtain ⟨hO2, hbut, hn⟩ := HX.out
  refine ⟨rfl, ?_, ?_⟩
  · have h1 := (hO2.set n 4634696597773484032).set (n + 1) 4634766966517661696
    rw [lent_marks xs n hn] at h1
    exact h1
  · exact But.below ((Below.refl _ _).alloc (Nat.le_refl _) _) ((hbut.set _ _).set _ _) (by simp) (Nat.le_refl _)

set_option maxHeartbeats 2000000 in
theorem asLent_any (xs : List Nat) (ao : Option Addr) (n cap B g : Nat) (w : World) (hn : n = xs.length) (hc : n ≤ cap) (hm : n ≤ 17592186043904) (hx : Wf xs) (hR : Rd B w ao xs) (hB : B ≤ g) (hO : Own w g (xs ++ [4634696597773484032, 4634766966517661696])) :
    Calls Try.prog 13 #[.slice (some ⟨g, 0, none⟩) n (n + 2), .slice ao n cap] w fun r w' => r = .returned (.bool true) ∧ But g w w' := by
  have hgl := hO.lt
  have hc1 := hO.cell n (by simp; omega)
  have hc2 := hO.cell (n + 1) (by simp; omega)
  have e1 : (xs ++ [4634696597773484032, 4634766966517661696]).getD n 0 = 4634696597773484032 := by subst hn; simp
  have e2 : (xs ++ [4634696597773484032, 4634766966517661696]).getD (n + 1) 0 = 4634766966517661696 := by subst hn; simp
  rw [e1] at hc1
  rw [e2] at hc2
  have HX := (Aside.intro (And.intro hR (And.intro hO (And.intro hn (And.intro hB (And.intro hgl hx))))))
  clear hR hO hn hB e1 e2 hgl hx
  go_enter Try.func13, Try.ntmps13
  go_wp2
  go_loopg [6, 7] (n + 2) (fun gk gv iv wr => ∃ (k : Nat) (M : List Nat), gk + k = n + 2 ∧ gv = .bool true ∧ iv = .int .i64 (k : Nat) ∧ Hid (Own wr g M) ∧
      Aside (M.length = n + 2 ∧ (∀ j, k ≤ j → M.getD j 0 = (xs ++ [4634696597773484032, 4634766966517661696]).getD j 0) ∧ But g w wr))
  case atStart =>
    obtain ⟨hR, hO, hn, hB, hgl, hx⟩ := HX.out
    exact ⟨0, xs ++ [4634696597773484032, 4634766966517661696], by omega, rfl, rfl, hO, by simp; omega, fun _ _ => rfl, But.refl _ _⟩
  case round =>
    obtain ⟨k, M, hk, rfl, rfl, HM, HA⟩ := hrel
    by_cases hk2 : k = n + 2
    · obtain rfl : gk = 0 := by omega
      subst hk2
      go_wp2
      go_ret
      exact ⟨rfl, HA.out.2.2⟩
    · obtain ⟨hl, hM, hbut⟩ := HA.out
      have hgc := HM.out.cell k (by omega)
      have hgf := HM.out.frozen k
      have hklt : k < n + 2 := by omega
      by_cases hkn : k < n
      · obtain ⟨hR, hO, hn, hB, hgl, hx⟩ := HX.out
        obtain ⟨b, off, hlt, rfl, hcell⟩ := (hR.but hbut (by omega) hB) (by intro e; subst e; simp at hn; omega)
        have hxc := hcell k (by omega)
        have e3 : M.getD k 0 = xs.getD k 0 := by
          rw [hM k (Nat.le_refl _)]
          simp [List.getD_eq_getElem?_getD, List.getElem?_append_left (show k < xs.length by omega)]
        rw [e3] at hgc
        obtain ⟨x, hx1⟩ : ∃ x, xs.getD k 0 = x := ⟨_, rfl⟩
        rw [hx1] at hgc hxc
        have hd : decide ((n : Int) ≤ (k : Int)) = false := decide_eq_false (by omega)
        clear hl hM hbut hR hO hn hB hgl hcell e3 hx1 hx
        go_wp2
        go_quiet (first | (go_at_call 21; exact Calls.quiet_of_same (alike_same x _)))
        go_wp2
        go_roundg (gk - 1)
        case measure => omega
        case rel =>
          obtain ⟨hl, hM, hbut⟩ := HA.out
          refine ⟨k + 1, M.set k 4635541022703616000, by omega, by first | rfl | simp, by first | go_num | (congr 1; omega), (HM.out.set k 4635541022703616000).drew, by simp [hl], fun j hj => ?_, ((But.drewN hbut _).set k _)⟩
          rw [getD_set_ne _ _ _ _ (by omega)]
          exact hM j (by omega)
      · have hd : decide ((n : Int) ≤ (k : Int)) = true := decide_eq_true (by omega)
        clear hl hM hbut
        go_wp2
        go_quiet (fail)
        go_wp2
        go_roundg (gk - 1)
        case measure => omega
        case rel =>
          obtain ⟨hl, hM, hbut⟩ := HA.out
          refine ⟨k + 1, M.set k 4635541022703616000, by omega, by first | rfl | simp, by first | go_num | (congr 1; omega), (HM.out.set k 4635541022703616000).drew, by simp [hl], fun j hj => ?_, ((But.drewN hbut _).set k _)⟩
          rw [getD_set_ne _ _ _ _ (by omega)]
          exact hM j (by omega)
end Go.Proofs.Ytfocdjfnlbendaa

/- Plain facts on comparisons, signs and neighbours of numbers of 64 bits, by their bits. -/
namespace Go.Proofs.Ytfocdjfnlbendaa.B
set_option linter.unusedVariables false
set_option maxRecDepth 20000

theorem eq_f64 (s t : Bool) (e f u v : Nat) (he : e < 2048) (hf : f < 4503599627370496) (hu : u < 2048) (hv : v < 4503599627370496) :
    (FloatKind.f64.format.order (bw s e f) (bw t u v) == some .eq) = (!odd e f && (!odd u v && decide (pl s e f = pl t u v))) := by
  rw [ord s t e f u v he hf hu hv]
  cases odd e f <;> cases odd u v <;> simp
  by_cases h : pl s e f < pl t u v
  · rw [Int.compare_eq_lt.2 h, decide_eq_false (by omega)]; rfl
  · by_cases h2 : pl t u v < pl s e f
    · rw [Int.compare_eq_gt.2 h2, decide_eq_false (by omega)]; rfl
    · rw [Int.compare_eq_eq.2 (by omega), decide_eq_true (by omega)]; rfl

theorem odd_lt (e f : Nat) (h : e < 2047) : odd e f = false := by
  have : (e == 2047) = false := by simp; omega
  simp [odd, this]
theorem zero_bw : bw false 0 0 = 0 := rfl
theorem eq_zero (s : Bool) (e f : Nat) (he : e < 2048) (hf : f < 4503599627370496) :
    (FloatKind.f64.format.order (bw s e f) 0 == some .eq) = (e == 0 && f == 0) := by
  have h := eq_f64 s false e f 0 0 he hf (by omega) (by omega)
  rw [zero_bw] at h
  rw [h, odd_lt 0 _ (by omega)]
  cases ho : odd e f
  · rw [Bool.eq_iff_iff]
    cases s <;> simp [pl, sg] <;> omega
  · obtain ⟨h1, h2⟩ := is_odd e f ho
    have h3 : (e == 0) = false := by simp [h1]
    simp [h3]

theorem bw_inj (s t : Bool) (e f u v : Nat) (he : e < 2048) (hf : f < 4503599627370496) (hu : u < 2048) (hv : v < 4503599627370496) (h : bw s e f = bw t u v) : s = t ∧ e = u ∧ f = v := by
  unfold bw at h
  cases s <;> cases t <;> simp only [Bool.toNat_true, Bool.toNat_false] at h
  · exact ⟨rfl, by omega, by omega⟩
  · omega
  · omega
  · exact ⟨rfl, by omega, by omega⟩

end Go.Proofs.Ytfocdjfnlbendaa.B

