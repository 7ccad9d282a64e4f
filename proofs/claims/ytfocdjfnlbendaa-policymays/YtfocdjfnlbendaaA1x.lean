/- Numbers in memory: a row of numbers of one's own, numbers that are read; rows that are made, copied, appended to. -/
import Derived.Test.YtfocdjfnlbendaaRows
import Derived.WalkKit
import Derived.Deep.LoopGhost
import Derived.OwnWalk
import Derived.Below
import Derived.Laws.OwnMore
import Derived.Laws.CopyOwn
import Derived.Deep.OwnRows
import Derived.Laws.MakeOwn
import Ieee.Arith
import Derived.Test.YtfocdjfnlbendaaProg
import Derived.WalkLawsBesides
import Derived.WalkSpells
import Derived.Laws.Externs
import Derived.Deep.RegionWith
import Derived.BigQuiet
import Derived.Laws.BitsAllLaws
import Derived.Deep.CutRange
namespace Go.Proofs.Ytfocdjfnlbendaa
open Go.RowKit
set_option linter.unusedVariables false
set_option maxRecDepth 20000

/-- Each is a number's bits. -/
def Wf (xs : List Nat) : Prop := ∀ x ∈ xs, x < 18446744073709551616
theorem Wf.nil : Wf [] := by intro x hx; cases hx
theorem Wf.get {xs : List Nat} (h : Wf xs) (k : Nat) : xs.getD k 0 < 18446744073709551616 := by
  by_cases hk : k < xs.length
  · rw [List.getD_eq_getElem?_getD, List.getElem?_eq_getElem hk]; exact h _ (List.getElem_mem hk)
  · rw [List.getD_eq_getElem?_getD, List.getElem?_eq_none (by omega)]; decide
theorem getD_set (L : List Nat) (i j x : Nat) : (L.set i x).getD j 0 = if i = j ∧ j < L.length then x else L.getD j 0 := by
  simp only [List.getD_eq_getElem?_getD, List.getElem?_set]
  by_cases h : i = j
  · subst h
    by_cases h2 : i < L.length
    · simp [h2]
    · simp [h2]
  · simp [h]
theorem getD_set_ne (L : List Nat) (i j x : Nat) (h : i ≠ j) : (L.set i x).getD j 0 = L.getD j 0 := by rw [getD_set, if_neg (fun e => h e.1)]

theorem hid {p : Prop} (h : p) : Hid p := h
theorem _root_.Go.Aside.intro {p : Prop} (h : p) : Aside p := h

/-- A word as a cell. -/
def U (n : Nat) : Value := .float .f64 n

/-- Block g is a row of these numbers, all of it, free to be written. -/
def Own (w : World) (g : Nat) (L : List Nat) : Prop := w.heap[g]? = some (.cells (L.map U).toArray 41 (0, 0))

theorem Own.lt {w : World} {g : Nat} {L : List Nat} (h : Own w g L) : g < w.heap.size := (Array.getElem?_eq_some_iff.1 h).1

theorem Own.cell {w : World} {g : Nat} {L : List Nat} (h : Own w g L) (i : Nat) (hi : i < L.length) : w.cell? ⟨g, i, none⟩ = some (.float .f64 (L.getD i 0)) := by
  unfold Own at h
  simp [World.cell?, h, U, hi]

theorem Own.frozen {w : World} {g : Nat} {L : List Nat} (h : Own w g L) (i : Nat) : w.frozen? ⟨g, i, none⟩ = false := by
  unfold Own at h
  simp [World.frozen?, h]

theorem Own.set {w : World} {g : Nat} {L : List Nat} (h : Own w g L) (i x : Nat) : Own (w.setCell ⟨g, i, none⟩ (.float .f64 x)) g (L.set i x) := by
  unfold Own at h ⊢
  simp only [World.setCell, Array.getElem?_modify, h]
  simp [U, List.map_set]

theorem Own.setOther {w : World} {g : Nat} {L : List Nat} (h : Own w g L) {a : Addr} (ha : a.block ≠ g) (u : Value) : Own (w.setCell a u) g L := by
  unfold Own at h ⊢
  rw [Below.heap_setCell _ _ _ _ (fun e => ha e.symm)]
  exact h

theorem Own.alloc {w : World} {g : Nat} {L : List Nat} (h : Own w g L) (o : Obj) : Own (w.alloc o) g L := by
  have := h.lt
  unfold Own at h ⊢
  rw [Below.heap_alloc _ _ _ this]
  exact h

theorem Own.drew {w : World} {g : Nat} {L : List Nat} (h : Own w g L) : Own w.drew g L := h

theorem Own.below {w w' : World} {g B : Nat} {L : List Nat} (h : Own w g L) (hb : Below B w w') (hg : g < B) : Own w' g L := by
  unfold Own at h ⊢
  rw [hb.block g hg]; exact h

/-- All blocks but g are as they were. -/
structure But (g : Nat) (w w' : World) : Prop where
  os : w'.os = w.os
  tape : w'.tape = w.tape
  output : w'.output = w.output
  size : w.heap.size ≤ w'.heap.size
  block : ∀ k, k < w.heap.size → k ≠ g → w'.heap[k]? = w.heap[k]?

theorem But.refl (g : Nat) (w : World) : But g w w := ⟨rfl, rfl, rfl, Nat.le_refl _, fun _ _ _ => rfl⟩
theorem But.trans {g : Nat} {a b c : World} (h : But g a b) (k : But g b c) : But g a c :=
  ⟨k.os.trans h.os, k.tape.trans h.tape, k.output.trans h.output, Nat.le_trans h.size k.size, fun i hi hg => (k.block i (Nat.lt_of_lt_of_le hi h.size) hg).trans (h.block i hi hg)⟩
theorem But.drew {g : Nat} {a w : World} (h : But g a w) : But g a w.drew := ⟨h.os, h.tape, h.output, h.size, h.block⟩
theorem But.set {g : Nat} {a w : World} (h : But g a w) (i : Nat) (u : Value) : But g a (w.setCell ⟨g, i, none⟩ u) :=
  h.trans ⟨rfl, rfl, rfl, by simp [World.setCell], fun k _ hk => Below.heap_setCell _ _ _ _ hk⟩
theorem But.alloc {g : Nat} {a w : World} (h : But g a w) (o : Obj) : But g a (w.alloc o) :=
  h.trans ⟨rfl, rfl, rfl, by simp, fun k hk _ => Below.heap_alloc _ _ _ hk⟩
theorem But.of_below {g : Nat} {a w w' : World} (h : But g a w) (hb : Below w.heap.size w w') : But g a w' :=
  h.trans ⟨hb.os, hb.tape, hb.output, hb.size, fun k hk _ => hb.block k hk⟩
theorem But.below {g B : Nat} {a w w' : World} (h : Below B a w) (hb : But g w w') (hB : B ≤ w.heap.size) (hg : B ≤ g) : Below B a w' :=
  h.trans ⟨hb.os, hb.tape, hb.output, hb.size, fun k hk => hb.block k (by omega) (by omega)⟩

/-- Words that are read: where there are any, they lie in a block below B. -/
def Rd (B : Nat) (w : World) (ao : Option Addr) (xs : List Nat) : Prop :=
  xs ≠ [] → ∃ b off, b < B ∧ ao = some ⟨b, off, none⟩ ∧ ∀ i, i < xs.length → w.cell? ⟨b, off + i, none⟩ = some (.float .f64 (xs.getD i 0))

theorem Rd.nil (B : Nat) (w : World) (ao : Option Addr) : Rd B w ao [] := fun h => absurd rfl h

theorem Rd.below {B : Nat} {w w' : World} {ao : Option Addr} {xs : List Nat} (h : Rd B w ao xs) (hb : Below B w w') : Rd B w' ao xs := by
  intro hx
  obtain ⟨b, off, hlt, rfl, hc⟩ := h hx
  exact ⟨b, off, hlt, rfl, fun i hi => (hb.cell (p := ⟨b, off + i, none⟩) hlt).trans (hc i hi)⟩

theorem Rd.but {B g : Nat} {w w' : World} {ao : Option Addr} {xs : List Nat} (h : Rd B w ao xs) (hb : But g w w') (hB : B ≤ w.heap.size) (hg : B ≤ g) : Rd B w' ao xs :=
  h.below (But.below (Below.refl _ _) hb hB hg)

theorem Rd.mono {B B' : Nat} {w : World} {ao : Option Addr} {xs : List Nat} (h : Rd B w ao xs) (hB : B ≤ B') : Rd B' w ao xs := by
  intro hx
  obtain ⟨b, off, hlt, rfl, hc⟩ := h hx
  exact ⟨b, off, by omega, rfl, hc⟩

theorem Rd.take {B : Nat} {w : World} {ao : Option Addr} {xs : List Nat} (h : Rd B w ao xs) (k : Nat) : Rd B w ao (xs.take k) := by
  intro hx
  have hx' : xs ≠ [] := by intro e; subst e; simp at hx
  obtain ⟨b, off, hlt, rfl, hc⟩ := h hx'
  refine ⟨b, off, hlt, rfl, fun i hi => ?_⟩
  simp only [List.length_take] at hi
  rw [hc i (by omega)]
  simp [List.getD_eq_getElem?_getD, show i < k by omega]

theorem Rd.ofOwn {w : World} {g : Nat} {L : List Nat} (h : Own w g L) (off n : Nat) : Rd (g + 1) w (some ⟨g, off, none⟩) ((L.drop off).take n) := by
  intro _
  refine ⟨g, off, by omega, rfl, fun i hi => ?_⟩
  simp only [List.length_take, List.length_drop] at hi
  rw [h.cell _ (by omega)]
  simp [List.getD_eq_getElem?_getD, show i < n by omega]

/-- A list of one's own: these numbers, in a row from block lo on. -/
def Lt (lo : Nat) (w : World) (v : Value) (xs : List Nat) : Prop := w.ownsRow lo 41 1 v xs.length (xs.map U)

theorem Lt.nil (lo : Nat) (w : World) : Lt lo w (.slice none 0 0) [] := World.ownsRow_nil _ _ _ _

theorem Lt.shape {lo : Nat} {w : World} {v : Value} {xs : List Nat} (h : Lt lo w v xs) : ∃ ao cap, v = .slice ao xs.length cap ∧ xs.length ≤ cap ∧ cap ≤ maxLen ∧ Rd w.heap.size w ao xs := by
  rcases h.2 with ⟨rfl, h0⟩ | ⟨g, cap, cur, rfl, hlo, hg, hn, hm, hs, ht⟩
  · refine ⟨none, 0, by rw [h0], by omega, by unfold maxLen; omega, ?_⟩
    have : xs = [] := List.length_eq_zero_iff.1 h0
    rw [this]; exact Rd.nil _ _ _
  · refine ⟨_, cap, rfl, hn, hm, fun _ => ⟨g, 0, (Array.getElem?_eq_some_iff.1 hg).1, rfl, fun i hi => ?_⟩⟩
    have := h.cells (g := g) (by simp [Value.ownBlock]) i (U (xs.getD i 0)) (by simp [hi])
    have e : (⟨g, 0, none⟩ : Addr).add i = ⟨g, 0 + i, none⟩ := by unfold Addr.add; split <;> simp_all
    rw [e] at this
    simpa [U] using this

theorem Lt.below {lo : Nat} {w w' : World} {v : Value} {xs : List Nat} (h : Lt lo w v xs) (hb : Below w.heap.size w w') : Lt lo w' v xs := by
  refine ⟨h.1, ?_⟩
  rcases h.2 with hn | ⟨g, cap, cur, rfl, hlo, hg, rest⟩
  · exact .inl hn
  · refine .inr ⟨g, cap, cur, rfl, hlo, ?_, rest⟩
    rw [hb.block g (Array.getElem?_eq_some_iff.1 hg).1]; exact hg

theorem Lt.mono {lo lo' : Nat} {w : World} {v : Value} {xs : List Nat} (h : Lt lo w v xs) (hl : lo' ≤ lo) : Lt lo' w v xs := by
  refine ⟨h.1, ?_⟩
  rcases h.2 with hn | ⟨g, cap, cur, rfl, hlo, rest⟩
  · exact .inl hn
  · exact .inr ⟨g, cap, cur, rfl, by omega, rest⟩

theorem Try.info41 : (Try.prog.info? 41).map (fun i => (i.zero, i.size, i.bytes)) = some (some (.float .f64 0), 1, 8) := by kernel_rfl

theorem make_numbers (z : Int) (n : Nat) (hz : z = (n : Int)) (hn : n ≤ 35184372088832) (w : World) :
    (Instr.makeSlice 27 (.int .i64 z) (.int .i64 z)).run Try.prog w = .ok (.slice (some ⟨w.heap.size, 0, none⟩) n n) (w.alloc (.cells (madeCells #[.float .f64 0] n) 41)) := by
  subst hz
  exact run_make_row' 27 41 (.float .f64 0) 8 Try.underlying27 Try.info41 rfl .i64 .i64 n (by omega) (by omega) w

theorem Own.made (w : World) (n : Nat) : Own (w.alloc (.cells (madeCells #[.float .f64 0] n) 41)) w.heap.size (List.replicate n 0) := by
  unfold Own
  have h1 := heap_alloc_new w (.cells (madeCells #[.float .f64 0] n) 41)
  rw [h1]
  congr 2
  apply Array.toList_inj.1
  rw [toList_madeCells_one]
  simp [U]

theorem Rd.drop {B : Nat} {w : World} {b off : Nat} {xs : List Nat} (h : Rd B w (some ⟨b, off, none⟩) xs) (k : Nat) : Rd B w (some ⟨b, off + k, none⟩) (xs.drop k) := by
  intro hx
  have hx' : xs ≠ [] := by intro e; subst e; simp at hx
  obtain ⟨b', off', hlt, e, hc⟩ := h hx'
  cases e
  refine ⟨b, off + k, hlt, rfl, fun i hi => ?_⟩
  simp only [List.length_drop] at hi
  rw [Nat.add_assoc, hc (k + i) (by omega)]
  simp [List.getD_eq_getElem?_getD]

theorem copy_numbers (w : World) (g dLen dCap : Nat) (ao : Option Addr) (sLen sCap B : Nat) (ty : TypeId)
    (L xs : List Nat) (hO : Own w g L) (hL : dLen ≤ L.length) (hx : sLen = xs.length) (hR : Rd B w ao xs) (hle : sLen ≤ dLen) :
    ∃ w', (Builtin.copy_ #[27, 27] ty #[.slice (some ⟨g, 0, none⟩) dLen dCap, .slice ao sLen sCap]).run Try.prog w = .ok (.int .i64 (sLen : Int)) w' ∧ Own w' g (xs ++ L.drop sLen) ∧ But g w w' := by
  subst hx
  have hmin : Nat.min xs.length dLen = xs.length := Nat.min_eq_left hle
  by_cases h0 : xs = []
  · subst h0
    exact ⟨w, run_copy_none (P := Try.prog) w 27 27 ty 41 _ _ _ _ _ _ Try.underlying27 (by kernel_rfl) (by simp at hmin ⊢), by simpa using hO, But.refl _ _⟩
  · obtain ⟨b, off, hlt, rfl, hc⟩ := hR h0
    have hadd : ∀ j, (⟨b, off, none⟩ : Addr).add j = ⟨b, off + j, none⟩ := by intro j; unfold Addr.add; split <;> simp_all
    have hrun := run_copy_row (P := Try.prog) w 27 27 ty 41 g 0 dLen dCap ⟨b, off, none⟩ xs.length sCap (L.map U).toArray 41 (xs.map U) Try.underlying27 (by kernel_rfl) hO (by rw [hmin]; simp) (by
      intro j v hv
      rw [hadd]
      have hj : j < xs.length := by
        have := (List.getElem?_eq_some_iff.1 hv).1
        simpa using this
      rw [hc j hj]
      simp [hj, U] at hv
      simp [hj, ← hv]) (by simp; omega) (by
      intro v hv
      obtain ⟨n, _, rfl⟩ := List.mem_map.1 hv
      rfl)
    refine ⟨w.setRow g (((xs ++ L.drop xs.length).map U)).toArray, ?_, setRow_heap w g _ _ 41 _ hO, ⟨rfl, rfl, rfl, by simp [World.setRow], fun k _ hk => setRow_other w g k _ hk⟩⟩
    simpa [List.map_append, List.map_drop, goInt] using hrun
theorem append_numbers (w : World) (lo : Nat) (v : Value) (n : Nat) (xs src : List Nat) (ao : Option Addr) (m c B : Nat) (ty : TypeId) (hown : w.ownsRow lo 41 1 v n (xs.map U)) (hm : m = src.length) (hR : Rd B w ao src)
    (hnil : ao = none → c = 0) (hbig : n + m ≤ 17592186044416) (hlo : lo ≤ w.heap.size) :
    ∃ v' w', (Builtin.append_ #[27, 27] ty #[v, .slice ao m c]).run Try.prog w = .ok v' w' ∧ w'.ownsRow lo 41 1 v' (n + m) ((xs ++ src).map U) ∧ w.grownBy w' v.ownBlock := by
  obtain ⟨i0, hi, hz0, hz1, hz2⟩ := info_parts Try.info41
  subst hm
  rcases hao : ao with _ | a
  · have h0 : src = [] := by
      by_cases h : src = []
      · exact h
      · obtain ⟨b, off, _, e, _⟩ := hR h
        rw [hao] at e; cases e
    subst h0
    have hc := hnil hao
    subst hc
    exact ⟨v, w, run_append_owned_none (P := Try.prog) w lo 27 ty 41 i0 1 Try.underlying27 hi v n _ hown, by simpa using hown, World.grownBy.refl _ _⟩
  · obtain ⟨v', w', h1, h2, h3, _⟩ := run_append_own (P := Try.prog) w lo 27 ty 41 i0 (.float .f64 0) 1 8 Try.underlying27 hi hz0 hz1 hz2 rfl (by decide) v n (xs.map U) hown a src.length c (src.map U) (by simp) (by
      intro j u hj
      have hj2 : j < src.length := by have := (List.getElem?_eq_some_iff.1 hj).1; simpa using this
      obtain ⟨b, off, _, e, hc⟩ := hR (by intro e; subst e; simp at hj2)
      rw [hao] at e
      cases e
      have hadd : (⟨b, off, none⟩ : Addr).add j = ⟨b, off + j, none⟩ := by unfold Addr.add; split <;> simp_all
      rw [hadd, hc j hj2]
      simp [hj2, U] at hj
      simp [hj2, ← hj]) (by
      intro u hu
      obtain ⟨x, _, rfl⟩ := List.mem_map.1 hu
      rfl) (by unfold maxLen; omega) (by omega) hlo
    exact ⟨v', w', h1, by rw [List.map_append]; exact h2, h3⟩

/-- An append whose run is known, as a law for the walk. -/
theorem wpList_append_run {w : World} {ops : Array Oper} {rest : List Oper} {o : Oper} {a : Act} {Q : Exit → Act → World → Prop} (hgd : o.guard = none) (s x : Operand)
    (ho : o.op = .call { callee := .builtin .append, args := #[s, x], argTypes := #[27, 27] }) (v u : Value) (hs : a.eval s = v) (hx : a.eval x = u) (v' : Value) (w' : World)
    (hrun : (Builtin.append_ #[27, 27] o.type #[v, u]).run Try.prog w = .ok v' w') (h : wpList Try.prog ops Q rest (a.put o.dst v') w') : wpList Try.prog ops Q (o :: rest) a w := by
  refine wpList_plain hgd fun K hK => ?_
  unfold Oper.wp
  simp [execOp, ho, resolve, invoke, builtin, hs, hx, hrun, Result.andThen]
  exact hK _ _ h

end Go.Proofs.Ytfocdjfnlbendaa

/- Plain facts on the numbers of a format of IEEE 754, by rungs: their values rise, words are in the order of their signed rungs, what is a number of the format is written as that number, sums that are numbers are exact. No condition but what each theorem names. -/
namespace Go.Proofs.Ytfocdjfnlbendaa.B
set_option linter.unusedVariables false
set_option maxRecDepth 20000
open Ieee

def val (f : Format) (r : Nat) : Nat := if r < f.binade then r else (f.binade + r % f.binade) * 2 ^ (r / f.binade - 1)

theorem binade_pos (f : Format) : 0 < f.binade := Nat.two_pow_pos _

theorem val_succ (f : Format) (r : Nat) : val f (r + 1) = val f r + 2 ^ (r / f.binade - 1) := by
  have hb := binade_pos f
  unfold val
  generalize hB : f.binade = B at *
  by_cases h : r < B
  · rw [if_pos h, Nat.div_eq_of_lt h]
    by_cases h1 : r + 1 < B
    · rw [if_pos h1]
    · have e : r + 1 = B := by omega
      rw [if_neg h1, e, Nat.mod_self, Nat.div_self hb]; simp
  · have h1 : ¬ r + 1 < B := by omega
    rw [if_neg h, if_neg h1]
    have hq : 1 ≤ r / B := by
      have := Nat.div_le_div_right (c := B) (Nat.le_of_not_lt h)
      rw [Nat.div_self hb] at this; exact this
    have hm := Nat.mod_lt r hb
    have hd := Nat.div_add_mod r B
    generalize r / B = q at *
    generalize hmm : r % B = m at *
    obtain ⟨q, rfl⟩ : ∃ k, q = k + 1 := ⟨q - 1, by omega⟩
    by_cases h2 : m + 1 < B
    · have e : r + 1 = B * (q + 1) + (m + 1) := by omega
      have e1 : (r + 1) % B = m + 1 := by rw [e, Nat.mul_add_mod, Nat.mod_eq_of_lt h2]
      have e2 : (r + 1) / B = q + 1 := by rw [e, Nat.mul_add_div hb, Nat.div_eq_of_lt h2]
      rw [e1, e2, Nat.add_sub_cancel, ← Nat.add_assoc, Nat.add_mul, Nat.one_mul]
    · have hm1 : m + 1 = B := by omega
      have e : r + 1 = B * (q + 2) := by rw [show q + 2 = (q + 1) + 1 from rfl, Nat.mul_succ]; omega
      have e1 : (r + 1) % B = 0 := by rw [e, Nat.mul_mod_right]
      have e2 : (r + 1) / B = q + 2 := by rw [e, Nat.mul_div_cancel_left _ hb]
      rw [e1, e2]
      have : B + m = 2 * B - 1 := by omega
      have h3 : (B + m) * 2 ^ q + 2 ^ q = (2 * B) * 2 ^ q := by
        rw [← Nat.succ_mul]; congr 1; omega
      show (B + 0) * 2 ^ (q + 1) = (B + m) * 2 ^ q + 2 ^ q
      rw [h3, Nat.pow_succ, Nat.add_zero, Nat.mul_comm 2 B, Nat.mul_assoc, Nat.mul_comm 2]

theorem val_lt_succ (f : Format) (r : Nat) : val f r < val f (r + 1) := by
  rw [val_succ]; exact Nat.lt_add_of_pos_right (Nat.two_pow_pos _)

theorem val_lt (f : Format) {r s : Nat} (h : r < s) : val f r < val f s := by
  induction s with
  | zero => omega
  | succ s ih =>
    by_cases e : r = s
    · subst e; exact val_lt_succ f r
    · exact Nat.lt_trans (ih (by omega)) (val_lt_succ f s)

theorem val_lt_iff (f : Format) {r s : Nat} : val f r < val f s ↔ r < s := by
  constructor
  · intro h
    by_cases e : r < s
    · exact e
    · by_cases e2 : r = s
      · subst e2; omega
      · have := val_lt f (show s < r by omega); omega
  · exact val_lt f

theorem val_zero (f : Format) : val f 0 = 0 := by
  unfold val; rw [if_pos (binade_pos f)]

/-- the signed rung. -/
def sg (s : Bool) (r : Nat) : Int := if s then -(r : Int) else r

theorem sg_val_lt (f : Format) (s t : Bool) (r u : Nat) : sg s (val f r) < sg t (val f u) ↔ sg s r < sg t u := by
  have h1 := @val_lt_iff f r u
  have h2 := @val_lt_iff f u r
  have z := val_zero f
  have h3 := @val_lt_iff f 0 r
  have h4 := @val_lt_iff f 0 u
  cases s <;> cases t <;> simp only [sg, if_true, if_false, Bool.false_eq_true] <;> omega

theorem signed_eq (s : Bool) (m k : Nat) : signed s m k = sg s (m * 2 ^ k) := by
  unfold signed sg; rw [Nat.shiftLeft_eq]

/-- what a word below infinity reads as. -/
theorem read_word (f : Format) (s : Bool) (r : Nat) (hr : r < f.infRung) (hs : f.infRung < f.signWeight) :
    ∃ m : Nat, ∃ k : Nat, f.read (f.word s r) = .number s m (f.leastPlace + k) ∧ m * 2 ^ k = val f r := by
  have e1 : (f.word s r / f.signWeight % 2 == 1) = s := by
    unfold Format.word
    cases s
    · simp only [Bool.false_eq_true, if_false]
      rw [Nat.div_eq_of_lt (by omega)]; rfl
    · simp only [if_true]
      rw [Nat.add_div_left _ (by omega), Nat.div_eq_of_lt (by omega)]; rfl
  have e2 : f.word s r % f.signWeight = r := by
    unfold Format.word
    cases s
    · simp only [Bool.false_eq_true, if_false]; exact Nat.mod_eq_of_lt (by omega)
    · simp only [if_true]; rw [Nat.add_mod_left]; exact Nat.mod_eq_of_lt (by omega)
  unfold Format.read
  simp only [e1, e2]
  unfold val
  by_cases h : r < f.binade
  · rw [if_pos h, if_pos h]
    exact ⟨r, 0, by simp, by simp⟩
  · rw [if_neg h, if_neg h, if_pos hr]
    exact ⟨_, _, rfl, rfl⟩

theorem read_inf (f : Format) (s : Bool) (hs : f.infRung < f.signWeight) (hb : f.binade ≤ f.infRung) :
    f.read (f.word s f.infRung) = .infinity s := by
  have e1 : (f.word s f.infRung / f.signWeight % 2 == 1) = s := by
    unfold Format.word
    cases s
    · simp only [Bool.false_eq_true, if_false]
      rw [Nat.div_eq_of_lt (by omega)]; rfl
    · simp only [if_true]
      rw [Nat.add_div_left _ (by omega), Nat.div_eq_of_lt (by omega)]; rfl
  have e2 : f.word s f.infRung % f.signWeight = f.infRung := by
    unfold Format.word
    cases s
    · simp only [Bool.false_eq_true, if_false]; exact Nat.mod_eq_of_lt (by omega)
    · simp only [if_true]; rw [Nat.add_mod_left]; exact Nat.mod_eq_of_lt (by omega)
  unfold Format.read
  simp only [e1, e2]
  rw [if_neg (by omega), if_neg (by omega), if_pos trivial]

theorem read_nan (f : Format) (w : Nat) (h : f.infRung < w % f.signWeight) (hb : f.binade ≤ f.infRung) :
    f.read w = .nan (w / f.signWeight % 2 == 1) (w % f.signWeight - f.infRung) := by
  unfold Format.read
  simp only
  rw [if_neg (by omega), if_neg (by omega), if_neg (by omega)]

theorem compare_of (a b c d : Int) (h1 : a < b ↔ c < d) (h2 : b < a ↔ d < c) : compare a b = compare c d := by
  by_cases x : a < b
  · rw [Int.compare_eq_lt.2 x, Int.compare_eq_lt.2 (h1.1 x)]
  · by_cases y : b < a
    · rw [Int.compare_eq_gt.2 y, Int.compare_eq_gt.2 (h2.1 y)]
    · have e1 : a = b := by omega
      have e2 : c = d := by
        have n1 := mt h1.2 x
        have n2 := mt h2.2 y
        omega
      rw [Int.compare_eq_eq.2 e1, Int.compare_eq_eq.2 e2]

theorem sg_mul (s : Bool) (a k : Nat) : sg s (a * k) = sg s a * (k : Int) := by
  unfold sg; cases s <;> simp [Int.neg_mul]

/-- how two numbers compare. -/
theorem order_num (s t : Bool) (m n j k : Nat) (p : Int) :
    Datum.order (.number s m (p + j)) (.number t n (p + k)) = some (compare (sg s (m * 2 ^ j)) (sg t (n * 2 ^ k))) := by
  unfold Datum.order
  simp only [signed_eq]
  congr 1
  have hb : ∃ c : Nat, min (p + (j : Int)) (p + (k : Int)) = p + c := ⟨min j k, by omega⟩
  obtain ⟨c, hc⟩ := hb
  have hj : (p + (j : Int) - min (p + (j : Int)) (p + (k : Int))).toNat = j - c := by rw [hc]; omega
  have hk : (p + (k : Int) - min (p + (j : Int)) (p + (k : Int))).toNat = k - c := by rw [hc]; omega
  have cj : c ≤ j := by omega
  have ck : c ≤ k := by omega
  rw [hj, hk]
  have ej : m * 2 ^ j = m * 2 ^ (j - c) * 2 ^ c := by rw [Nat.mul_assoc, ← Nat.pow_add, Nat.sub_add_cancel cj]
  have ek : n * 2 ^ k = n * 2 ^ (k - c) * 2 ^ c := by rw [Nat.mul_assoc, ← Nat.pow_add, Nat.sub_add_cancel ck]
  rw [ej, ek, sg_mul s (m * 2 ^ (j - c)), sg_mul t (n * 2 ^ (k - c))]
  have hp : (0 : Int) < ((2 ^ c : Nat) : Int) := by exact_mod_cast Nat.two_pow_pos c
  refine compare_of _ _ _ _ ?_ ?_
  · exact ⟨fun h => Int.mul_lt_mul_of_pos_right h hp, fun h => Int.lt_of_mul_lt_mul_right h (Int.le_of_lt hp)⟩
  · exact ⟨fun h => Int.mul_lt_mul_of_pos_right h hp, fun h => Int.lt_of_mul_lt_mul_right h (Int.le_of_lt hp)⟩

/-- THE ORDER OF WORDS IS THAT OF THEIR SIGNED RUNGS. -/
theorem order_word (f : Format) (hs : f.infRung < f.signWeight) (hb : f.binade ≤ f.infRung) (s t : Bool) (r u : Nat) (hr : r ≤ f.infRung) (hu : u ≤ f.infRung) :
    f.order (f.word s r) (f.word t u) = some (compare (sg s r) (sg t u)) := by
  have hB := binade_pos f
  unfold Format.order
  by_cases r1 : r = f.infRung
  · by_cases u1 : u = f.infRung
    · subst r1 u1
      rw [read_inf f s hs hb, read_inf f t hs hb]
      unfold Datum.order; simp only
      congr 1
      cases s <;> cases t <;> simp only [sg, Bool.toNat_true, Bool.toNat_false, if_true, if_false, Bool.false_eq_true]
      · rw [Int.compare_eq_eq.2 rfl]; rfl
      · rw [Int.compare_eq_gt.2 (by omega)]; rfl
      · rw [Int.compare_eq_lt.2 (by omega)]; rfl
      · rw [Int.compare_eq_eq.2 rfl]; rfl
    · obtain ⟨n, k, e, hv⟩ := read_word f t u (by omega) hs
      subst r1
      rw [read_inf f s hs hb, e]
      unfold Datum.order; simp only
      cases s <;> cases t <;> simp only [sg, if_true, if_false, Bool.false_eq_true] <;>
        first | rw [Int.compare_eq_gt.2 (by omega)] | rw [Int.compare_eq_lt.2 (by omega)]
  · obtain ⟨m, j, e, hv⟩ := read_word f s r (by omega) hs
    by_cases u1 : u = f.infRung
    · subst u1
      rw [read_inf f t hs hb, e]
      unfold Datum.order; simp only
      cases s <;> cases t <;> simp only [sg, if_true, if_false, Bool.false_eq_true] <;>
        first | rw [Int.compare_eq_gt.2 (by omega)] | rw [Int.compare_eq_lt.2 (by omega)]
    · obtain ⟨n, k, e2, hv2⟩ := read_word f t u (by omega) hs
      rw [e, e2, order_num, hv, hv2]
      congr 1
      exact compare_of _ _ _ _ (sg_val_lt f s t r u) (sg_val_lt f t s u r)

end Go.Proofs.Ytfocdjfnlbendaa.B

/- Plain facts on the bits of a number of 64 bits: its sign, its exponent's field, its fraction's field; what is taken apart. -/
namespace Go.Proofs.Ytfocdjfnlbendaa.B
set_option linter.unusedVariables false
set_option maxRecDepth 20000

def bw (s : Bool) (e f : Nat) : Nat := s.toNat * 9223372036854775808 + e * 4503599627370496 + f

theorem bw_of (b : Nat) (hb : b < 18446744073709551616) : ∃ s e f, e < 2048 ∧ f < 4503599627370496 ∧ b = bw s e f := by
  refine ⟨decide (9223372036854775808 ≤ b), b % 9223372036854775808 / 4503599627370496, b % 4503599627370496, by omega, by omega, ?_⟩
  unfold bw
  by_cases h : 9223372036854775808 ≤ b
  · rw [decide_eq_true h]; simp only [Bool.toNat_true]; omega
  · rw [decide_eq_false h]; simp only [Bool.toNat_false]; omega

theorem bw_lt (s : Bool) (e f : Nat) (he : e < 2048) (hf : f < 4503599627370496) : bw s e f < 18446744073709551616 := by
  unfold bw; cases s <;> simp only [Bool.toNat_true, Bool.toNat_false] <;> omega

theorem wraps_i64 (n : Int) (h0 : 0 ≤ n) (h1 : n < 2 ^ 63) : IntKind.i64.wrap n = n := by rw [IntKind.wrap_i64]; omega
theorem wraps_u64 (n : Int) (h0 : 0 ≤ n) (h1 : n < 2 ^ 64) : IntKind.u64.wrap n = n := by
  simp [IntKind.wrap, IntKind.bits, IntKind.signed]; omega

theorem bw_exp (s : Bool) (e f : Nat) (he : e < 2048) (hf : f < 4503599627370496) : bits .and .i64 ((bw s e f : Int) / 4503599627370496) 2047 = (e : Int) := by
  have hl := bw_lt s e f he hf
  have h := bits_mask .i64 63 (by decide) wraps_i64 11 (by decide) ((bw s e f : Int) / 4503599627370496) (by omega) (by omega)
  rw [show ((2 : Int) ^ 11 - 1) = 2047 from rfl] at h
  rw [h]
  unfold bw; cases s <;> simp only [Bool.toNat_true, Bool.toNat_false] <;> omega

theorem bw_frac (s : Bool) (e f : Nat) (he : e < 2048) (hf : f < 4503599627370496) : bits .and .u64 ((bw s e f : Nat) : Int) 4503599627370495 = (f : Int) := by
  have hl := bw_lt s e f he hf
  have h := bits_mask .u64 64 (by decide) wraps_u64 52 (by decide) (bw s e f : Int) (by omega) (by omega)
  rw [show ((2 : Int) ^ 52 - 1) = 4503599627370495 from rfl] at h
  rw [h]
  unfold bw; cases s <;> simp only [Bool.toNat_true, Bool.toNat_false] <;> omega

theorem bw_sign (s : Bool) (e f : Nat) (he : e < 2048) (hf : f < 4503599627370496) : bits .and .u64 ((bw s e f : Int) / 9223372036854775808) 1 = (s.toNat : Int) := by
  have hl := bw_lt s e f he hf
  have h := bits_mask .u64 64 (by decide) wraps_u64 1 (by decide) ((bw s e f : Int) / 9223372036854775808) (by omega) (by omega)
  rw [show ((2 : Int) ^ 1 - 1) = 1 from rfl] at h
  rw [h]
  unfold bw; cases s <;> simp only [Bool.toNat_true, Bool.toNat_false] <;> omega

theorem frac_or (f : Nat) (hf : f < 4503599627370496) : bits .or .u64 (f : Int) 4503599627370496 = (f : Int) + 4503599627370496 := by
  have hc : bits .or .u64 (f : Int) 4503599627370496 = bits .or .u64 4503599627370496 (f : Int) := by simp only [bits, BitVec.or_comm]
  rw [hc, bits_join .u64 64 (by decide) wraps_u64 52 4503599627370496 (f : Int) (by decide) (by decide) (by decide) (by omega) (by omega) (by omega)]
  omega

/-- Parts as a value. -/
def pv (neg : Bool) (c x : Int) (f : Int) : Value := .agg #[.bool neg, .int .i64 c, .int .i64 x, .int .u64 f]

def cls (e f : Nat) : Int := if e = 2047 then (if f = 0 then 3 else 4) else if e = 0 then (if f = 0 then 0 else 1) else 2
def xp (e : Nat) : Int := if e = 2047 then 0 else if e = 0 then -1074 else (e : Int) - 1075
def fr (e f : Nat) : Int := if e = 2047 then 0 else if e = 0 then (f : Int) else (f : Int) + 4503599627370496
def ng (s : Bool) (e f : Nat) : Bool := if e = 2047 ∧ f ≠ 0 then false else s
def splitV (s : Bool) (e f : Nat) : Value := pv (ng s e f) (cls e f) (xp e) (fr e f)

theorem splitV_odd (s : Bool) (e f : Nat) (h : e = 2047) (h2 : ((f : Int) != 0) = true) : splitV s e f = .agg #[.bool false, .int .i64 4, .int .i64 0, .int .u64 0] := by
  have : f ≠ 0 := by intro h; subst h; simp at h2
  simp [splitV, pv, ng, cls, xp, fr, h, this]
theorem splitV_end (s : Bool) (e f : Nat) (h : e = 2047) (h2 : ((f : Int) != 0) = false) : splitV s e f = .agg #[.bool s, .int .i64 3, .int .i64 0, .int .u64 0] := by
  have : f = 0 := by simp at h2; omega
  simp [splitV, pv, ng, cls, xp, fr, h, this]
theorem splitV_nought (s : Bool) (e f : Nat) (h : e = 0) (h2 : ((f : Int) == 0) = true) : splitV s e f = .agg #[.bool s, .int .i64 0, .int .i64 (-1074), .int .u64 0] := by
  have : f = 0 := by simp at h2; omega
  simp [splitV, pv, ng, cls, xp, fr, h, this]
theorem splitV_small (s : Bool) (e f : Nat) (h : e = 0) (h2 : ((f : Int) == 0) = false) : splitV s e f = .agg #[.bool s, .int .i64 1, .int .i64 (-1074), .int .u64 f] := by
  have : f ≠ 0 := by intro h; subst h; simp at h2
  simp [splitV, pv, ng, cls, xp, fr, h, this]
theorem splitV_plain (s : Bool) (e f : Nat) (h : e ≠ 2047) (h2 : e ≠ 0) : splitV s e f = .agg #[.bool s, .int .i64 2, .int .i64 ((e : Int) - 1075), .int .u64 ((f : Int) + 4503599627370496)] := by
  simp [splitV, pv, ng, cls, xp, fr, h, h2]

/-- NaN? -/
def odd (e f : Nat) : Bool := e == 2047 && f != 0

theorem not_odd (e f : Nat) (h : odd e f = false) : ¬ (e = 2047 ∧ f ≠ 0) := by
  rintro ⟨h1, h2⟩; simp [odd, h1, h2] at h
theorem is_odd (e f : Nat) (h : odd e f = true) : e = 2047 ∧ f ≠ 0 := by
  simpa [odd] using h

theorem dInf : Ieee.double.infRung = 9218868437227405312 := by decide
theorem dSign : Ieee.double.signWeight = 9223372036854775808 := by decide
theorem dHs : Ieee.double.infRung < Ieee.double.signWeight := by decide
theorem dHb : Ieee.double.binade ≤ Ieee.double.infRung := by decide

/-- the bits as a word. -/
theorem bw_word (s : Bool) (e f : Nat) : bw s e f = Ieee.double.word s (e * 4503599627370496 + f) := by
  unfold bw Ieee.Format.word
  rw [dSign]
  cases s <;> simp [Nat.add_assoc]

theorem bw_read_odd (s : Bool) (e f : Nat) (hf : f < 4503599627370496) (h : odd e f = true) : Ieee.double.read (bw s e f) = .nan s f := by
  have h0 : e = 2047 ∧ f ≠ 0 := by simpa [odd] using h
  have e1 : bw s e f % Ieee.double.signWeight = e * 4503599627370496 + f := by
    rw [dSign]; unfold bw; cases s <;> simp only [Bool.toNat_true, Bool.toNat_false] <;> omega
  have e2 : (bw s e f / Ieee.double.signWeight % 2 == 1) = s := by
    rw [dSign]
    cases s
    · have : bw false e f / 9223372036854775808 % 2 = 0 := by unfold bw; simp only [Bool.toNat_false]; omega
      rw [this]; rfl
    · have : bw true e f / 9223372036854775808 % 2 = 1 := by unfold bw; simp only [Bool.toNat_true]; omega
      rw [this]; rfl
  rw [read_nan Ieee.double _ (by rw [e1, dInf]; omega) dHb, e1, e2, dInf, show e * 4503599627370496 + f - 9218868437227405312 = f from by omega]

theorem rung_le (e f : Nat) (he : e < 2048) (hf : f < 4503599627370496) (h : odd e f = false) : e * 4503599627370496 + f ≤ Ieee.double.infRung := by
  rw [dInf]; have := not_odd e f h; omega

/-- the place of a number in the order of all but NaN. -/
def pl (s : Bool) (e f : Nat) : Int := sg s (e * 4503599627370496 + f)

theorem ord (s t : Bool) (e f u v : Nat) (he : e < 2048) (hf : f < 4503599627370496) (hu : u < 2048) (hv : v < 4503599627370496) :
    FloatKind.f64.format.order (bw s e f) (bw t u v) = if odd e f || odd u v then none else some (compare (pl s e f) (pl t u v)) := by
  show Ieee.double.order _ _ = _
  by_cases h1 : odd e f = true
  · rw [h1]
    show (Ieee.double.read (bw s e f)).order _ = none
    rw [bw_read_odd s e f hf h1]; rfl
  · by_cases h2 : odd u v = true
    · rw [h2]
      show (Ieee.double.read (bw s e f)).order (Ieee.double.read (bw t u v)) = if (odd e f || true) = true then none else _
      rw [bw_read_odd t u v hv h2, Bool.or_true, if_pos rfl]
      cases Ieee.double.read (bw s e f) <;> rfl
    · have h3 : odd e f = false := by simpa using h1
      have h4 : odd u v = false := by simpa using h2
      rw [h3, h4, bw_word, bw_word]
      rw [order_word Ieee.double dHs dHb s t _ _ (rung_le e f he hf h3) (rung_le u v hu hv h4)]
      simp [pl]

end Go.Proofs.Ytfocdjfnlbendaa.B

/- What the functions that take a number of 64 bits apart answer, at every number. -/
namespace Go.Proofs.Ytfocdjfnlbendaa.B
set_option linter.unusedVariables false
set_option maxRecDepth 20000
open Go.RowKit

set_option maxHeartbeats 1000000 in
theorem split_any (s : Bool) (e f : Nat) (he : e < 2048) (hf : f < 4503599627370496) (w : World) :
    Calls Try.prog 46 #[.int .u64 (bw s e f), .int .u64 52, .int .u64 11, .int .i64 (-1074)] w fun r w' => r = .returned (splitV s e f) ∧ Below w.heap.size w w' := by
  have hl := bw_lt s e f he hf
  have h1 := bw_exp s e f he hf
  have h2 := bw_frac s e f he hf
  have h3 := bw_sign s e f he hf
  have h4 := frac_or f hf
  have h5 : ((s.toNat : Int) == 1) = s := by cases s <;> rfl
  go_enter Try.func46, Try.ntmps46
  go_wp2
  · rw [splitV_odd s e f (by omega) ‹_›]
    exact bodyPost_ret (v := .agg #[.bool false, .int .i64 4, .int .i64 0, .int .u64 0]) (by simp [results, Try.results46, go_sem]) rfl ⟨rfl, (by repeat (first | exact Below.refl _ _ | assumption | exact Nat.le_refl _ | (simp; done) | (simp; omega) | refine Below.alloc ?_ ?_ _ | refine Below.setCell ?_ ?_ _ | refine Below.drew ?_))⟩
  · rw [splitV_end s e f (by omega) ‹_›]
    exact bodyPost_ret (v := .agg #[.bool s, .int .i64 3, .int .i64 0, .int .u64 0]) (by simp [results, Try.results46, go_sem]) rfl ⟨rfl, (by repeat (first | exact Below.refl _ _ | assumption | exact Nat.le_refl _ | (simp; done) | (simp; omega) | refine Below.alloc ?_ ?_ _ | refine Below.setCell ?_ ?_ _ | refine Below.drew ?_))⟩
  · rw [splitV_nought s e f (by omega) ‹_›]
    exact bodyPost_ret (v := .agg #[.bool s, .int .i64 0, .int .i64 (-1074), .int .u64 0]) (by simp [results, Try.results46, go_sem]) rfl ⟨rfl, (by repeat (first | exact Below.refl _ _ | assumption | exact Nat.le_refl _ | (simp; done) | (simp; omega) | refine Below.alloc ?_ ?_ _ | refine Below.setCell ?_ ?_ _ | refine Below.drew ?_))⟩
  · rw [splitV_small s e f (by omega) ‹_›]
    exact bodyPost_ret (v := .agg #[.bool s, .int .i64 1, .int .i64 (-1074), .int .u64 f]) (by simp [results, Try.results46, go_sem]) rfl ⟨rfl, (by repeat (first | exact Below.refl _ _ | assumption | exact Nat.le_refl _ | (simp; done) | (simp; omega) | refine Below.alloc ?_ ?_ _ | refine Below.setCell ?_ ?_ _ | refine Below.drew ?_))⟩
  · rw [splitV_plain s e f (by omega) (by omega)]
    refine bodyPost_ret (v := .agg #[.bool s, .int .i64 2, .int .i64 ((e : Int) - 1075), .int .u64 ((f : Int) + 4503599627370496)]) (by simp [results, Try.results46, go_sem]; try omega) rfl ⟨rfl, (by repeat (first | exact Below.refl _ _ | assumption | exact Nat.le_refl _ | (simp; done) | (simp; omega) | refine Below.alloc ?_ ?_ _ | refine Below.setCell ?_ ?_ _ | refine Below.drew ?_))⟩
end Go.Proofs.Ytfocdjfnlbendaa.B

/- What the four body-less functions of package math answer over this program. -/
namespace Go.Proofs.Ytfocdjfnlbendaa.B
set_option linter.unusedVariables false
set_option maxRecDepth 20000
theorem f64bits (b : Nat) (w : World) : (callFunc 39 #[.float .f64 b]).run Try.prog w = .ok (.value (.int .u64 b)) w := by
  rw [run_callFunc_extern (e := Extern.MathFloatBits.float64bits) Try.func39 (by kernel_rfl) (by kernel_rfl) (by kernel_rfl) (by kernel_rfl)]; rfl
theorem f64frombits (n : Int) (w : World) : (callFunc 40 #[.int .u64 n]).run Try.prog w = .ok (.value (.float .f64 n.toNat)) w := by
  rw [run_callFunc_extern (e := Extern.MathFloatBits.float64frombits) Try.func40 (by kernel_rfl) (by kernel_rfl) (by kernel_rfl) (by kernel_rfl)]; rfl
end Go.Proofs.Ytfocdjfnlbendaa.B

/- What Split, its twin of the document, the classes and Same answer, at every number. -/
namespace Go.Proofs.Ytfocdjfnlbendaa.B
set_option linter.unusedVariables false
set_option maxRecDepth 20000
open Go.RowKit
attribute [local go_sem] f64bits f64frombits
theorem bcell {W w1 : World} (hb : Below W.heap.size W w1) : (∀ b o, b < W.heap.size → w1.cell? ⟨b, o, none⟩ = W.cell? ⟨b, o, none⟩) ∧ (∀ b o, b < W.heap.size → w1.frozen? ⟨b, o, none⟩ = W.frozen? ⟨b, o, none⟩) :=
  ⟨fun b o h => hb.cell (p := ⟨b, o, none⟩) h, fun b o h => hb.frozen (p := ⟨b, o, none⟩) h⟩

theorem split_lit (s : Bool) (e f : Nat) (he : e < 2048) (hf : f < 4503599627370496) (w : World) :
    Calls Try.prog 46 #[.int .u64 (bw s e f), .int .u64 52, .int .u64 11, .int .i64 (-1074)] w fun r w' => r = .returned (.agg #[.bool (ng s e f), .int .i64 (cls e f), .int .i64 (xp e), .int .u64 (fr e f)]) ∧ Below w.heap.size w w' :=
  split_any s e f he hf w

set_option maxHeartbeats 1000000 in
theorem nan_any (w : World) : Calls Try.prog 35 #[] w fun r w' => r = .returned (.float .f64 9221120237041090560) ∧ w' = w := by
  go_enter Try.func35, Try.ntmps35
  go_wp2
  go_ret
  exact ⟨rfl, rfl⟩

set_option maxHeartbeats 1000000 in
theorem Split_any (s : Bool) (e f : Nat) (he : e < 2048) (hf : f < 4503599627370496) (w : World) :
    Calls Try.prog 41 #[.float .f64 (bw s e f)] w fun r w' => r = .returned (.agg #[.bool (ng s e f), .int .i64 (cls e f), .int .i64 (xp e), .int .u64 (fr e f)]) ∧ Below w.heap.size w w' := by
  go_enter Try.func41, Try.ntmps41
  go_wp2_with (go_at_call 46; refine (split_lit s e f he hf _).mono ?_; rintro r w1 ⟨rfl, hb⟩; (obtain ⟨hc, hfz⟩ := bcell hb; have hz : w.heap.size < w1.heap.size := by (have := hb.size; simp at this; omega)))
  exact bodyPost_ret (v := (.agg #[.bool (ng s e f), .int .i64 (cls e f), .int .i64 (xp e), .int .u64 (fr e f)])) (by simp [results, Try.results41, go_sem, hc]) rfl ⟨rfl, (by repeat (first | exact Below.refl _ _ | exact ((Below.refl _ _).alloc (Nat.le_refl _) _).trans (hb.mono (by simp)) | exact Nat.le_refl _ | (simp; done) | (simp; omega) | refine Below.alloc ?_ ?_ _ | refine Below.setCell ?_ ?_ _ | refine Below.drew ?_))⟩

end Go.Proofs.Ytfocdjfnlbendaa.B

/- The document's Lent, AsLent. -/
namespace Go.Proofs.Ytfocdjfnlbendaa
open Go.RowKit
set_option linter.unusedVariables false
set_option maxRecDepth 20000
open Go.Proofs.Ytfocdjfnlbendaa.B (f64bits f64frombits)
theorem st_float {P : Program} {w : World} (a : Addr) (k : FloatKind) (n : Nat) (m : Mode) : (store a (.float k n) m).run P w = stored P w a (.float k n) m := run_store P w a _ m rfl
attribute [local go_sem] st_float f64bits f64frombits
theorem ord71 : (FloatKind.f64.format.order 4634696597773484032 4634696597773484032 == some .eq) = true := by decide +kernel
theorem ord72 : (FloatKind.f64.format.order 4634766966517661696 4634766966517661696 == some .eq) = true := by decide +kernel
attribute [local go_sem] ord71 ord72

theorem alike_any (x y : Nat) (w : World) : Calls Try.prog 21 #[.float .f64 x, .float .f64 y] w fun r w' => r = .returned (.bool (decide (x = y))) ∧ w' = w := by
  go_enter Try.func21, Try.ntmps21
  go_wp2
  go_ret
  refine ⟨congrArg (fun z => Ending.returned (Value.bool z)) ?_, rfl⟩
  first | rfl | (rw [Bool.eq_iff_iff]; simp; omega)

theorem alike_same (x : Nat) (w : World) : Calls Try.prog 21 #[.float .f64 x, .float .f64 x] w fun r w' => r = .returned (.bool true) ∧ w' = w := (alike_any x x w).mono fun r w' ⟨h1, h2⟩ => ⟨by rw [h1, decide_eq_true rfl], h2⟩


theorem But.drewN {g : Nat} {a w : World} (h : But g a w) (n : Nat) : But g a (w.drewN n) := ⟨h.os, h.tape, h.output, h.size, h.block⟩

theorem lent_zeros (xs : List Nat) (n : Nat) (hn : n = xs.length) : xs ++ (List.replicate (n + 2) 0).drop n = xs ++ [0, 0] := by
  rw [List.drop_replicate, show n + 2 - n = 2 by omega]; rfl

theorem lent_marks (xs : List Nat) (n : Nat) (hn : n = xs.length) : ((xs ++ [0, 0]).set n 4634696597773484032).set (n + 1) 4634766966517661696 = xs ++ [4634696597773484032, 4634766966517661696] := by
  subst hn
  simp

set_option maxHeartbeats 1000000 in
theorem lent_any (xs : List Nat) (ao : Option Addr) (n cap B : Nat) (w : World) (hn : n = xs.length) (hc : n ≤ cap) (hm : n ≤ 17592186043904) (hR : Rd B w ao xs) (hB : B ≤ w.heap.size) :
    Calls Try.prog 11 #[.slice ao n cap] w fun r w' => r = .returned (.slice (some ⟨w.heap.size, 0, none⟩) n (n + 2)) ∧ Own w' w.heap.size (xs ++ [4634696597773484032, 4634766966517661696]) ∧ Below w.heap.size w w' := by
  have hmk := make_numbers ((n + 2 : Nat) : Int) (n + 2) rfl (by omega)
  have hmk2 := make_numbers ((n : Int) + 2) (n + 2) (by omega) (by omega)
  have HO2 : Hid (Own (w.alloc (.cells (madeCells #[.float .f64 0] (n + 2)) 41)) w.heap.size (List.replicate (n + 2) 0)) := Own.made w (n + 2)
  obtain ⟨w2, hcp, hO2, hbut⟩ := copy_numbers _ w.heap.size (n + 2) (n + 2) ao n cap B 3 (List.replicate (n + 2) 0) xs HO2.out (by simp) hn (hR.below ((Below.refl _ _).alloc hB _)) (by omega)
  rw [lent_zeros xs n hn] at hO2
  have hg1 := hO2.frozen n
  have hg2 := hO2.frozen (n + 1)
  have hc1 := hO2.cell n (by simp; omega)
  have hc2 := hO2.cell (n + 1) (by simp; omega)
  have HX := (Aside.intro (And.intro hO2 (And.intro hbut hn)))
  clear hO2 hbut HO2 hn hR
  go_enter Try.func11, Try.ntmps11
  go_wp2
  go_ret
  obtain ⟨hO2, hbut, hn⟩ := HX.out
  refine ⟨rfl, ?_, ?_⟩
  · have h1 := (hO2.set n 4634696597773484032).set (n + 1) 4634766966517661696
    rw [lent_marks xs n hn] at h1
    exact h1
  · exact But.below ((Below.refl _ _).alloc (Nat.le_refl _) _) ((hbut.set _ _).set _ _) (by simp) (Nat.le_refl _)

set_option maxHeartbeats 2000000 in
theorem asLent_any (xs : List Nat) (ao : Option Addr) (n cap B g : Nat) (w : World) (hn : n = xs.length) (hc : n ≤ cap) (hm : n ≤ 17592186043904) (hx : Wf xs) (hR : Rd B w ao xs) (hB : B ≤ g) (hO : Own w g (xs ++ [4634696597773484032, 4634766966517661696])) :
    Calls Try.prog 13 #[.slice (some ⟨g, 0, none⟩) n (n + 2), .slice ao n cap] w fun r w' => r = .returned (.bool true) ∧ But g w w' := by
  have hgl := hO.lt
  have hc1 := hO.cell n (by simp; omega)
  have hc2 := hO.cell (n + 1) (by simp; omega)
  have e1 : (xs ++ [4634696597773484032, 4634766966517661696]).getD n 0 = 4634696597773484032 := by subst hn; simp
  have e2 : (xs ++ [4634696597773484032, 4634766966517661696]).getD (n + 1) 0 = 4634766966517661696 := by subst hn; simp
  rw [e1] at hc1
  rw [e2] at hc2
  have HX := (Aside.intro (And.intro hR (And.intro hO (And.intro hn (And.intro hB (And.intro hgl hx))))))
  clear hR hO hn hB e1 e2 hgl hx
  go_enter Try.func13, Try.ntmps13
  go_wp2
  go_loopg [6, 7] (n + 2) (fun gk gv iv wr => ∃ (k : Nat) (M : List Nat), gk + k = n + 2 ∧ gv = .bool true ∧ iv = .int .i64 (k : Nat) ∧ Hid (Own wr g M) ∧
      Aside (M.length = n + 2 ∧ (∀ j, k ≤ j → M.getD j 0 = (xs ++ [4634696597773484032, 4634766966517661696]).getD j 0) ∧ But g w wr))
  case atStart =>
    obtain ⟨hR, hO, hn, hB, hgl, hx⟩ := HX.out
    exact ⟨0, xs ++ [4634696597773484032, 4634766966517661696], by omega, rfl, rfl, hO, by simp; omega, fun _ _ => rfl, But.refl _ _⟩
  case round =>
    obtain ⟨k, M, hk, rfl, rfl, HM, HA⟩ := hrel
    by_cases hk2 : k = n + 2
    · obtain rfl : gk = 0 := by omega
      subst hk2
      go_wp2
      go_ret
      exact ⟨rfl, HA.out.2.2⟩
    · obtain ⟨hl, hM, hbut⟩ := HA.out
      have hgc := HM.out.cell k (by omega)
      have hgf := HM.out.frozen k
      have hklt : k < n + 2 := by omega
      by_cases hkn : k < n
      · obtain ⟨hR, hO, hn, hB, hgl, hx⟩ := HX.out
        obtain ⟨b, off, hlt, rfl, hcell⟩ := (hR.but hbut (by omega) hB) (by intro e; subst e; simp at hn; omega)
        have hxc := hcell k (by omega)
        have e3 : M.getD k 0 = xs.getD k 0 := by
          rw [hM k (Nat.le_refl _)]
          simp [List.getD_eq_getElem?_getD, List.getElem?_append_left (show k < xs.length by omega)]
        rw [e3] at hgc
        obtain ⟨x, hx1⟩ : ∃ x, xs.getD k 0 = x := ⟨_, rfl⟩
        rw [hx1] at hgc hxc
        have hd : decide ((n : Int) ≤ (k : Int)) = false := decide_eq_false (by omega)
        clear hl hM hbut hR hO hn hB hgl hcell e3 hx1 hx
        go_wp2
        go_quiet (first | (go_at_call 21; exact Calls.quiet_of_same (alike_same x _)))
        go_wp2
        go_roundg (gk - 1)
        case measure => omega
        case rel =>
          obtain ⟨hl, hM, hbut⟩ := HA.out
          refine ⟨k + 1, M.set k 4635541022703616000, by omega, by first | rfl | simp, by first | go_num | (congr 1; omega), (HM.out.set k 4635541022703616000).drew, by simp [hl], fun j hj => ?_, ((But.drewN hbut _).set k _)⟩
          rw [getD_set_ne _ _ _ _ (by omega)]
          exact hM j (by omega)
      · have hd : decide ((n : Int) ≤ (k : Int)) = true := decide_eq_true (by omega)
        clear hl hM hbut
        go_wp2
        go_quiet (fail)
        go_wp2
        go_roundg (gk - 1)
        case measure => omega
        case rel =>
          obtain ⟨hl, hM, hbut⟩ := HA.out
          refine ⟨k + 1, M.set k 4635541022703616000, by omega, by first | rfl | simp, by first | go_num | (congr 1; omega), (HM.out.set k 4635541022703616000).drew, by simp [hl], fun j hj => ?_, ((But.drewN hbut _).set k _)⟩
          rw [getD_set_ne _ _ _ _ (by omega)]
          exact hM j (by omega)
end Go.Proofs.Ytfocdjfnlbendaa

/- Plain facts on comparisons, signs and neighbours of numbers of 64 bits, by their bits. -/
namespace Go.Proofs.Ytfocdjfnlbendaa.B
set_option linter.unusedVariables false
set_option maxRecDepth 20000

theorem eq_f64 (s t : Bool) (e f u v : Nat) (he : e < 2048) (hf : f < 4503599627370496) (hu : u < 2048) (hv : v < 4503599627370496) :
    (FloatKind.f64.format.order (bw s e f) (bw t u v) == some .eq) = (!odd e f && (!odd u v && decide (pl s e f = pl t u v))) := by
  rw [ord s t e f u v he hf hu hv]
  cases odd e f <;> cases odd u v <;> simp
  by_cases h : pl s e f < pl t u v
  · rw [Int.compare_eq_lt.2 h, decide_eq_false (by omega)]; rfl
  · by_cases h2 : pl t u v < pl s e f
    · rw [Int.compare_eq_gt.2 h2, decide_eq_false (by omega)]; rfl
    · rw [Int.compare_eq_eq.2 (by omega), decide_eq_true (by omega)]; rfl

theorem odd_lt (e f : Nat) (h : e < 2047) : odd e f = false := by
  have : (e == 2047) = false := by simp; omega
  simp [odd, this]
theorem zero_bw : bw false 0 0 = 0 := rfl
theorem eq_zero (s : Bool) (e f : Nat) (he : e < 2048) (hf : f < 4503599627370496) :
    (FloatKind.f64.format.order (bw s e f) 0 == some .eq) = (e == 0 && f == 0) := by
  have h := eq_f64 s false e f 0 0 he hf (by omega) (by omega)
  rw [zero_bw] at h
  rw [h, odd_lt 0 _ (by omega)]
  cases ho : odd e f
  · rw [Bool.eq_iff_iff]
    cases s <;> simp [pl, sg] <;> omega
  · obtain ⟨h1, h2⟩ := is_odd e f ho
    have h3 : (e == 0) = false := by simp [h1]
    simp [h3]

theorem bw_inj (s t : Bool) (e f u v : Nat) (he : e < 2048) (hf : f < 4503599627370496) (hu : u < 2048) (hv : v < 4503599627370496) (h : bw s e f = bw t u v) : s = t ∧ e = u ∧ f = v := by
  unfold bw at h
  cases s <;> cases t <;> simp only [Bool.toNat_true, Bool.toNat_false] at h
  · exact ⟨rfl, by omega, by omega⟩
  · omega
  · omega
  · exact ⟨rfl, by omega, by omega⟩

end Go.Proofs.Ytfocdjfnlbendaa.B

/- The kinds of numbers; the smallest functions of both sides. -/
namespace Go.Proofs.Ytfocdjfnlbendaa
open Go.RowKit
open Go.Proofs.Ytfocdjfnlbendaa.B (f64bits f64frombits bw)
set_option linter.unusedVariables false
set_option maxRecDepth 20000
attribute [local go_sem] st_float f64bits f64frombits

/-- May a way be? -/
def kn (a : Int) : Bool := decide (0 ≤ a) && decide (a ≤ 2)
def may (a b : Int) : Bool := kn a && kn b
/-- May a count be? -/
def ct (a : Int) : Bool := decide (0 ≤ a) && decide (a ≤ 1099511627776)

theorem ret_bool {a b : Bool} (h : a = b) : Ending.returned (.bool a) = .returned (.bool b) := by rw [h]

theorem known_any (a : Int) (w : World) : Calls Try.prog 27 #[.int .i64 a] w fun r w' => r = .returned (.bool (kn a)) ∧ w' = w := by
  unfold kn
  by_cases h : 0 ≤ a
  · have hd : decide (0 ≤ a) = true := decide_eq_true h
    rw [hd]
    go_enter Try.func27, Try.ntmps27
    go_wp2
    go_ret
    exact ⟨by first | rfl | simp, rfl⟩
  · have hd : decide (0 ≤ a) = false := decide_eq_false h
    rw [hd]
    go_enter Try.func27, Try.ntmps27
    go_wp2
    go_ret
    exact ⟨by first | rfl | simp, rfl⟩

theorem countable_any (a : Int) (w : World) : Calls Try.prog 44 #[.int .i64 a] w fun r w' => r = .returned (.bool (ct a)) ∧ w' = w := by
  unfold ct
  by_cases h : 0 ≤ a
  · have hd : decide (0 ≤ a) = true := decide_eq_true h
    rw [hd]
    go_enter Try.func44, Try.ntmps44
    go_wp2
    go_ret
    exact ⟨by first | rfl | simp, rfl⟩
  · have hd : decide (0 ≤ a) = false := decide_eq_false h
    rw [hd]
    go_enter Try.func44, Try.ntmps44
    go_wp2
    go_ret
    exact ⟨by first | rfl | simp, rfl⟩

theorem within_any (a : Int) (w : World) : Calls Try.prog 45 #[.int .i64 a] w fun r w' => r = .returned (.bool (ct a)) ∧ w' = w := by
  unfold ct
  by_cases h : 0 ≤ a
  · have hd : decide (0 ≤ a) = true := decide_eq_true h
    rw [hd]
    go_enter Try.func45, Try.ntmps45
    go_wp2
    go_ret
    exact ⟨by first | rfl | simp, rfl⟩
  · have hd : decide (0 ≤ a) = false := decide_eq_false h
    rw [hd]
    go_enter Try.func45, Try.ntmps45
    go_wp2
    go_ret
    exact ⟨by first | rfl | simp, rfl⟩

set_option maxHeartbeats 1000000 in
theorem May_any (a b : Int) (w : World) : Calls Try.prog 8 #[.agg #[.int .i64 a, .int .i64 b]] w fun r w' => r = .returned (.bool (may a b)) ∧ Below w.heap.size w w' := by
  unfold may
  rcases ha : kn a with _ | _
  · have H := hid (fun w => ha ▸ known_any a w)
    clear ha
    go_enter Try.func8, Try.ntmps8
    go_wp2_with fail
    refine (H.out _).mono ?_
    rintro r w1 ⟨rfl, rfl⟩
    go_wp2
    go_ret
    exact ⟨rfl, (Below.refl _ _).alloc (Nat.le_refl _) _⟩
  · have H := hid (fun w => ha ▸ known_any a w)
    have H2 := hid (fun w => known_any b w)
    obtain ⟨kb, hkb⟩ : ∃ k, kn b = k := ⟨_, rfl⟩
    rw [hkb] at H2 ⊢
    clear ha hkb
    go_enter Try.func8, Try.ntmps8
    go_wp2_with fail
    refine (H.out _).mono ?_
    rintro r w1 ⟨rfl, rfl⟩
    go_wp2_with fail
    refine (H2.out _).mono ?_
    rintro r w1 ⟨rfl, rfl⟩
    go_wp2
    go_ret
    exact ⟨by first | rfl | simp, (Below.refl _ _).alloc (Nat.le_refl _) _⟩

set_option maxHeartbeats 1000000 in
theorem rMay_any (a b : Int) (w : World) : Calls Try.prog 10 #[.agg #[.int .i64 a, .int .i64 b]] w fun r w' => r = .returned (.bool (may a b)) ∧ Below w.heap.size w w' := by
  unfold may kn
  rcases ha : decide (0 ≤ a) with _ | _ <;> rcases ha2 : decide (a ≤ 2) with _ | _ <;> rcases hb : decide (0 ≤ b) with _ | _ <;>
  · go_enter Try.func10, Try.ntmps10
    go_wp2
    go_ret
    exact ⟨by first | rfl | simp, (Below.refl _ _).alloc (Nat.le_refl _) _⟩

theorem Plain_any (w : World) : Calls Try.prog 9 #[] w fun r w' => r = .returned (.agg #[.int .i64 0, .int .i64 0]) ∧ Below w.heap.size w w' := by
  go_enter Try.func9, Try.ntmps9
  go_wp2
  exact bodyPost_ret (v := .agg #[.int .i64 0, .int .i64 0]) (by simp [results, Try.results9, go_sem]) rfl ⟨rfl, (by repeat (first | exact Below.refl _ _ | assumption | exact Nat.le_refl _ | (simp; done) | (simp; omega) | refine Below.alloc ?_ ?_ _ | refine Below.setCell ?_ ?_ _ | refine Below.drew ?_))⟩

/-- A nought, an infinity, by its sign. -/
def zr (neg : Bool) : Nat := if neg then 9223372036854775808 else 0
def inf (neg : Bool) : Nat := if neg then 18442240474082181120 else 9218868437227405312

theorem Zero_any (neg : Bool) (w : World) : Calls Try.prog 24 #[.bool neg] w fun r w' => r = .returned (.float .f64 (zr neg)) ∧ w' = w := by
  cases neg <;>
  · go_enter Try.func24, Try.ntmps24
    go_wp2
    go_ret
    exact ⟨rfl, rfl⟩

theorem rInf_any (neg : Bool) (w : World) : Calls Try.prog 26 #[.bool neg] w fun r w' => r = .returned (.float .f64 (inf neg)) ∧ w' = w := by
  cases neg <;>
  · go_enter Try.func26, Try.ntmps26
    go_wp2
    go_ret
    exact ⟨rfl, rfl⟩

theorem TheNaN_any (w : World) : Calls Try.prog 25 #[] w fun r w' => r = .returned (.float .f64 9221120237041090560) ∧ w' = w := by
  go_enter Try.func25, Try.ntmps25
  go_wp2
  go_ret
  exact ⟨rfl, rfl⟩

theorem mInf_up (w : World) : Calls Try.prog 36 #[.int .i64 1] w fun r w' => r = .returned (.float .f64 9218868437227405312) ∧ w' = w := by
  go_enter Try.func36, Try.ntmps36
  go_wp2
  go_ret
  exact ⟨rfl, rfl⟩

theorem mInf_down (w : World) : Calls Try.prog 36 #[.int .i64 (-1)] w fun r w' => r = .returned (.float .f64 18442240474082181120) ∧ w' = w := by
  go_enter Try.func36, Try.ntmps36
  go_wp2
  go_ret
  exact ⟨rfl, rfl⟩

theorem minus_any (w : World) : Calls Try.prog 38 #[.float .f64 0, .float .f64 13830554455654793216] w fun r w' => r = .returned (.float .f64 9223372036854775808) ∧ w' = w := by
  have h1 : bits .andNot .u64 0 9223372036854775808 = 0 := by decide +kernel
  have h2 : bits .and .u64 13830554455654793216 9223372036854775808 = 9223372036854775808 := by decide +kernel
  have h3 : bits .or .u64 0 9223372036854775808 = 9223372036854775808 := by decide +kernel
  go_enter Try.func38, Try.ntmps38
  go_wp2
  go_ret
  exact ⟨rfl, rfl⟩

/-- The kind of a number by its bits, as the document counts kinds: finite 0, -0 1, +0 2, +Inf 3, -Inf 4, NaN 5. -/
def kd (b : Nat) : Nat :=
  if 9218868437227405312 < b % 9223372036854775808 then 5
  else if b % 9223372036854775808 = 9218868437227405312 then (if b / 9223372036854775808 = 1 then 4 else 3)
  else if b % 9223372036854775808 = 0 then (if b / 9223372036854775808 = 1 then 1 else 2)
  else 0
/-- .. as the program counts them. -/
def kp (k : Nat) : Nat := if k = 5 then 0 else if k = 3 then 1 else if k = 4 then 2 else if k = 1 then 3 else if k = 2 then 4 else 5

theorem kd_le (b : Nat) : kd b ≤ 5 := by unfold kd; (repeat' split) <;> omega

set_option maxHeartbeats 1000000 in
theorem Kind_any (b : Nat) (hb : b < 18446744073709551616) (w : World) : Calls Try.prog 33 #[.float .f64 b] w fun r w' => r = .returned (.int .i64 (kd b : Nat)) ∧ w' = w := by
  unfold kd
  obtain ⟨z, hz⟩ : ∃ z, b % 9223372036854775808 = z := ⟨_, rfl⟩
  obtain ⟨s, hs⟩ : ∃ s, b / 9223372036854775808 = s := ⟨_, rfl⟩
  have hz2 : (b : Int) % 9223372036854775808 = (z : Int) := by omega
  have hs2 : (b : Int) / 9223372036854775808 = (s : Int) := by omega
  have hz3 : (b : Int).tmod 9223372036854775808 = (z : Int) := by rw [Int.tmod_eq_emod_of_nonneg (by omega)]; exact hz2
  have hzl : z < 9223372036854775808 := by omega
  have hsl : s < 2 := by omega
  rw [hz, hs]
  clear hz hs
  by_cases h1 : 9218868437227405312 < z
  · rw [if_pos h1]
    have h1' : (9218868437227405312 : Int) < (z : Int) := by omega
    go_enter Try.func33, Try.ntmps33
    go_wp2
    go_ret
    exact ⟨rfl, rfl⟩
  · rw [if_neg h1]
    have h1' : decide ((9218868437227405312 : Int) < (z : Int)) = false := decide_eq_false (by omega)
    have hs01 : s = 0 ∨ s = 1 := by omega
    by_cases h2 : z = 9218868437227405312
    · subst h2
      rcases hs01 with rfl | rfl
      · go_enter Try.func33, Try.ntmps33
        go_wp2
        go_ret
        exact ⟨rfl, rfl⟩
      · go_enter Try.func33, Try.ntmps33
        go_wp2
        go_ret
        exact ⟨rfl, rfl⟩
    · rw [if_neg h2]
      have h2' : ((z : Int) == 9218868437227405312) = false := by rw [beq_eq_false_iff_ne]; omega
      by_cases h3 : z = 0
      · subst h3
        rcases hs01 with rfl | rfl
        · go_enter Try.func33, Try.ntmps33
          go_wp2
          go_ret
          exact ⟨rfl, rfl⟩
        · go_enter Try.func33, Try.ntmps33
          go_wp2
          go_ret
          exact ⟨rfl, rfl⟩
      · rw [if_neg h3]
        have h3' : ((z : Int) == 0) = false := by rw [beq_eq_false_iff_ne]; omega
        clear h1 h2 h3 hz3
        rcases hs01 with rfl | rfl
        · go_enter Try.func33, Try.ntmps33
          go_wp2
          go_ret
          exact ⟨rfl, rfl⟩
        · go_enter Try.func33, Try.ntmps33
          go_wp2
          go_ret
          exact ⟨rfl, rfl⟩

theorem kd_bw (s : Bool) (e f : Nat) (he : e < 2048) (hf : f < 4503599627370496) : kd (bw s e f) = if e = 2047 then (if f = 0 then (if s then 4 else 3) else 5) else if e = 0 ∧ f = 0 then (if s then 1 else 2) else 0 := by
  unfold kd bw
  have h1 : (s.toNat * 9223372036854775808 + e * 4503599627370496 + f) % 9223372036854775808 = e * 4503599627370496 + f := by cases s <;> simp only [Bool.toNat_true, Bool.toNat_false] <;> omega
  have h2 : (s.toNat * 9223372036854775808 + e * 4503599627370496 + f) / 9223372036854775808 = s.toNat := by cases s <;> simp only [Bool.toNat_true, Bool.toNat_false] <;> omega
  rw [h1, h2]
  by_cases he2 : e = 2047
  · subst he2
    rw [if_pos rfl]
    by_cases hf0 : f = 0
    · subst hf0; cases s <;> simp
    · rw [if_pos (by omega), if_neg hf0]
  · rw [if_neg he2, if_neg (by omega), if_neg (by omega)]
    by_cases h0 : e = 0 ∧ f = 0
    · obtain ⟨rfl, rfl⟩ := h0; cases s <;> simp
    · rw [if_neg (by omega), if_neg h0]

theorem bySign_any (neg : Bool) (a b : Int) (w : World) : Calls Try.prog 42 #[.bool neg, .int .i64 a, .int .i64 b] w fun r w' => r = .returned (.int .i64 (if neg then a else b)) ∧ w' = w := by
  cases neg <;>
  · go_enter Try.func42, Try.ntmps42
    go_wp2
    go_ret
    exact ⟨rfl, rfl⟩

set_option maxHeartbeats 2000000 in
theorem kind_any (b : Nat) (hb : b < 18446744073709551616) (w : World) : Calls Try.prog 28 #[.float .f64 b] w fun r w' => r = .returned (.int .i64 (kp (kd b) : Nat)) ∧ Below w.heap.size w w' := by
  obtain ⟨s, e, f, he, hf, rfl⟩ := B.bw_of b hb
  rw [kd_bw s e f he hf]
  have H := hid (B.Split_any s e f he hf)
  obtain ⟨x1, hx1⟩ : ∃ x, B.xp e = x := ⟨_, rfl⟩
  obtain ⟨x2, hx2⟩ : ∃ x, B.fr e f = x := ⟨_, rfl⟩
  rw [hx1, hx2] at H
  clear hx1 hx2 hb
  by_cases he2 : e = 2047
  · subst he2
    by_cases hf0 : f = 0
    · subst hf0
      have hc : B.cls 2047 0 = 3 := by unfold B.cls; rw [if_pos rfl, if_pos rfl]
      have hg : B.ng s 2047 0 = s := by unfold B.ng; rw [if_neg (by simp)]
      rw [hc, hg] at H
      rw [if_pos rfl, if_pos rfl]
      have HS := hid (bySign_any s 2 1)
      obtain ⟨x, hx⟩ : ∃ x : Int, (if s then 2 else 1) = x := ⟨_, rfl⟩
      rw [hx] at HS
      have hk : ((kp (if s then 4 else 3) : Nat) : Int) = x := by cases s <;> (subst hx; rfl)
      rw [hk]
      clear hc hg hx hk
      go_enter Try.func28, Try.ntmps28
      go_wp2_with fail
      refine (H.out _).mono ?_
      rintro r w1 ⟨rfl, hb1⟩
      have HB := Aside.intro hb1
      have hz := hb1.size
      clear hb1
      go_wp2_with fail
      refine (HS.out _).mono ?_
      rintro r w2 ⟨rfl, rfl⟩
      go_wp2
      go_ret
      exact ⟨rfl, (HB.out.alloc hz _)⟩
    · have hc : B.cls 2047 f = 4 := by unfold B.cls; rw [if_pos rfl, if_neg hf0]
      rw [hc] at H
      rw [if_pos rfl, if_neg hf0]
      obtain ⟨x3, hx3⟩ : ∃ x, B.ng s 2047 f = x := ⟨_, rfl⟩
      rw [hx3] at H
      clear hc hx3
      go_enter Try.func28, Try.ntmps28
      go_wp2_with fail
      refine (H.out _).mono ?_
      rintro r w1 ⟨rfl, hb1⟩
      have HB := Aside.intro hb1
      have hz := hb1.size
      clear hb1
      go_wp2
      go_ret
      exact ⟨rfl, (HB.out.alloc hz _)⟩
  · rw [if_neg he2]
    have hg : B.ng s e f = s := by unfold B.ng; rw [if_neg (fun h => he2 h.1)]
    rw [hg] at H
    by_cases h0 : e = 0 ∧ f = 0
    · obtain ⟨rfl, rfl⟩ := h0
      have hc : B.cls 0 0 = 0 := by unfold B.cls; rw [if_neg (by omega), if_pos rfl, if_pos rfl]
      rw [hc] at H
      rw [if_pos ⟨rfl, rfl⟩]
      have HS := hid (bySign_any s 3 4)
      obtain ⟨x, hx⟩ : ∃ x : Int, (if s then 3 else 4) = x := ⟨_, rfl⟩
      rw [hx] at HS
      have hk : ((kp (if s then 1 else 2) : Nat) : Int) = x := by cases s <;> (subst hx; rfl)
      rw [hk]
      clear hc hg hx hk
      go_enter Try.func28, Try.ntmps28
      go_wp2_with fail
      refine (H.out _).mono ?_
      rintro r w1 ⟨rfl, hb1⟩
      have HB := Aside.intro hb1
      have hz := hb1.size
      clear hb1
      go_wp2_with fail
      refine (HS.out _).mono ?_
      rintro r w2 ⟨rfl, rfl⟩
      go_wp2
      go_ret
      exact ⟨rfl, (HB.out.alloc hz _)⟩
    · rw [if_neg h0]
      obtain ⟨c, hc, h1, h2, h3⟩ : ∃ c : Int, B.cls e f = c ∧ (c == 4) = false ∧ (c == 3) = false ∧ (c == 0) = false := by
        unfold B.cls
        rw [if_neg he2]
        by_cases he0 : e = 0
        · rw [if_pos he0, if_neg (fun h => h0 ⟨he0, h⟩)]; exact ⟨_, rfl, by decide, by decide, by decide⟩
        · rw [if_neg he0]; exact ⟨_, rfl, by decide, by decide, by decide⟩
      rw [hc] at H
      clear hc hg
      go_enter Try.func28, Try.ntmps28
      go_wp2_with fail
      refine (H.out _).mono ?_
      rintro r w1 ⟨rfl, hb1⟩
      have HB := Aside.intro hb1
      have hz := hb1.size
      clear hb1
      go_wp2
      go_ret
      exact ⟨rfl, (HB.out.alloc hz _)⟩
end Go.Proofs.Ytfocdjfnlbendaa

/- Specials: how they are counted, on both sides. -/
namespace Go.Proofs.Ytfocdjfnlbendaa
open Go.RowKit
open Go.Proofs.Ytfocdjfnlbendaa.B (f64bits f64frombits bw bcell)
set_option linter.unusedVariables false
set_option maxRecDepth 20000
attribute [local go_sem] st_float f64bits f64frombits

/-- How many of a kind. -/
def cn (k : Nat) (xs : List Nat) : Nat := xs.countP (fun x => kd x == k)
theorem cn_nil (k : Nat) : cn k [] = 0 := rfl
theorem cn_append (k : Nat) (xs ys : List Nat) : cn k (xs ++ ys) = cn k xs + cn k ys := by simp [cn, List.countP_append]
def one (k x : Nat) : Nat := if kd x = k then 1 else 0
theorem cn_one (k x : Nat) : cn k [x] = one k x := by unfold cn one; by_cases h : kd x = k <;> simp [h]
theorem take_succ' (xs : List Nat) (i : Nat) (h : i < xs.length) : xs.take (i + 1) = xs.take i ++ [xs.getD i 0] := by
  rw [List.take_succ_eq_append_getElem h, List.getD_eq_getElem?_getD, List.getElem?_eq_getElem h]; rfl
theorem cn_succ (k : Nat) (xs : List Nat) (i : Nat) (h : i < xs.length) : cn k (xs.take (i + 1)) = cn k (xs.take i) + one k (xs.getD i 0) := by
  rw [take_succ' xs i h, cn_append, cn_one]
theorem cn_le (k : Nat) (xs : List Nat) : cn k xs ≤ xs.length := List.countP_le_length

/-- Specials in a block. -/
def SpB (w : World) (g : Nat) (n u d m p a : Int) : Prop := w.heap[g]? = some (.cells #[.int .i64 n, .int .i64 u, .int .i64 d, .int .i64 m, .int .i64 p, .int .i64 a] 30 (0, 0))

theorem SpB.lt {w : World} {g : Nat} {n u d m p a : Int} (h : SpB w g n u d m p a) : g < w.heap.size := (Array.getElem?_eq_some_iff.1 h).1
theorem SpB.c0 {w : World} {g : Nat} {n u d m p a : Int} (h : SpB w g n u d m p a) : w.cell? ⟨g, 0, none⟩ = some (.int .i64 n) := by unfold SpB at h; simp [World.cell?, h]
theorem SpB.c1 {w : World} {g : Nat} {n u d m p a : Int} (h : SpB w g n u d m p a) : w.cell? ⟨g, 1, none⟩ = some (.int .i64 u) := by unfold SpB at h; simp [World.cell?, h]
theorem SpB.c2 {w : World} {g : Nat} {n u d m p a : Int} (h : SpB w g n u d m p a) : w.cell? ⟨g, 2, none⟩ = some (.int .i64 d) := by unfold SpB at h; simp [World.cell?, h]
theorem SpB.c3 {w : World} {g : Nat} {n u d m p a : Int} (h : SpB w g n u d m p a) : w.cell? ⟨g, 3, none⟩ = some (.int .i64 m) := by unfold SpB at h; simp [World.cell?, h]
theorem SpB.c4 {w : World} {g : Nat} {n u d m p a : Int} (h : SpB w g n u d m p a) : w.cell? ⟨g, 4, none⟩ = some (.int .i64 p) := by unfold SpB at h; simp [World.cell?, h]
theorem SpB.c5 {w : World} {g : Nat} {n u d m p a : Int} (h : SpB w g n u d m p a) : w.cell? ⟨g, 5, none⟩ = some (.int .i64 a) := by unfold SpB at h; simp [World.cell?, h]
theorem SpB.frozen {w : World} {g : Nat} {n u d m p a : Int} (h : SpB w g n u d m p a) (i : Nat) : w.frozen? ⟨g, i, none⟩ = false := by unfold SpB at h; simp [World.frozen?, h]
theorem SpB.but {w w' : World} {g k : Nat} {n u d m p a : Int} (h : SpB w g n u d m p a) (hb : But k w w') (hk : g ≠ k) : SpB w' g n u d m p a := by
  have := h.lt
  unfold SpB at h ⊢
  rw [hb.block g this hk]; exact h
theorem SpB.below {w w' : World} {g B : Nat} {n u d m p a : Int} (h : SpB w g n u d m p a) (hb : Below B w w') (hg : g < B) : SpB w' g n u d m p a := by
  unfold SpB at h ⊢
  rw [hb.block g hg]; exact h

set_option maxHeartbeats 2000000 in
theorem count_any (k g : Nat) (n u d m p a : Int) (w : World) (hk : k ≤ 5) (hB : SpB w g n u d m p a) (hn : 0 ≤ n ∧ n ≤ 65536) (hu : 0 ≤ u ∧ u ≤ 65536) (hd : 0 ≤ d ∧ d ≤ 65536) (hm : 0 ≤ m ∧ m ≤ 65536) (hp : 0 ≤ p ∧ p ≤ 65536) :
    Calls Try.prog 29 #[.pointer (some ⟨g, 0, none⟩), .int .i64 (k : Nat)] w fun r w' => r = .returned (.tuple #[]) ∧
      SpB w' g (if k = 0 then n + 1 else n) (if k = 1 then u + 1 else u) (if k = 2 then d + 1 else d) (if k = 3 then m + 1 else m) (if k = 4 then p + 1 else p) a ∧ But g w w' := by
  have hc0 := hB.c0
  have hc1 := hB.c1
  have hc2 := hB.c2
  have hc3 := hB.c3
  have hc4 := hB.c4
  have hf0 := hB.frozen 0
  have hf1 := hB.frozen 1
  have hf2 := hB.frozen 2
  have hf3 := hB.frozen 3
  have hf4 := hB.frozen 4
  have HB := Aside.intro hB
  clear hB
  obtain rfl | rfl | rfl | rfl | rfl | rfl : k = 0 ∨ k = 1 ∨ k = 2 ∨ k = 3 ∨ k = 4 ∨ k = 5 := by omega
  · go_enter Try.func29, Try.ntmps29
    go_wp2
    go_end0
    refine ⟨rfl, ?_, (But.refl _ _).set _ _⟩
    have h := HB.out
    unfold SpB at h ⊢
    simp [World.setCell, Array.getElem?_modify, h]
  · go_enter Try.func29, Try.ntmps29
    go_wp2
    go_end0
    refine ⟨rfl, ?_, (But.refl _ _).set _ _⟩
    have h := HB.out
    unfold SpB at h ⊢
    simp [World.setCell, Array.getElem?_modify, h]
  · go_enter Try.func29, Try.ntmps29
    go_wp2
    go_end0
    refine ⟨rfl, ?_, (But.refl _ _).set _ _⟩
    have h := HB.out
    unfold SpB at h ⊢
    simp [World.setCell, Array.getElem?_modify, h]
  · go_enter Try.func29, Try.ntmps29
    go_wp2
    go_end0
    refine ⟨rfl, ?_, (But.refl _ _).set _ _⟩
    have h := HB.out
    unfold SpB at h ⊢
    simp [World.setCell, Array.getElem?_modify, h]
  · go_enter Try.func29, Try.ntmps29
    go_wp2
    go_end0
    refine ⟨rfl, ?_, (But.refl _ _).set _ _⟩
    have h := HB.out
    unfold SpB at h ⊢
    simp [World.setCell, Array.getElem?_modify, h]
  · go_enter Try.func29, Try.ntmps29
    go_wp2
    go_end0
    exact ⟨rfl, HB.out, But.refl _ _⟩

/-- What is refused. -/
def rf (n u d a b : Int) : Int := if 0 < n ∧ a = 2 then 60 else if 0 < u + d ∧ b = 2 then 61 else 0

set_option maxHeartbeats 2000000 in
theorem refusal_any (n u d m p l a b : Int) (w : World) (hu : 0 ≤ u ∧ u ≤ 65536) (hd : 0 ≤ d ∧ d ≤ 65536) :
    Calls Try.prog 30 #[.agg #[.int .i64 n, .int .i64 u, .int .i64 d, .int .i64 m, .int .i64 p, .int .i64 l], .agg #[.int .i64 a, .int .i64 b]] w fun r w' => r = .returned (.int .i64 (rf n u d a b)) ∧ Below w.heap.size w w' := by
  have below : ∀ o o', Below w.heap.size w ((w.alloc o).alloc o') := fun o o' => ((Below.refl _ _).alloc (Nat.le_refl _) _).alloc (by simp) _
  obtain ⟨t, ht⟩ : ∃ t, u + d = t := ⟨_, rfl⟩
  have ht2 : -9223372036854775808 ≤ t ∧ t ≤ 9223372036854775807 := by omega
  unfold rf
  rw [ht]
  by_cases h1 : 0 < n
  · by_cases h2 : a = 2
    · rw [if_pos ⟨h1, h2⟩]
      subst h2
      go_enter Try.func30, Try.ntmps30
      go_wp2
      go_ret
      exact ⟨rfl, below _ _⟩
    · have h2' : (a == 2) = false := by rw [beq_eq_false_iff_ne]; exact h2
      rw [if_neg (fun h => h2 h.2)]
      by_cases h3 : 0 < t
      · by_cases h4 : b = 2
        · rw [if_pos ⟨h3, h4⟩]
          subst h4
          go_enter Try.func30, Try.ntmps30
          go_wp2
          go_ret
          exact ⟨rfl, below _ _⟩
        · have h4' : (b == 2) = false := by rw [beq_eq_false_iff_ne]; exact h4
          rw [if_neg (fun h => h4 h.2)]
          go_enter Try.func30, Try.ntmps30
          go_wp2
          go_ret
          exact ⟨rfl, below _ _⟩
      · have h3' : decide (0 < t) = false := decide_eq_false h3
        rw [if_neg (fun h => h3 h.1)]
        go_enter Try.func30, Try.ntmps30
        go_wp2
        go_ret
        exact ⟨rfl, below _ _⟩
  · have h1' : decide (0 < n) = false := decide_eq_false h1
    rw [if_neg (fun h => h1 h.1)]
    by_cases h3 : 0 < t
    · by_cases h4 : b = 2
      · rw [if_pos ⟨h3, h4⟩]
        subst h4
        go_enter Try.func30, Try.ntmps30
        go_wp2
        go_ret
        exact ⟨rfl, below _ _⟩
      · have h4' : (b == 2) = false := by rw [beq_eq_false_iff_ne]; exact h4
        rw [if_neg (fun h => h4 h.2)]
        go_enter Try.func30, Try.ntmps30
        go_wp2
        go_ret
        exact ⟨rfl, below _ _⟩
    · have h3' : decide (0 < t) = false := decide_eq_false h3
      rw [if_neg (fun h => h3 h.1)]
      go_enter Try.func30, Try.ntmps30
      go_wp2
      go_ret
      exact ⟨rfl, below _ _⟩

set_option maxHeartbeats 2000000 in
theorem Refused_any (n u d m p l a b : Int) (w : World) (hu : 0 ≤ u ∧ u ≤ 65536) (hd : 0 ≤ d ∧ d ≤ 65536) :
    Calls Try.prog 32 #[.agg #[.int .i64 n, .int .i64 u, .int .i64 d, .int .i64 m, .int .i64 p, .int .i64 l], .agg #[.int .i64 a, .int .i64 b]] w fun r w' => r = .returned (.int .i64 (rf n u d a b)) ∧ Below w.heap.size w w' := by
  have below : ∀ o o', Below w.heap.size w ((w.alloc o).alloc o') := fun o o' => ((Below.refl _ _).alloc (Nat.le_refl _) _).alloc (by simp) _
  obtain ⟨t, ht⟩ : ∃ t, u + d = t := ⟨_, rfl⟩
  have ht2 : -9223372036854775808 ≤ t ∧ t ≤ 9223372036854775807 := by omega
  unfold rf
  rw [ht]
  by_cases h1 : 0 < n
  · by_cases h2 : a = 2
    · rw [if_pos ⟨h1, h2⟩]
      subst h2
      go_enter Try.func32, Try.ntmps32
      go_wp2
      go_ret
      exact ⟨rfl, below _ _⟩
    · have h2' : (a == 2) = false := by rw [beq_eq_false_iff_ne]; exact h2
      rw [if_neg (fun h => h2 h.2)]
      by_cases h3 : 0 < t
      · by_cases h4 : b = 2
        · rw [if_pos ⟨h3, h4⟩]
          subst h4
          go_enter Try.func32, Try.ntmps32
          go_wp2
          go_ret
          exact ⟨rfl, below _ _⟩
        · have h4' : (b == 2) = false := by rw [beq_eq_false_iff_ne]; exact h4
          rw [if_neg (fun h => h4 h.2)]
          go_enter Try.func32, Try.ntmps32
          go_wp2
          go_ret
          exact ⟨rfl, below _ _⟩
      · have h3' : decide (0 < t) = false := decide_eq_false h3
        rw [if_neg (fun h => h3 h.1)]
        go_enter Try.func32, Try.ntmps32
        go_wp2
        go_ret
        exact ⟨rfl, below _ _⟩
  · have h1' : decide (0 < n) = false := decide_eq_false h1
    rw [if_neg (fun h => h1 h.1)]
    by_cases h3 : 0 < t
    · by_cases h4 : b = 2
      · rw [if_pos ⟨h3, h4⟩]
        subst h4
        go_enter Try.func32, Try.ntmps32
        go_wp2
        go_ret
        exact ⟨rfl, below _ _⟩
      · have h4' : (b == 2) = false := by rw [beq_eq_false_iff_ne]; exact h4
        rw [if_neg (fun h => h4 h.2)]
        go_enter Try.func32, Try.ntmps32
        go_wp2
        go_ret
        exact ⟨rfl, below _ _⟩
    · have h3' : decide (0 < t) = false := decide_eq_false h3
      rw [if_neg (fun h => h3 h.1)]
      go_enter Try.func32, Try.ntmps32
      go_wp2
      go_ret
      exact ⟨rfl, below _ _⟩


set_option maxHeartbeats 4000000 in
theorem rCount_any (x : Nat) (n u d m p a : Int) (w : World) (hx : x < 18446744073709551616) (hn : 0 ≤ n ∧ n ≤ 65536) (hu : 0 ≤ u ∧ u ≤ 65536) (hd : 0 ≤ d ∧ d ≤ 65536) (hm : 0 ≤ m ∧ m ≤ 65536) (hp : 0 ≤ p ∧ p ≤ 65536) (ha : 0 ≤ a ∧ a ≤ 65536) :
    Calls Try.prog 43 #[.agg #[.int .i64 n, .int .i64 u, .int .i64 d, .int .i64 m, .int .i64 p, .int .i64 a], .float .f64 x] w fun r w' =>
      r = .returned (.agg #[.int .i64 (n + one 5 x), .int .i64 (u + one 3 x), .int .i64 (d + one 4 x), .int .i64 (m + one 1 x), .int .i64 (p + one 2 x), .int .i64 (a + 1)]) ∧ Below w.heap.size w w' := by
  have H := hid (Kind_any x hx)
  have hk := kd_le x
  obtain ⟨k, hkk⟩ : ∃ k, kd x = k := ⟨_, rfl⟩
  unfold one
  rw [hkk] at H hk ⊢
  clear hkk
  obtain rfl | rfl | rfl | rfl | rfl | rfl : k = 0 ∨ k = 1 ∨ k = 2 ∨ k = 3 ∨ k = 4 ∨ k = 5 := by omega
  all_goals
    simp
    go_enter Try.func43, Try.ntmps43
    go_wp2_with fail
    refine (H.out _).mono ?_
    rintro r w1 ⟨rfl, rfl⟩
    go_wp2
    refine bodyPost_ret (v := .agg #[.int .i64 _, .int .i64 _, .int .i64 _, .int .i64 _, .int .i64 _, .int .i64 _]) (by simp [results, Try.results43, go_sem]) rfl ⟨rfl, (by repeat (first | exact Below.refl _ _ | assumption | exact Nat.le_refl _ | (simp; done) | (simp; omega) | refine Below.alloc ?_ ?_ _ | refine Below.setCell ?_ ?_ _ | refine Below.drew ?_))⟩
end Go.Proofs.Ytfocdjfnlbendaa

/- The document's Of: the Specials of a list. -/
namespace Go.Proofs.Ytfocdjfnlbendaa
open Go.RowKit
open Go.Proofs.Ytfocdjfnlbendaa.B (f64bits f64frombits bw bcell)
set_option linter.unusedVariables false
set_option maxRecDepth 20000
attribute [local go_sem] st_float f64bits f64frombits

theorem SpB.made (w : World) (n u d m p a : Int) : SpB (w.alloc (.cells #[.int .i64 n, .int .i64 u, .int .i64 d, .int .i64 m, .int .i64 p, .int .i64 a] 30)) w.heap.size n u d m p a := heap_alloc_new w _

/-- The counts of a list's first numbers. -/
def SpT (w : World) (g : Nat) (xs : List Nat) (a : Int) : Prop := SpB w g (cn 5 xs : Nat) (cn 3 xs : Nat) (cn 4 xs : Nat) (cn 1 xs : Nat) (cn 2 xs : Nat) a

theorem cn_bd (k : Nat) (xs : List Nat) (n : Nat) (h : xs.length ≤ n) (hn : n ≤ 65536) : 0 ≤ ((cn k xs : Nat) : Int) ∧ ((cn k xs : Nat) : Int) ≤ 65536 := by have := cn_le k xs; omega

theorem SpB.set6 {w : World} {g : Nat} {n u d m p a : Int} (h : SpB w g n u d m p a) (n' u' d' m' p' a' : Int) :
    SpB ((((((w.setCell ⟨g, 0, none⟩ (.int .i64 n')).setCell ⟨g, 1, none⟩ (.int .i64 u')).setCell ⟨g, 2, none⟩ (.int .i64 d')).setCell ⟨g, 3, none⟩ (.int .i64 m')).setCell ⟨g, 4, none⟩ (.int .i64 p')).setCell ⟨g, 5, none⟩ (.int .i64 a')) g n' u' d' m' p' a' := by
  unfold SpB at h ⊢
  simp [World.setCell, Array.getElem?_modify, h]

theorem But.set6 {a w : World} {g : Nat} (h : But g a w) (u0 u1 u2 u3 u4 u5 : Value) :
    But g a ((((((w.setCell ⟨g, 0, none⟩ u0).setCell ⟨g, 1, none⟩ u1).setCell ⟨g, 2, none⟩ u2).setCell ⟨g, 3, none⟩ u3).setCell ⟨g, 4, none⟩ u4).setCell ⟨g, 5, none⟩ u5) :=
  ((((((h.set 0 u0).set 1 u1).set 2 u2).set 3 u3).set 4 u4).set 5 u5)

theorem cset {w : World} {b o : Nat} {u : Value} (h : w.cell? ⟨b, o, none⟩ = some u) (v : Value) : (w.setCell ⟨b, o, none⟩ v).cell? ⟨b, o, none⟩ = some v := by
  simp only [World.cell?] at h ⊢
  simp only [World.setCell, Array.getElem?_modify]
  cases hb : w.heap[b]? with
  | none => rw [hb] at h; simp at h
  | some ob =>
    rw [hb] at h
    cases ob <;> simp_all
    rename_i cs _ _
    by_cases hl : o < cs.size
    · simp [hl]
    · rw [Array.getElem?_eq_none (by omega)] at h; cases h

theorem csetm (w : World) (b o : Nat) (v : Value) : (w.setCell ⟨b, o, none⟩ v).cell? ⟨b, o, none⟩ = (w.cell? ⟨b, o, none⟩).map (fun _ => v) := by
  cases h : w.cell? ⟨b, o, none⟩ with
  | some u => rw [cset h v]; rfl
  | none =>
    simp only [World.cell?] at h ⊢
    simp only [World.setCell, Array.getElem?_modify]
    cases hb : w.heap[b]? with
    | none => simp
    | some ob =>
      rw [hb] at h
      cases ob <;> simp_all

set_option maxHeartbeats 4000000 in
theorem Of_any (xs : List Nat) (ao : Option Addr) (n cap B : Nat) (w : World) (hn : n = xs.length) (hm : n ≤ 65536) (hx : Wf xs) (hR : Rd B w ao xs) (hB : B ≤ w.heap.size) :
    Calls Try.prog 31 #[.slice ao n cap] w fun r w' => r = .returned (.agg #[.int .i64 (cn 5 xs : Nat), .int .i64 (cn 3 xs : Nat), .int .i64 (cn 4 xs : Nat), .int .i64 (cn 1 xs : Nat), .int .i64 (cn 2 xs : Nat), .int .i64 (n : Nat)]) ∧ Below w.heap.size w w' := by
  obtain ⟨W1, hW1⟩ : ∃ W, W = w.alloc (.cells #[.int .i64 0, .int .i64 0, .int .i64 0, .int .i64 0, .int .i64 0, .int .i64 0] 30) := ⟨_, rfl⟩
  obtain ⟨W2, hW2⟩ : ∃ W, W = W1.alloc (.cells #[.int .i64 0, .int .i64 0, .int .i64 0, .int .i64 0, .int .i64 0, .int .i64 0] 30) := ⟨_, rfl⟩
  have hs1 : W1.heap.size = w.heap.size + 1 := by rw [hW1]; simp
  have hs2 : W2.heap.size = w.heap.size + 2 := by rw [hW2]; simp [hs1]
  have hbw : Below w.heap.size w W2 := by rw [hW2, hW1]; exact ((Below.refl _ _).alloc (Nat.le_refl _) _).alloc (by simp) _
  have hb0 : SpB W1 w.heap.size 0 0 0 0 0 0 := by rw [hW1]; exact SpB.made _ _ _ _ _ _ _
  have hb1 : SpB W2 (w.heap.size + 1) 0 0 0 0 0 0 := by rw [hW2, ← hs1]; exact SpB.made _ _ _ _ _ _ _
  have hb2 : SpB W2 w.heap.size 0 0 0 0 0 0 := by
    refine hb0.below (B := W1.heap.size) ?_ (by omega)
    rw [hW2]; exact (Below.refl _ _).alloc (Nat.le_refl _) _
  have HX := (Aside.intro (And.intro hn (And.intro hx (And.intro hR (And.intro hB (And.intro hs2 (And.intro hbw (And.intro hb1 (And.intro hb2 (And.intro hW1 hW2))))))))))
  clear hn hx hR hB hs1 hs2 hbw hb0 hb1 hb2 hW1 hW2
  go_enter Try.func31, Try.ntmps31
  go_wp2
  go_loopg [4] n (fun gk iv wr => ∃ (i : Nat), gk + i = n ∧ iv = .int .i64 (i : Nat) ∧ Aside (SpT wr (w.heap.size + 1) (xs.take i) (i : Nat) ∧ But (w.heap.size + 1) W2 wr))
  case atStart =>
    obtain ⟨hn, hx, hR, hB, hs2, hbw, hb1, hb2, hW1, hW2⟩ := HX.out
    refine ⟨0, by omega, rfl, ?_, ?_⟩
    · rw [← hW1, ← hW2]; unfold SpT; simpa [cn_nil] using hb1
    · rw [← hW1, ← hW2]; exact But.refl _ _
  case round =>
    obtain ⟨i, hi, rfl, HA⟩ := hrel
    obtain ⟨hn, hx, hR, hB, hs2, hbw, hb1, hb2, hW1, hW2⟩ := HX.out
    obtain ⟨hS, hbut⟩ := HA.out
    have hT := hS
    unfold SpT at hT
    have hc0 := hT.c0
    have hc1 := hT.c1
    have hc2 := hT.c2
    have hc3 := hT.c3
    have hc4 := hT.c4
    have hc5 := hT.c5
    have hfz := hT.frozen
    have hlt := hT.lt
    have hr := hb2.but hbut (by omega)
    have hg0 := hr.c0
    have hg1 := hr.c1
    have hg2 := hr.c2
    have hg3 := hr.c3
    have hg4 := hr.c4
    have hg5 := hr.c5
    have hgf := hr.frozen
    have hgl := hr.lt
    by_cases hin : i = n
    · obtain rfl : gk = 0 := by omega
      have e : xs.take i = xs := List.take_of_length_le (by omega)
      rw [e] at hc0 hc1 hc2 hc3 hc4
      clear hn hx hR hB hs2 hbw hb1 hb2 hW1 hW2 hS hbut hT hr e
      subst hin
      go_wp2
      refine bodyPost_ret (v := .agg #[.int .i64 (cn 5 xs : Nat), .int .i64 (cn 3 xs : Nat), .int .i64 (cn 4 xs : Nat), .int .i64 (cn 1 xs : Nat), .int .i64 (cn 2 xs : Nat), .int .i64 (i : Nat)]) (by simp [results, Try.results31, go_sem, csetm, hg0, hg1, hg2, hg3, hg4, hg5]) rfl ⟨rfl, ?_⟩
      obtain ⟨hn, hx, hR, hB, hs2, hbw, hb1, hb2, hW1, hW2⟩ := HX.out
      obtain ⟨hS, hbut⟩ := HA.out
      have h1 : Below w.heap.size w wr := But.below hbw hbut (by omega) (by omega)
      exact But.below h1 (But.set6 (But.refl _ _) _ _ _ _ _ _) (by omega) (Nat.le_refl _)
    · have hil : i < n := by omega
      have hRw : Rd w.heap.size wr ao xs := ((hR.mono hB).below hbw).but hbut (by omega) (by omega)
      obtain ⟨b, off, hlt2, rfl, hcell⟩ := hRw (by intro e; rw [e] at hn; simp at hn; omega)
      have hxc := hcell i (by omega)
      have hxw := hx.get i
      have hsuc := fun k => cn_succ k xs i (by omega)
      obtain ⟨x, hxx⟩ : ∃ x, xs.getD i 0 = x := ⟨_, rfl⟩
      rw [hxx] at hxc hxw hsuc
      have l1 : (xs.take i).length ≤ 65536 := by rw [List.length_take]; omega
      have HC := hid (fun w => rCount_any x (cn 5 (xs.take i) : Nat) (cn 3 (xs.take i) : Nat) (cn 4 (xs.take i) : Nat) (cn 1 (xs.take i) : Nat) (cn 2 (xs.take i) : Nat) (i : Nat) w hxw (cn_bd _ _ _ l1 (Nat.le_refl _)) (cn_bd _ _ _ l1 (Nat.le_refl _)) (cn_bd _ _ _ l1 (Nat.le_refl _)) (cn_bd _ _ _ l1 (Nat.le_refl _)) (cn_bd _ _ _ l1 (Nat.le_refl _)) (by omega))
      have HS := Aside.intro hsuc
      obtain ⟨c5, e5⟩ : ∃ c, cn 5 (xs.take i) = c := ⟨_, rfl⟩
      obtain ⟨c3, e3⟩ : ∃ c, cn 3 (xs.take i) = c := ⟨_, rfl⟩
      obtain ⟨c4, e4⟩ : ∃ c, cn 4 (xs.take i) = c := ⟨_, rfl⟩
      obtain ⟨c1, e1⟩ : ∃ c, cn 1 (xs.take i) = c := ⟨_, rfl⟩
      obtain ⟨c2, e2⟩ : ∃ c, cn 2 (xs.take i) = c := ⟨_, rfl⟩
      have HSB := hid hT
      rw [e5, e3, e4, e1, e2] at HSB
      rw [e5] at HC hc0
      rw [e3] at HC hc1
      rw [e4] at HC hc2
      rw [e1] at HC hc3
      rw [e2] at HC hc4
      have HE := (Aside.intro (And.intro e1 (And.intro e2 (And.intro e3 (And.intro e4 e5)))))
      clear hn hx hR hB hs2 hbw hb1 hb2 hW1 hW2 hS hbut hT hr hg0 hg1 hg2 hg3 hg4 hg5 hgf hgl hin hxw hsuc hxx l1 e1 e2 e3 e4 e5 hRw hcell hfz
      go_wp2
      go_region_with (go_at_call 43; refine (HC.out _).mono ?_; rintro r w3 ⟨rfl, hb3⟩; have HQ := Aside.intro (SpB.below (w := wr.drew) HSB.out hb3 hlt); have q0 := HQ.out.c0; have q1 := HQ.out.c1; have q2 := HQ.out.c2; have q3 := HQ.out.c3; have q4 := HQ.out.c4; have q5 := HQ.out.c5; have qf := HQ.out.frozen; have HB3 := Aside.intro hb3; clear hb3)
      all_goals
        go_wp2
        go_roundg (n - (i + 1))
        case measure => omega
        case rel =>
          obtain ⟨hS, hbut⟩ := HA.out
          obtain ⟨e1, e2, e3, e4, e5⟩ := HE.out
          refine ⟨i + 1, by omega, by first | go_num | (congr 1; omega), ?_, ?_⟩
          · have h6 := SpB.set6 HQ.out ((c5 : Int) + one 5 x) ((c3 : Int) + one 3 x) ((c4 : Int) + one 4 x) ((c1 : Int) + one 1 x) ((c2 : Int) + one 2 x) ((i : Int) + 1)
            unfold SpT
            rw [HS.out 5, HS.out 3, HS.out 4, HS.out 1, HS.out 2, e1, e2, e3, e4, e5]
            first | exact h6 | exact_mod_cast h6
          · exact hbut.trans ((But.of_below (w := wr.drew) ((But.refl _ wr).drew) HB3.out).set6 _ _ _ _ _ _)
end Go.Proofs.Ytfocdjfnlbendaa

