/- Words in memory: a row of words of one's own, words that are read. -/
import Derived.Test.YthilnddhehbjiabBIeeex
import Derived.Test.YthilnddhehbjiabRows
import Derived.WalkKit
import Derived.Deep.LoopGhost
import Derived.OwnWalk
import Derived.Below
import Derived.Laws.OwnMore
import Derived.Laws.CopyOwn
import Derived.Laws.Bits64b
import Derived.Lib.Strings
import Derived.Lib.Slices
import Derived.Lib.Small
import Derived.Lib.Walk
import Derived.Lib.BitFns
import Derived.Lib.Tables
import Derived.Lib.ItoaNum
import Derived.Lib.TrailingZeros
import Derived.Deep.OwnRows
import Derived.BigQuiet
import Derived.Deep.RegionWith
import Derived.ArgAppend
import Derived.Maps.AppendAt
import Derived.WalkMore
import Derived.WalkLawsBesides
import Derived.ProofKit
import Derived.OpenShut
import Derived.ChangeOld
import Derived.SizedLaws
namespace Go.Proofs.Ythilnddhehbjiab
open Go.RowKit

theorem hid {p : Prop} (h : p) : Hid p := h
theorem _root_.Go.Aside.intro {p : Prop} (h : p) : Aside p := h

/-- A word as a cell. -/
def U (n : Nat) : Value := .int .u32 (n : Int)

/-- Block g is a row of these words, all of it, free to be written. -/
def Own (w : World) (g : Nat) (L : List Nat) : Prop := w.heap[g]? = some (.cells (L.map U).toArray 67 (0, 0))

theorem Own.lt {w : World} {g : Nat} {L : List Nat} (h : Own w g L) : g < w.heap.size := (Array.getElem?_eq_some_iff.1 h).1

theorem Own.cell {w : World} {g : Nat} {L : List Nat} (h : Own w g L) (i : Nat) (hi : i < L.length) : w.cell? ⟨g, i, none⟩ = some (.int .u32 ((L.getD i 0 : Nat) : Int)) := by
  unfold Own at h
  simp [World.cell?, h, U, hi]

theorem Own.frozen {w : World} {g : Nat} {L : List Nat} (h : Own w g L) (i : Nat) : w.frozen? ⟨g, i, none⟩ = false := by
  unfold Own at h
  simp [World.frozen?, h]

theorem Own.set {w : World} {g : Nat} {L : List Nat} (h : Own w g L) (i x : Nat) : Own (w.setCell ⟨g, i, none⟩ (.int .u32 (x : Int))) g (L.set i x) := by
  unfold Own at h ⊢
  simp only [World.setCell, Array.getElem?_modify, h]
  simp [U, List.map_set]

theorem Own.setOther {w : World} {g : Nat} {L : List Nat} (h : Own w g L) {a : Addr} (ha : a.block ≠ g) (u : Value) : Own (w.setCell a u) g L := by
  unfold Own at h ⊢
  rw [Below.heap_setCell _ _ _ _ (fun e => ha e.symm)]
  exact h

theorem Own.alloc {w : World} {g : Nat} {L : List Nat} (h : Own w g L) (o : Obj) : Own (w.alloc o) g L := by
  have := h.lt
  unfold Own at h ⊢
  rw [Below.heap_alloc _ _ _ this]
  exact h

theorem Own.drew {w : World} {g : Nat} {L : List Nat} (h : Own w g L) : Own w.drew g L := h

theorem Own.below {w w' : World} {g B : Nat} {L : List Nat} (h : Own w g L) (hb : Below B w w') (hg : g < B) : Own w' g L := by
  unfold Own at h ⊢
  rw [hb.block g hg]; exact h

/-- All blocks but g are as they were. -/
structure But (g : Nat) (w w' : World) : Prop where
  os : w'.os = w.os
  tape : w'.tape = w.tape
  output : w'.output = w.output
  size : w.heap.size ≤ w'.heap.size
  block : ∀ k, k < w.heap.size → k ≠ g → w'.heap[k]? = w.heap[k]?

theorem But.refl (g : Nat) (w : World) : But g w w := ⟨rfl, rfl, rfl, Nat.le_refl _, fun _ _ _ => rfl⟩
theorem But.trans {g : Nat} {a b c : World} (h : But g a b) (k : But g b c) : But g a c :=
  ⟨k.os.trans h.os, k.tape.trans h.tape, k.output.trans h.output, Nat.le_trans h.size k.size, fun i hi hg => (k.block i (Nat.lt_of_lt_of_le hi h.size) hg).trans (h.block i hi hg)⟩
theorem But.drew {g : Nat} {a w : World} (h : But g a w) : But g a w.drew := ⟨h.os, h.tape, h.output, h.size, h.block⟩
theorem But.set {g : Nat} {a w : World} (h : But g a w) (i : Nat) (u : Value) : But g a (w.setCell ⟨g, i, none⟩ u) :=
  h.trans ⟨rfl, rfl, rfl, by simp [World.setCell], fun k _ hk => Below.heap_setCell _ _ _ _ hk⟩
theorem But.alloc {g : Nat} {a w : World} (h : But g a w) (o : Obj) : But g a (w.alloc o) :=
  h.trans ⟨rfl, rfl, rfl, by simp, fun k hk _ => Below.heap_alloc _ _ _ hk⟩
theorem But.below {g B : Nat} {a w w' : World} (h : Below B a w) (hb : But g w w') (hB : B ≤ w.heap.size) (hg : B ≤ g) : Below B a w' :=
  h.trans ⟨hb.os, hb.tape, hb.output, hb.size, fun k hk => hb.block k (by omega) (by omega)⟩

/-- Words that are read: where there are any, they lie in a block below B. -/
def Rd (B : Nat) (w : World) (ao : Option Addr) (xs : List Nat) : Prop :=
  xs ≠ [] → ∃ b off, b < B ∧ ao = some ⟨b, off, none⟩ ∧ ∀ i, i < xs.length → w.cell? ⟨b, off + i, none⟩ = some (.int .u32 ((xs.getD i 0 : Nat) : Int))

theorem Rd.nil (B : Nat) (w : World) (ao : Option Addr) : Rd B w ao [] := fun h => absurd rfl h

theorem Rd.below {B : Nat} {w w' : World} {ao : Option Addr} {xs : List Nat} (h : Rd B w ao xs) (hb : Below B w w') : Rd B w' ao xs := by
  intro hx
  obtain ⟨b, off, hlt, rfl, hc⟩ := h hx
  exact ⟨b, off, hlt, rfl, fun i hi => (hb.cell (p := ⟨b, off + i, none⟩) hlt).trans (hc i hi)⟩

theorem Rd.but {B g : Nat} {w w' : World} {ao : Option Addr} {xs : List Nat} (h : Rd B w ao xs) (hb : But g w w') (hB : B ≤ w.heap.size) (hg : B ≤ g) : Rd B w' ao xs :=
  h.below (But.below (Below.refl _ _) hb hB hg)

theorem Rd.mono {B B' : Nat} {w : World} {ao : Option Addr} {xs : List Nat} (h : Rd B w ao xs) (hB : B ≤ B') : Rd B' w ao xs := by
  intro hx
  obtain ⟨b, off, hlt, rfl, hc⟩ := h hx
  exact ⟨b, off, by omega, rfl, hc⟩

theorem Rd.take {B : Nat} {w : World} {ao : Option Addr} {xs : List Nat} (h : Rd B w ao xs) (k : Nat) : Rd B w ao (xs.take k) := by
  intro hx
  have hx' : xs ≠ [] := by intro e; subst e; simp at hx
  obtain ⟨b, off, hlt, rfl, hc⟩ := h hx'
  refine ⟨b, off, hlt, rfl, fun i hi => ?_⟩
  simp only [List.length_take] at hi
  rw [hc i (by omega)]
  simp [List.getD_eq_getElem?_getD, show i < k by omega]

theorem Rd.ofOwn {w : World} {g : Nat} {L : List Nat} (h : Own w g L) (off n : Nat) : Rd (g + 1) w (some ⟨g, off, none⟩) ((L.drop off).take n) := by
  intro _
  refine ⟨g, off, by omega, rfl, fun i hi => ?_⟩
  simp only [List.length_take, List.length_drop] at hi
  rw [h.cell _ (by omega)]
  simp [List.getD_eq_getElem?_getD, show i < n by omega]

/-- A Nat of one's own: the words of X in their form, in a row from block lo on. -/
def Nt (lo : Nat) (w : World) (v : Value) (X : Nat) : Prop := w.ownsRow lo 67 1 v (ws X).length ((ws X).map U)

theorem Nt.nil (lo : Nat) (w : World) : Nt lo w (.slice none 0 0) 0 := by
  unfold Nt; rw [ws_zero]; exact World.ownsRow_nil _ _ _ _

theorem Nt.ofOwn {lo : Nat} {w : World} {g : Nat} {L : List Nat} (h : Own w g L) (hlo : lo ≤ g) (hL : Wf L) (hm : L.length ≤ maxLen) :
    Nt lo w (.slice (some ⟨g, 0, none⟩) (nl L) L.length) (val L) := by
  unfold Nt
  have e := form_eq L hL
  have hn := nl_le L
  rw [← e]
  refine ⟨by simp, .inr ⟨g, L.length, (L.map U).toArray, ?_, hlo, h, ?_, hm, by simp, by simp⟩⟩
  · simp [Nat.min_eq_left hn]
  · simp; omega

theorem Nt.shape {lo : Nat} {w : World} {v : Value} {X : Nat} (h : Nt lo w v X) : ∃ ao cap, v = .slice ao (ws X).length cap ∧ (ws X).length ≤ cap ∧ cap ≤ maxLen ∧ Rd w.heap.size w ao (ws X) := by
  rcases h.2 with ⟨rfl, h0⟩ | ⟨g, cap, cur, rfl, hlo, hg, hn, hm, hs, ht⟩
  · refine ⟨none, 0, by rw [h0], by omega, by unfold maxLen; omega, ?_⟩
    have : ws X = [] := List.length_eq_zero_iff.1 h0
    rw [this]; exact Rd.nil _ _ _
  · refine ⟨_, cap, rfl, hn, hm, fun _ => ⟨g, 0, (Array.getElem?_eq_some_iff.1 hg).1, rfl, fun i hi => ?_⟩⟩
    have := h.cells (g := g) (by simp [Value.ownBlock]) i (U ((ws X).getD i 0)) (by simp [hi])
    have e : (⟨g, 0, none⟩ : Addr).add i = ⟨g, 0 + i, none⟩ := by unfold Addr.add; split <;> simp_all
    rw [e] at this
    simpa [U] using this

theorem Nt.below {lo : Nat} {w w' : World} {v : Value} {X : Nat} (h : Nt lo w v X) (hb : Below w.heap.size w w') : Nt lo w' v X := by
  refine ⟨h.1, ?_⟩
  rcases h.2 with hn | ⟨g, cap, cur, rfl, hlo, hg, rest⟩
  · exact .inl hn
  · refine .inr ⟨g, cap, cur, rfl, hlo, ?_, rest⟩
    rw [hb.block g (Array.getElem?_eq_some_iff.1 hg).1]; exact hg

theorem Nt.mono {lo lo' : Nat} {w : World} {v : Value} {X : Nat} (h : Nt lo w v X) (hl : lo' ≤ lo) : Nt lo' w v X := by
  refine ⟨h.1, ?_⟩
  rcases h.2 with hn | ⟨g, cap, cur, rfl, hlo, rest⟩
  · exact .inl hn
  · exact .inr ⟨g, cap, cur, rfl, by omega, rest⟩

theorem Try.info67 : (Try.prog.info? 67).map (fun i => (i.zero, i.size, i.bytes)) = some (some (.int .u32 0), 1, 4) := by kernel_rfl
end Go.Proofs.Ythilnddhehbjiab

/- trim, size: how many words the form has. -/
namespace Go.Proofs.Ythilnddhehbjiab
open Go.RowKit

set_option maxHeartbeats 1000000 in
theorem size_any (xs : List Nat) (ao : Option Addr) (n cap B : Nat) (w : World) (hn : n = xs.length) (hm : n ≤ 9223372036854775807) (hR : Rd B w ao xs) :
    Calls Try.prog 71 #[.slice ao n cap] w fun r w' => r = .returned (.int .i64 (nl xs : Nat)) ∧ w' = w := by
  by_cases hx : xs = []
  · subst hx
    simp at hn
    subst hn
    go_enter Try.func71, Try.ntmps71
    go_wp2
    go_loopg [3] 0 (fun g s wr => s = .int .i64 0 ∧ wr = w)
    case atStart => exact ⟨rfl, rfl⟩
    case round =>
      obtain ⟨rfl, rfl⟩ := hrel
      go_wp2
      go_ret
      exact ⟨rfl, rfl⟩
  · obtain ⟨b, off, hB, rfl, hcell⟩ := hR hx
    have HN : Aside (n = xs.length) := hn
    clear hn hR hx
    go_enter Try.func71, Try.ntmps71
    go_wp2
    go_loopg [3] n (fun g s wr => g ≤ n ∧ s = .int .i64 (g : Nat) ∧ wr = w ∧ Aside (∀ j, g ≤ j → j < n → xs.getD j 0 = 0))
    case atStart => exact ⟨Nat.le_refl _, rfl, rfl, fun j h1 h2 => by omega⟩
    case round =>
      obtain ⟨hk, rfl, rfl, hz⟩ := hrel
      by_cases hk0 : gk = 0
      · subst hk0
        go_wp2
        go_ret
        rw [nl_stop xs 0 (by omega) (fun j h1 h2 => hz.out j h1 (by have := HN.out; omega)) (.inl rfl)]
        exact ⟨rfl, rfl⟩
      · obtain ⟨k, rfl⟩ : ∃ k, gk = k + 1 := ⟨gk - 1, by omega⟩
        have hcx := hcell k (by have := HN.out; omega)
        obtain ⟨x, hxx⟩ : ∃ x : Nat, xs.getD k 0 = x := ⟨_, rfl⟩
        rw [hxx] at hcx
        have HX : Aside (xs.getD k 0 = x) := hxx
        clear hxx hcell hk0
        by_cases h0 : x = 0
        · subst h0
          go_wp2
          go_roundg k
          case measure => omega
          case rel =>
            refine ⟨by omega, by go_num, rfl, fun j h1 h2 => ?_⟩
            by_cases hj : j = k
            · subst hj; exact HX.out
            · exact hz.out j (by omega) h2
        · go_wp2
          go_ret
          rw [nl_stop xs (k + 1) (by have := HN.out; omega) (fun j h1 h2 => hz.out j h1 (by have := HN.out; omega)) (.inr (by have := HX.out; rw [Nat.add_sub_cancel, this]; exact h0))]
          exact ⟨rfl, rfl⟩
end Go.Proofs.Ythilnddhehbjiab

/- Bits of words. -/
namespace Go.Proofs.Ythilnddhehbjiab
open Go.RowKit

theorem wrap_u32n (n : Int) : IntKind.u32.wrap n = n % 4294967296 := by simp [IntKind.wrap, IntKind.signed, IntKind.bits]

theorem ofInt32 (a : Nat) (ha : a < 4294967296) : (BitVec.ofInt 32 (a : Int)).toNat = a := by
  rw [BitVec.ofInt_natCast, BitVec.toNat_ofNat]; exact Nat.mod_eq_of_lt (by omega)

theorem and32 (a b : Nat) (ha : a < 4294967296) (hb : b < 4294967296) : bits .and .u32 (a : Int) (b : Int) = ((a &&& b : Nat) : Int) := by
  have hx : a &&& b < 2 ^ 32 := Nat.and_lt_two_pow _ (by omega)
  show IntKind.u32.wrap ((BitVec.ofInt 32 (a : Int) &&& BitVec.ofInt 32 (b : Int)).toNat : Int) = _
  rw [BitVec.toNat_and, ofInt32 a ha, ofInt32 b hb, wrap_u32n]
  omega
end Go.Proofs.Ythilnddhehbjiab

/- Sums and differences of words, what is long, which is greater. -/
namespace Go.Proofs.Ythilnddhehbjiab
open Go.RowKit
set_option linter.unusedVariables false
set_option maxRecDepth 20000

/-- -1, 0, 1. -/
def cmpI (x y : Nat) : Int := if x < y then -1 else if y < x then 1 else 0

end Go.Proofs.Ythilnddhehbjiab

/- Pieces of a row of words, and their value. -/
namespace Go.Proofs.Ythilnddhehbjiab
set_option linter.unusedVariables false
set_option maxRecDepth 20000

/-- The value of k words from off on. -/
def sg (L : List Nat) (off k : Nat) : Nat := val ((L.drop off).take k)

theorem sg_zero (L : List Nat) (off : Nat) : sg L off 0 = 0 := by simp [sg, val]
theorem sg_succ (L : List Nat) (off k : Nat) (h : off + k < L.length) : sg L off (k + 1) = sg L off k + pw k * L.getD (off + k) 0 := by
  unfold sg
  rw [val_take_succ _ _ (by simp; omega)]
  simp [List.getD_eq_getElem?_getD]
theorem sg_front (L : List Nat) (off k : Nat) (h : off < L.length) : sg L off (k + 1) = L.getD off 0 + 4294967296 * sg L (off + 1) k := by
  unfold sg
  rw [List.drop_eq_getElem_cons h, List.take_succ_cons, val, List.getD_eq_getElem?_getD, List.getElem?_eq_getElem h]
  rfl
theorem sg_all (L : List Nat) : sg L 0 L.length = val L := by simp [sg]
theorem sg_add (L : List Nat) (off k m : Nat) (h : off + k + m ≤ L.length) : sg L off (k + m) = sg L off k + pw k * sg L (off + k) m := by
  induction m with
  | zero => simp [sg_zero]
  | succ m ih =>
    rw [← Nat.add_assoc, sg_succ L off (k + m) (by omega), sg_succ L (off + k) m (by omega), ih (by omega), pw_add, Nat.mul_add, ← Nat.add_assoc off k m]
    simp only [Nat.mul_assoc, Nat.add_assoc]
theorem sg_congr (L M : List Nat) (off k : Nat) (hl : M.length = L.length) (h : off + k ≤ L.length) (he : ∀ j, off ≤ j → j < off + k → M.getD j 0 = L.getD j 0) : sg M off k = sg L off k := by
  induction k with
  | zero => simp [sg_zero]
  | succ k ih => rw [sg_succ M off k (by omega), sg_succ L off k (by omega), ih (by omega) (fun j h1 h2 => he j h1 (by omega)), he (off + k) (by omega) (by omega)]
theorem getD_set (L : List Nat) (i j x : Nat) : (L.set i x).getD j 0 = if i = j ∧ j < L.length then x else L.getD j 0 := by
  simp only [List.getD_eq_getElem?_getD, List.getElem?_set]
  by_cases h : i = j
  · subst h
    by_cases h2 : i < L.length
    · simp [h2]
    · simp [h2]
  · simp [h]
theorem getD_set_same (L : List Nat) (i x : Nat) (h : i < L.length) : (L.set i x).getD i 0 = x := by rw [getD_set, if_pos ⟨rfl, h⟩]
theorem getD_set_ne (L : List Nat) (i j x : Nat) (h : i ≠ j) : (L.set i x).getD j 0 = L.getD j 0 := by rw [getD_set, if_neg (fun e => h e.1)]
theorem sg_set_above (L : List Nat) (off k i x : Nat) (h : off + k ≤ i) (hl : off + k ≤ L.length) : sg (L.set i x) off k = sg L off k :=
  sg_congr L _ off k (by simp) hl (fun j _ h2 => getD_set_ne _ _ _ _ (by omega))
theorem sg_set_last (L : List Nat) (off k x : Nat) (h : off + k < L.length) : sg (L.set (off + k) x) off (k + 1) = sg L off k + pw k * x := by
  rw [sg_succ _ _ _ (by simp; omega), getD_set_same _ _ _ h, sg_set_above _ _ _ _ _ (by omega) (by omega)]
theorem sg_lt (L : List Nat) (off k : Nat) (hw : Wf L) (h : off + k ≤ L.length) : sg L off k < pw k := by
  have := val_lt _ ((hw.drop off).take k)
  simp only [List.length_take, List.length_drop] at this
  rw [Nat.min_eq_left (by omega)] at this
  exact this
theorem sg_val_take (L : List Nat) (k : Nat) : sg L 0 k = val (L.take k) := by simp [sg]
theorem getD_zeros (n i : Nat) : (List.replicate n 0).getD i 0 = 0 := by
  simp only [List.getD_eq_getElem?_getD, List.getElem?_replicate]; split <;> rfl
theorem sg_zeros (n off k : Nat) : sg (List.replicate n 0) off k = 0 := by
  unfold sg; rw [List.drop_replicate, List.take_replicate, val_zeros]

/-- M is L but for the words from off to off + n. -/
def Out (L M : List Nat) (off n : Nat) : Prop := M.length = L.length ∧ ∀ j, (j < off ∨ off + n ≤ j) → M.getD j 0 = L.getD j 0
theorem Out.refl (L : List Nat) (off n : Nat) : Out L L off n := ⟨rfl, fun _ _ => rfl⟩
theorem Out.set {L M : List Nat} {off n : Nat} (h : Out L M off n) (i x : Nat) (h1 : off ≤ i) (h2 : i < off + n) : Out L (M.set i x) off n :=
  ⟨by simp [h.1], fun j hj => by rw [getD_set_ne _ _ _ _ (by omega)]; exact h.2 j hj⟩
theorem Out.mono {L M : List Nat} {off n k : Nat} (h : Out L M off n) (hk : n ≤ k) : Out L M off k := ⟨h.1, fun j hj => h.2 j (by omega)⟩
theorem Out.trans {L M K : List Nat} {off n : Nat} (h : Out L M off n) (k : Out M K off n) : Out L K off n := ⟨k.1.trans h.1, fun j hj => (k.2 j hj).trans (h.2 j hj)⟩
theorem Out.below {L M : List Nat} {off n : Nat} (h : Out L M off n) (a k : Nat) (h1 : a + k ≤ off) (h2 : a + k ≤ L.length) : sg M a k = sg L a k := sg_congr L M a k h.1 h2 (fun j _ hj => h.2 j (by omega))
/-- One word more, with what is carried. -/
theorem carry_step (p a b V c x y s d : Nat) (h : V + c * p = a + b) (e : s + d * 4294967296 = x + y + c) : V + p * s + d * (4294967296 * p) = (a + p * x) + (b + p * y) := by
  have : p * (s + d * 4294967296) = p * (x + y + c) := by rw [e]
  grind

/-- One word more of a product, with what is carried. -/
theorem times_step (p a b V c x y q s d : Nat) (h : V + c * p = a + b * q) (e : s + d * 4294967296 = y * q + x + c) : V + p * s + d * (4294967296 * p) = (a + p * x) + (b + p * y) * q := by
  have : p * (s + d * 4294967296) = p * (y * q + x + c) := by rw [e]
  grind

theorem mul_bound (x y : Nat) (hx : x < 4294967296) (hy : y < 4294967296) : x * y ≤ 18446744065119617025 := by
  have : x * y ≤ 4294967295 * 4294967295 := Nat.mul_le_mul (by omega) (by omega)
  omega

/-- One word more of a difference. -/
theorem borrow_step (p a b V c x y s d : Nat) (h : V + b = a + c * p) (e : s + y + c = x + d * 4294967296) : V + p * s + (b + p * y) = (a + p * x) + d * (4294967296 * p) := by
  have : p * (s + y + c) = p * (x + d * 4294967296) := by rw [e]
  grind

end Go.Proofs.Ythilnddhehbjiab

/- How many bits a word has; how many noughts stand at its low end. -/
namespace Go.Proofs.Ythilnddhehbjiab
open Go.RowKit
set_option linter.unusedVariables false
set_option maxRecDepth 20000

/-- How many bits a number has. -/
def bl (n : Nat) : Nat := if n = 0 then 0 else n.log2 + 1

theorem bl_zero : bl 0 = 0 := rfl
theorem bl_lt (n : Nat) : n < 2 ^ bl n := by
  unfold bl
  split
  · next h => subst h; decide
  · exact Nat.lt_log2_self
theorem bl_ge (n : Nat) (h : n ≠ 0) : 2 ^ (bl n - 1) ≤ n := by
  unfold bl
  rw [if_neg h]
  exact Nat.log2_self_le h
theorem bl_pos (n : Nat) (h : n ≠ 0) : 0 < bl n := by unfold bl; rw [if_neg h]; omega
theorem bl_eq (n k : Nat) (h1 : 2 ^ k ≤ n) (h2 : n < 2 ^ (k + 1)) : bl n = k + 1 := by
  have hn : n ≠ 0 := by have := Nat.two_pow_pos k; omega
  have a : k < bl n := (Nat.pow_lt_pow_iff_right (a := 2) (by decide)).1 (Nat.lt_of_le_of_lt h1 (bl_lt n))
  have b : bl n - 1 < k + 1 := (Nat.pow_lt_pow_iff_right (a := 2) (by decide)).1 (Nat.lt_of_le_of_lt (bl_ge n hn) h2)
  omega

theorem bl_le32 (x : Nat) (h : x < 4294967296) : bl x ≤ 32 := by
  by_cases h0 : x = 0
  · subst h0; decide
  · have := bl_ge x h0
    have : 2 ^ (bl x - 1) < 2 ^ 32 := by omega
    have := (Nat.pow_lt_pow_iff_right (a := 2) (by decide)).1 this
    omega

end Go.Proofs.Ythilnddhehbjiab

/- How many noughts stand at the low end: of a word, of a Nat. -/
namespace Go.Proofs.Ythilnddhehbjiab
open Go.RowKit
set_option linter.unusedVariables false
set_option maxRecDepth 20000

/-- How many noughts stand at a number's low end. -/
def lo (n : Nat) : Nat := if h : n = 0 then 0 else if n % 2 = 1 then 0 else lo (n / 2) + 1
termination_by n
decreasing_by omega

theorem lo_zero : lo 0 = 0 := by rw [lo]; simp
theorem lo_odd (m : Nat) : lo (2 * m + 1) = 0 := by rw [lo]; simp
theorem lo_eq (i m : Nat) : lo (2 ^ i * (2 * m + 1)) = i := by
  induction i with
  | zero => rw [Nat.pow_zero, Nat.one_mul]; exact lo_odd m
  | succ i ih =>
    have h : 2 ^ (i + 1) * (2 * m + 1) = 2 * (2 ^ i * (2 * m + 1)) := by rw [Nat.pow_succ]; grind
    have hp : 0 < 2 ^ i * (2 * m + 1) := Nat.mul_pos (Nat.two_pow_pos i) (by omega)
    rw [h, lo, dif_neg (by omega), if_neg (by omega), Nat.mul_div_cancel_left _ (by decide), ih]

end Go.Proofs.Ythilnddhehbjiab

/- Rows of words that are made, and words that are copied into them. -/
namespace Go.Proofs.Ythilnddhehbjiab
open Go.RowKit
set_option linter.unusedVariables false
set_option maxRecDepth 20000

theorem make_words (z : Int) (n : Nat) (hz : z = (n : Int)) (hn : n ≤ 70368744177664) (w : World) :
    (Instr.makeSlice 41 (.int .i64 z) (.int .i64 z)).run Try.prog w = .ok (.slice (some ⟨w.heap.size, 0, none⟩) n n) (w.alloc (.cells (madeCells #[.int .u32 0] n) 67)) := by
  subst hz
  exact run_make_row' 41 67 (.int .u32 0) 4 Try.underlying41 Try.info67 rfl .i64 .i64 n (by omega) (by omega) w

theorem Own.made (w : World) (n : Nat) : Own (w.alloc (.cells (madeCells #[.int .u32 0] n) 67)) w.heap.size (List.replicate n 0) := by
  unfold Own
  have h1 := heap_alloc_new w (.cells (madeCells #[.int .u32 0] n) 67)
  rw [h1]
  congr 2
  apply Array.toList_inj.1
  rw [toList_madeCells_one]
  simp [U]

theorem Rd.drop {B : Nat} {w : World} {b off : Nat} {xs : List Nat} (h : Rd B w (some ⟨b, off, none⟩) xs) (k : Nat) : Rd B w (some ⟨b, off + k, none⟩) (xs.drop k) := by
  intro hx
  have hx' : xs ≠ [] := by intro e; subst e; simp at hx
  obtain ⟨b', off', hlt, e, hc⟩ := h hx'
  cases e
  refine ⟨b, off + k, hlt, rfl, fun i hi => ?_⟩
  simp only [List.length_drop] at hi
  rw [Nat.add_assoc, hc (k + i) (by omega)]
  simp [List.getD_eq_getElem?_getD]

end Go.Proofs.Ythilnddhehbjiab

/- Shifts of words. -/
namespace Go.Proofs.Ythilnddhehbjiab
open Go.RowKit
set_option linter.unusedVariables false
set_option maxRecDepth 20000

theorem pw_two (words rest : Nat) : 2 ^ (32 * words + rest) = pw words * 2 ^ rest := by
  rw [Nat.pow_add, Nat.pow_mul]; rfl

end Go.Proofs.Ythilnddhehbjiab

/- Len, Bit, Of, Small. -/
namespace Go.Proofs.Ythilnddhehbjiab
open Go.RowKit
set_option linter.unusedVariables false
set_option maxRecDepth 20000

theorem form_top (xs : List Nat) (hx : Wf xs) (k : Nat) (hk : nl xs = k + 1) : val xs = sg xs 0 k + pw k * xs.getD k 0 ∧ sg xs 0 k < pw k ∧ xs.getD k 0 ≠ 0 ∧ k < xs.length := by
  have hl := nl_le xs
  have h1 := val_form xs hx
  rw [hk, val_take_succ xs k (by omega), ← sg_val_take] at h1
  have h2 := nl_last xs (by omega)
  rw [hk, Nat.add_sub_cancel] at h2
  exact ⟨h1.symm, sg_lt xs 0 k hx (by omega), h2, by omega⟩

theorem bl_words (xs : List Nat) (hx : Wf xs) (k : Nat) (hk : nl xs = k + 1) : bl (val xs) = 32 * k + bl (xs.getD k 0) := by
  obtain ⟨e, hlt, h0, hl⟩ := form_top xs hx k hk
  obtain ⟨t, ht⟩ : ∃ t, xs.getD k 0 = t := ⟨_, rfl⟩
  rw [ht] at e h0 ⊢
  obtain ⟨c, hc⟩ : ∃ c, bl t = c + 1 := ⟨bl t - 1, by have := bl_pos t h0; omega⟩
  have h1 := bl_ge t h0
  have h2 := bl_lt t
  rw [hc] at h1 h2 ⊢
  rw [Nat.add_sub_cancel] at h1
  have p1 : 2 ^ (32 * k + c) = pw k * 2 ^ c := pw_two k c
  have p2 : 2 ^ (32 * k + c + 1) = pw k * 2 ^ (c + 1) := by rw [Nat.add_assoc, pw_two]
  have := bl_eq (val xs) (32 * k + c) (by
    rw [p1, e]
    have := Nat.mul_le_mul_left (pw k) h1
    omega) (by
    rw [p2, e]
    have : pw k * (t + 1) ≤ pw k * 2 ^ (c + 1) := Nat.mul_le_mul_left (pw k) (by omega)
    rw [Nat.mul_add] at this
    omega)
  omega

end Go.Proofs.Ythilnddhehbjiab

/- Long division: what holds from word to word. -/
namespace Go.Proofs.Ythilnddhehbjiab
open Go.RowKit
set_option linter.unusedVariables false
set_option maxRecDepth 20000

theorem Own.but {w w' : World} {g k : Nat} {L : List Nat} (h : Own w k L) (hb : But g w w') (hk : k ≠ g) : Own w' k L := by
  have := h.lt
  unfold Own at h ⊢
  rw [hb.block k this hk]; exact h

theorem Nt.lt {lo : Nat} {w : World} {v : Value} {X : Nat} (h : Nt lo w v X) : ∀ g, v.ownBlock = some g → lo ≤ g ∧ g < w.heap.size := fun g hg => World.ownsRow.lt h g hg

end Go.Proofs.Ythilnddhehbjiab

/- nearRoot: the root, or one more. -/
namespace Go.Proofs.Ythilnddhehbjiab
open Go.RowKit
set_option linter.unusedVariables false
set_option maxRecDepth 20000

theorem ws_len_mono {X Y : Nat} (h : X ≤ Y) : (ws X).length ≤ (ws Y).length := (ws_len_le X _).2 (Nat.lt_of_le_of_lt h (ws_len_lt Y))

/-- The Nat of one word 1. -/
theorem Nt.one (w : World) : Nt w.heap.size (w.alloc (.cells #[.int .u32 1] 67)) (.slice (some ⟨w.heap.size, 0, none⟩) 1 1) 1 := by
  have hO : Own (w.alloc (.cells #[.int .u32 1] 67)) w.heap.size [1] := by unfold Own; rw [heap_alloc_new]; rfl
  have := Nt.ofOwn (lo := w.heap.size) hO (Nat.le_refl _) (Wf.cons (by omega) Wf.nil) (by simp [maxLen])
  exact this
end Go.Proofs.Ythilnddhehbjiab

/- mul: a product in new memory. -/
namespace Go.Proofs.Ythilnddhehbjiab
open Go.RowKit
set_option linter.unusedVariables false
set_option maxRecDepth 20000

theorem mul_step (p V b x r q c : Nat) (h : V + p * r = b * q) : V + p * (r + q * x) = (b + p * x) * q := by grind

end Go.Proofs.Ythilnddhehbjiab

/- Cmp, same. -/
namespace Go.Proofs.Ythilnddhehbjiab
open Go.RowKit
set_option linter.unusedVariables false
set_option maxRecDepth 20000

/-- Which of two is greater, by their highest words that differ. -/
theorem cmp_words (xs ys : List Nat) (hx : Wf xs) (hy : Wf ys) (j d : Nat) (h1 : j + 1 + d ≤ xs.length) (h2 : j + 1 + d ≤ ys.length) (ht : sg xs (j + 1) d = sg ys (j + 1) d) (hlt : xs.getD j 0 < ys.getD j 0) :
    sg xs 0 (j + 1 + d) < sg ys 0 (j + 1 + d) := by
  rw [sg_add xs 0 (j + 1) d (by omega), sg_add ys 0 (j + 1) d (by omega), Nat.zero_add, ht, sg_succ xs 0 j (by omega), sg_succ ys 0 j (by omega), Nat.zero_add]
  have h3 := sg_lt xs 0 j hx (by omega)
  have h4 : pw j * (xs.getD j 0 + 1) ≤ pw j * ys.getD j 0 := Nat.mul_le_mul_left _ hlt
  rw [Nat.mul_add] at h4
  omega

theorem cmp_len (xs ys : List Nat) (hx : Wf xs) (hy : Wf ys) (h : nl xs < nl ys) : val xs < val ys := by
  rw [nl_eq_length xs hx, nl_eq_length ys hy] at h
  have h1 := ws_len_lt (val xs)
  have h2 : val ys ≠ 0 := by intro e; rw [e, ws_zero] at h; simp at h
  have h3 := ws_len_ge (val ys) h2
  have h4 := pw_mono (show (ws (val xs)).length ≤ (ws (val ys)).length - 1 by omega)
  omega

theorem cmpI_lt {x y : Nat} (h : x < y) : cmpI x y = -1 := by simp [cmpI, h]
theorem cmpI_gt {x y : Nat} (h : y < x) : cmpI x y = 1 := by simp [cmpI, h]; omega
theorem cmpI_eq {x y : Nat} (h : x = y) : cmpI x y = 0 := by simp [cmpI, h]
end Go.Proofs.Ythilnddhehbjiab

/- Add, Sub. -/
namespace Go.Proofs.Ythilnddhehbjiab
open Go.RowKit
set_option linter.unusedVariables false
set_option maxRecDepth 20000

/-- Is a number long? -/
abbrev LG (X : Nat) : Prop := 8192 < (ws X).length
end Go.Proofs.Ythilnddhehbjiab

/- The document's Norm, Len; Formed; pick, few. -/
namespace Go.Proofs.Ythilnddhehbjiab
open Go.RowKit
set_option linter.unusedVariables false
set_option maxRecDepth 20000

theorem append_words (w : World) (lo : Nat) (v : Value) (n : Nat) (xs src : List Nat) (ao : Option Addr) (m c B : Nat) (ty : TypeId) (hown : w.ownsRow lo 67 1 v n (xs.map U)) (hm : m = src.length) (hR : Rd B w ao src)
    (hnil : ao = none → c = 0) (hbig : n + m ≤ 35184372088832) (hlo : lo ≤ w.heap.size) :
    ∃ v' w', (Builtin.append_ #[41, 41] ty #[v, .slice ao m c]).run Try.prog w = .ok v' w' ∧ w'.ownsRow lo 67 1 v' (n + m) ((xs ++ src).map U) ∧ w.grownBy w' v.ownBlock := by
  obtain ⟨i0, hi, hz0, hz1, hz2⟩ := info_parts Try.info67
  subst hm
  rcases hao : ao with _ | a
  · have h0 : src = [] := by
      by_cases h : src = []
      · exact h
      · obtain ⟨b, off, _, e, _⟩ := hR h
        rw [hao] at e; cases e
    subst h0
    have hc := hnil hao
    subst hc
    exact ⟨v, w, run_append_owned_none (P := Try.prog) w lo 41 ty 67 i0 1 Try.underlying41 hi v n _ hown, by simpa using hown, World.grownBy.refl _ _⟩
  · obtain ⟨v', w', h1, h2, h3, _⟩ := run_append_own (P := Try.prog) w lo 41 ty 67 i0 (.int .u32 0) 1 4 Try.underlying41 hi hz0 hz1 hz2 rfl (by decide) v n (xs.map U) hown a src.length c (src.map U) (by simp) (by
      intro j u hj
      have hj2 : j < src.length := by have := (List.getElem?_eq_some_iff.1 hj).1; simpa using this
      obtain ⟨b, off, _, e, hc⟩ := hR (by intro e; subst e; simp at hj2)
      rw [hao] at e
      cases e
      have hadd : (⟨b, off, none⟩ : Addr).add j = ⟨b, off + j, none⟩ := by unfold Addr.add; split <;> simp_all
      rw [hadd, hc j hj2]
      simp [hj2, U] at hj
      simp [hj2, ← hj]) (by
      intro u hu
      obtain ⟨x, _, rfl⟩ := List.mem_map.1 hu
      rfl) (by unfold maxLen; omega) (by omega) hlo
    exact ⟨v', w', h1, by rw [List.map_append]; exact h2, h3⟩

/-- An append whose run is known, as a law for the walk. -/
theorem wpList_append_run {w : World} {ops : Array Oper} {rest : List Oper} {o : Oper} {a : Act} {Q : Exit → Act → World → Prop} (hgd : o.guard = none) (s x : Operand)
    (ho : o.op = .call { callee := .builtin .append, args := #[s, x], argTypes := #[41, 41] }) (v u : Value) (hs : a.eval s = v) (hx : a.eval x = u) (v' : Value) (w' : World)
    (hrun : (Builtin.append_ #[41, 41] o.type #[v, u]).run Try.prog w = .ok v' w') (h : wpList Try.prog ops Q rest (a.put o.dst v') w') : wpList Try.prog ops Q (o :: rest) a w := by
  refine wpList_plain hgd fun K hK => ?_
  unfold Oper.wp
  simp [execOp, ho, resolve, invoke, builtin, hs, hx, hrun, Result.andThen]
  exact hK _ _ h

set_option maxHeartbeats 1000000 in
theorem rNorm_any (xs : List Nat) (ao : Option Addr) (n cap B : Nat) (w : World) (hn : n = xs.length) (hc : n ≤ cap) (hm : n ≤ 35184372088832) (hx : Wf xs) (hR : Rd B w ao xs) (hnil : ao = none → cap = 0) :
    Calls Try.prog 74 #[.slice ao n cap] w fun r w' => ∃ v, r = .returned v ∧ Nt w.heap.size w' v (val xs) ∧ Below w.heap.size w w' := by
  have S := hid (size_any xs ao n cap B w hn (by omega) hR)
  have hl := nl_le xs
  have hf := form_eq xs hx
  obtain ⟨v', w', hap, hown, hgrow⟩ := append_words w w.heap.size (.slice none 0 0) 0 [] (xs.take (nl xs)) ao (nl xs) cap B 41 (World.ownsRow_nil _ _ _ _) (by rw [List.length_take]; omega) (hR.take _) hnil (by omega) (Nat.le_refl _)
  have hN : Nt w.heap.size w' v' (val xs) := by
    unfold Nt
    rw [← hf]
    simpa [Nat.min_eq_left hl] using hown
  have hb : Below w.heap.size w w' := (Below.refl _ _).grown hgrow (Nat.le_refl _) (fun k hk => by simp [Value.ownBlock] at hk)
  have HN := (Aside.intro (And.intro hN hb))
  obtain ⟨k, hk⟩ : ∃ k, nl xs = k := ⟨_, rfl⟩
  rw [hk] at S hap hl
  have hkn : k ≤ n := by omega
  have HZ : Aside (n = 0 → val xs = 0) := by intro h0; have : xs = [] := List.length_eq_zero_iff.1 (by omega); rw [this]; rfl
  clear hN hb hown hgrow hf hl hn hx hR hk
  rcases hao : ao with _ | a
  · have hc0 := hnil hao
    subst hc0
    subst hao
    obtain rfl : n = 0 := by omega
    obtain rfl : k = 0 := by omega
    go_enter Try.func74, Try.ntmps74
    go_wp2_with fail
    refine (Calls.mono S.out) ?_
    rintro r w1 ⟨rfl, rfl⟩
    go_wp2
    go_ret
    rw [HZ.out (by trivial)]
    exact ⟨_, rfl, Nt.nil _ _, Below.refl _ _⟩
  · subst hao
    go_enter Try.func74, Try.ntmps74
    go_wp2_with fail
    refine (Calls.mono S.out) ?_
    rintro r w1 ⟨rfl, rfl⟩
    have HAP := hid hap
    clear hap
    go_wp2_with (at_builtin; refine wpList_append_run rfl (.tmp 4) (.tmp 8) rfl _ _ rfl rfl _ _ HAP.out ?_)
    go_ret
    exact ⟨_, rfl, HN.out.1, HN.out.2⟩

theorem bl_half (x : Nat) (h : x ≠ 0) : bl x = bl (x / 2) + 1 := by
  by_cases h1 : x = 1
  · subst h1; decide
  · have hx2 : x / 2 ≠ 0 := by omega
    obtain ⟨c, hc⟩ : ∃ c, bl (x / 2) = c + 1 := ⟨bl (x / 2) - 1, by have := bl_pos _ hx2; omega⟩
    have a := bl_ge _ hx2
    have b := bl_lt (x / 2)
    rw [hc] at a b ⊢
    rw [Nat.add_sub_cancel] at a
    exact bl_eq x (c + 1) (by rw [Nat.pow_succ]; omega) (by rw [Nat.pow_succ]; omega)

set_option maxHeartbeats 1000000 in
theorem rLen_any (xs : List Nat) (ao : Option Addr) (n cap B : Nat) (w : World) (hn : n = xs.length) (hm : n ≤ 70368744177664) (hx : Wf xs) (hR : Rd B w ao xs) :
    Calls Try.prog 51 #[.slice ao n cap] w fun r w' => r = .returned (.int .i64 (bl (val xs) : Nat)) ∧ w' = w := by
  have H := hid (size_any xs ao n cap B w hn (by omega) hR)
  have hl := nl_le xs
  rcases hk : nl xs with _ | k
  · rw [(nl_zero_iff xs).1 hk, bl_zero]
    rw [hk] at H
    clear hk hl hn hx hR
    go_enter Try.func51, Try.ntmps51
    go_wp2_with fail
    refine (Calls.mono H.out) ?_
    rintro r w1 ⟨rfl, rfl⟩
    go_wp2
    go_ret
    exact ⟨rfl, rfl⟩
  · have hbw := bl_words xs hx k hk
    rw [hk] at H hl
    obtain ⟨e, hlt, h0, hl2⟩ := form_top xs hx k hk
    obtain ⟨b, off, hB, rfl, hcell⟩ := hR (by intro e; subst e; simp at hl)
    have hck := hcell k hl2
    obtain ⟨t, ht⟩ : ∃ t, xs.getD k 0 = t := ⟨_, rfl⟩
    have htl : t < 4294967296 := ht ▸ hx.get k
    rw [ht] at hck hbw
    have hb := bl_le32 t htl
    have hkn : k < n := by omega
    have HB := (Aside.intro (And.intro hbw hb))
    clear hk hl hn hx hR e hlt h0 hl2 hcell ht hbw hb
    go_enter Try.func51, Try.ntmps51
    go_wp2_with fail
    refine (Calls.mono H.out) ?_
    rintro r w1 ⟨rfl, rfl⟩
    go_wp2
    go_loopg [4, 5] t (fun gk bv xv wr => ∃ c : Nat, bv = .int .i64 (c : Nat) ∧ xv = .int .u32 (gk : Nat) ∧ gk ≤ t ∧ c ≤ 32 * k + 32 ∧ wr = w1 ∧ Aside (c + bl gk = 32 * k + bl t))
    case atStart => exact ⟨32 * k, by first | go_num | (congr 1; omega), rfl, Nat.le_refl _, by omega, rfl, rfl⟩
    case round =>
      obtain ⟨c, rfl, rfl, hgt, hc, rfl, HA⟩ := hrel
      by_cases hg0 : gk = 0
      · subst hg0
        go_wp2
        go_ret
        have h1 := HA.out
        rw [bl_zero, Nat.add_zero] at h1
        rw [HB.out.1, ← h1]
        exact ⟨rfl, rfl⟩
      · have hg1 : (0 : Int) < (gk : Int) := by omega
        obtain ⟨g2, hg2⟩ : ∃ g, g = gk / 2 := ⟨_, rfl⟩
        have e2 : (gk : Int) / 2 = (g2 : Int) := by omega
        have HX := (Aside.intro (And.intro hg2 hg0))
        clear hg2 hg0
        go_wp2
        go_roundg g2
        case measure => obtain ⟨hg2, hg0⟩ := HX.out; omega
        case rel =>
          obtain ⟨hg2, hg0⟩ := HX.out
          have h1 := HA.out
          have h2 := bl_half gk hg0
          rw [← hg2] at h2
          have h3 := HB.out.2
          exact ⟨c + 1, by go_num, by first | rfl | rw [e2], by omega, by omega, rfl, by rw [Aside]; omega⟩

end Go.Proofs.Ythilnddhehbjiab

/- The document's Lent, AsLent. -/
namespace Go.Proofs.Ythilnddhehbjiab
open Go.RowKit
set_option linter.unusedVariables false
set_option maxRecDepth 20000

theorem But.drewN {g : Nat} {a w : World} (h : But g a w) (n : Nat) : But g a (w.drewN n) := ⟨h.os, h.tape, h.output, h.size, h.block⟩

end Go.Proofs.Ythilnddhehbjiab

/- Rows of words that are kept in a book: what is appended, what stays; the document's Take. -/
namespace Go.Proofs.Ythilnddhehbjiab
open Go.RowKit
set_option linter.unusedVariables false
set_option maxRecDepth 20000

/-- A row of words. -/
abbrev Rw (lo : Nat) (w : World) (v : Value) (n : Nat) (ys : List Value) : Prop := w.ownsRow lo 67 1 v n ys

theorem Try.info41 : (Try.prog.info? 41).map (fun i => (i.zero, i.size, i.bytes)) = some (some (.slice none 0 0), 1, 24) := by kernel_rfl

theorem row_other {w w' : World} {lo e s : Nat} {v : Value} {n : Nat} {ys : List Value} (h : w.ownsRow lo e s v n ys) (hb : ∀ g, v.ownBlock = some g → w'.heap[g]? = w.heap[g]?) : w'.ownsRow lo e s v n ys := by
  refine ⟨h.1, ?_⟩
  rcases h.2 with hn | ⟨g, cap, cur, rfl, hlo, hg, rest⟩
  · exact .inl hn
  · refine .inr ⟨g, cap, cur, rfl, hlo, ?_, rest⟩
    rw [hb g rfl]; exact hg

/-- One word appended to a row of words: what else there is, and what is shorter in the same row, stays. -/
theorem append_word (w : World) (lo : Nat) (v : Value) (n : Nat) (ys : List Value) (x : Value) (s : Nat) (ty : TypeId) (hown : Rw lo w v n ys) (hx : w.cell? ⟨s, 0, none⟩ = some x) (h1 : x.oneCell' = true)
    (hbig : n + 1 ≤ 35184372088832) (hlo : lo ≤ w.heap.size) :
    ∃ v' w', (Builtin.append_ #[41, 41] ty #[v, .slice (some ⟨s, 0, none⟩) 1 1]).run Try.prog w = .ok v' w' ∧ Rw lo w' v' (n + 1) (ys ++ [x]) ∧ w.grownBy w' v.ownBlock ∧
      (v'.ownBlock = v.ownBlock ∨ ∃ g, v'.ownBlock = some g ∧ w.heap.size ≤ g) ∧ (∀ (u : Value) (k : Nat) (zs : List Value), Rw lo w u k zs → (u.ownBlock = v.ownBlock → k ≤ n) → Rw lo w' u k zs) := by
  obtain ⟨i0, hi, hz0, hz1, hz2⟩ := info_parts Try.info67
  have hnews : ∀ j u, [x][j]? = some u → w.cell? ((⟨s, 0, none⟩ : Addr).add j) = some u := by
    intro j u hj
    match j, hj with
    | 0, hj => simp at hj; subst hj; simpa [Addr.add] using hx
  have h1' : ∀ u ∈ [x], u.oneCell' = true := by intro u hu; simp at hu; subst hu; exact h1
  have keep : ∀ w', w.grownBy w' none → ∀ (u : Value) (k : Nat) (zs : List Value), Rw lo w u k zs → Rw lo w' u k zs := by
    intro w' hg u k zs hr
    rcases hr.2 with hn | ⟨g, cap, cur, rfl, hl, hgb, rest⟩
    · exact ⟨hr.1, .inl hn⟩
    · refine ⟨hr.1, .inr ⟨g, cap, cur, rfl, hl, ?_, rest⟩⟩
      rw [hg.block g (Array.getElem?_eq_some_iff.1 hgb).1 (by simp)]; exact hgb
  have newb : ∀ (v' : Value) (w' : World) (m : Nat) (zs : List Value), w'.ownsRow w.heap.size 67 1 v' (m + 1) zs → ∃ g, v'.ownBlock = some g ∧ w.heap.size ≤ g := by
    intro v' w' m zs h
    rcases h.2 with ⟨_, h0⟩ | ⟨g, cap, cur, rfl, hl, _⟩
    · omega
    · exact ⟨g, rfl, hl⟩
  have mono : ∀ (v' : Value) (w' : World) (m : Nat) (zs : List Value), w'.ownsRow w.heap.size 67 1 v' m zs → Rw lo w' v' m zs := by
    intro v' w' m zs h
    refine ⟨h.1, ?_⟩
    rcases h.2 with hn | ⟨g, cap, cur, rfl, hl, rest⟩
    · exact .inl hn
    · exact .inr ⟨g, cap, cur, rfl, by omega, rest⟩
  rcases hown.2 with ⟨rfl, rfl⟩ | ⟨g, cap, cur, rfl, hlg, hg, hnc, hm, hs, ht⟩
  · obtain ⟨v', w', r1, r2, r3, _, _⟩ := run_append_own_at (P := Try.prog) w w.heap.size 41 ty 67 i0 (.int .u32 0) 1 4 Try.underlying41 hi hz0 hz1 hz2 rfl (by decide) (.slice none 0 0) 0 [] (World.ownsRow_nil _ _ _ _) ⟨s, 0, none⟩ 1 1 [x] rfl hnews h1' (by unfold maxLen; omega) (by omega) (Nat.le_refl _)
    have hy : ys = [] := List.eq_nil_of_length_eq_zero (by simpa using hown.1)
    subst hy
    exact ⟨v', w', r1, mono _ _ _ _ (by simpa using r2), r3, .inr (newb _ _ 0 _ (by simpa using r2)), fun u k zs hr _ => keep _ r3 u k zs hr⟩
  · by_cases hroom : n + 1 ≤ cap
    · have hr := run_append_room (P := Try.prog) w 41 ty 67 i0 Try.underlying41 hi g n cap cur hg ⟨s, 0, none⟩ 1 1 [x] (by rw [hz1]; rfl) hnews h1' hroom (by rw [hz1, hs]; simp; omega)
      rw [hz1] at hr
      refine ⟨_, _, hr, ⟨by simpa using hown.1, .inr ⟨g, cap, _, rfl, hlg, setRow_heap w g cur _ 67 _ hg, hroom, hm, ?_, ?_⟩⟩, ⟨rfl, rfl, rfl, by simp, fun k _ hk => setRow_other w g k _ (fun e => hk (by simp [Value.ownBlock, e]))⟩, .inl rfl, ?_⟩
      · simp only [List.size_toArray, List.length_append, List.length_take, List.length_drop, Array.length_toList, List.length_cons, List.length_nil]
        omega
      · rw [ht]
        have hyl : ys.length = n := by simpa using hown.1
        simp only [Nat.mul_one, List.append_assoc]
        rw [← List.append_assoc]
        rw [List.take_append_of_le_length (by simp [hyl])]
        rw [List.take_of_length_le (by simp [hyl])]
      · intro u k zs hr2 hle
        rcases hr2.2 with hn | ⟨g2, cap2, cur2, rfl, hl2, hg2, hnc2, hm2, hs2, ht2⟩
        · exact ⟨hr2.1, .inl hn⟩
        · by_cases he : g2 = g
          · subst he
            rw [hg] at hg2
            cases hg2
            have hk := hle rfl
            refine ⟨hr2.1, .inr ⟨g2, cap2, _, rfl, hl2, setRow_heap w g2 cur _ 67 _ hg, hnc2, hm2, ?_, ?_⟩⟩
            · simp only [List.size_toArray, List.length_append, List.length_take, List.length_drop, Array.length_toList, List.length_cons, List.length_nil]
              omega
            · have hcl : cur.toList.length = cap2 := by simpa using hs2
              rw [← ht2]
              simp only [Nat.mul_one, List.append_assoc]
              rw [List.take_append_of_le_length (by rw [List.length_take]; omega), List.take_take, Nat.min_eq_left hk]
          · refine ⟨hr2.1, .inr ⟨g2, cap2, cur2, rfl, hl2, ?_, hnc2, hm2, hs2, ht2⟩⟩
            rw [setRow_other w g g2 _ he]; exact hg2
    · obtain ⟨v', w', r1, r2, r3⟩ := run_append_arg_grows (P := Try.prog) w 41 ty 67 i0 (.int .u32 0) 1 4 Try.underlying41 hi hz0 hz1 hz2 rfl (by decide) ⟨g, 0, none⟩ n cap ys (by simpa using hown.1) (fun j u hj => hown.cells (g := g) (by simp [Value.ownBlock]) j u hj) ⟨s, 0, none⟩ 1 1 [x] rfl hnews (by omega) (by unfold maxLen; omega) (by omega)
      exact ⟨v', w', r1, mono _ _ _ _ r2, ⟨r3.os, r3.tape, r3.output, r3.size, fun k hk _ => r3.block k hk (by simp)⟩, .inr (newb _ _ n _ r2), fun u k zs hr _ => keep _ r3 u k zs hr⟩

/-- The law for the walk, of whatever slices. -/
theorem wpList_append_run2 {w : World} {ops : Array Oper} {rest : List Oper} {o : Oper} {a : Act} {Q : Exit → Act → World → Prop} (hgd : o.guard = none) (s x : Operand) (t : TypeId)
    (ho : o.op = .call { callee := .builtin .append, args := #[s, x], argTypes := #[t, t] }) (v u : Value) (hs : a.eval s = v) (hx : a.eval x = u) (v' : Value) (w' : World)
    (hrun : (Builtin.append_ #[t, t] o.type #[v, u]).run Try.prog w = .ok v' w') (h : wpList Try.prog ops Q rest (a.put o.dst v') w') : wpList Try.prog ops Q (o :: rest) a w := by
  refine wpList_plain hgd fun K hK => ?_
  unfold Oper.wp
  simp [execOp, ho, resolve, invoke, builtin, hs, hx, hrun, Result.andThen]
  exact hK _ _ h

end Go.Proofs.Ythilnddhehbjiab

/- What Owned keeps to, phase by phase. -/
namespace Go.Proofs.Ythilnddhehbjiab
open Go.RowKit
set_option linter.unusedVariables false
set_option maxRecDepth 20000

def slen : Value → Nat
  | .slice _ n _ => n
  | _ => 0
def nth (vs : List Value) (i : Nat) : Value := vs.getD i (.slice none 0 0)

theorem Rw.len {lo : Nat} {w : World} {v : Value} {n : Nat} {ys : List Value} (h : Rw lo w v n ys) : slen v = n := by
  rcases h.2 with ⟨rfl, h0⟩ | ⟨g, cap, cur, rfl, _⟩
  · exact h0.symm
  · rfl

theorem Rw.lt {lo : Nat} {w : World} {v : Value} {n : Nat} {ys : List Value} (h : Rw lo w v n ys) (b : Nat) (hb : v.ownBlock = some b) : lo ≤ b ∧ b < w.heap.size ∧ ∃ cur, w.heap[b]? = some (.cells cur 67 (0, 0)) := by
  rcases h.2 with ⟨rfl, h0⟩ | ⟨g, cap, cur, rfl, hlo, hg, _⟩
  · cases hb
  · cases hb
    exact ⟨hlo, (Array.getElem?_eq_some_iff.1 hg).1, cur, hg⟩

/-- Nats of one's own, in rows apart. -/
structure Nice (lo : Nat) (w : World) (vs : List Value) : Prop where
  rows : ∀ i, i < vs.length → ∃ ys, Rw lo w (nth vs i) (slen (nth vs i)) ys
  small : ∀ i, i < vs.length → slen (nth vs i) ≤ 35184372088000
  apart : ∀ i j, i < vs.length → j < vs.length → i ≠ j → ∀ b, (nth vs i).ownBlock = some b → (nth vs j).ownBlock ≠ some b

end Go.Proofs.Ythilnddhehbjiab

/- The document's Owned. -/
namespace Go.Proofs.Ythilnddhehbjiab
open Go.RowKit
set_option linter.unusedVariables false
set_option maxRecDepth 20000

theorem Rw.cell {lo : Nat} {w : World} {g n cap : Nat} {ys : List Value} (h : Rw lo w (.slice (some ⟨g, 0, none⟩) n cap) n ys) (k : Nat) (u : Value) (hk : ys[k]? = some u) : w.cell? ⟨g, k, none⟩ = some u := by
  have h1 := h.cells (g := g) (by simp [Value.ownBlock]) k u hk
  have e : (⟨g, 0, none⟩ : Addr).add k = ⟨g, k, none⟩ := by unfold Addr.add; split <;> simp_all
  rw [e] at h1
  exact h1

theorem Rw.frozen {lo : Nat} {w : World} {g n cap : Nat} {ys : List Value} (h : Rw lo w (.slice (some ⟨g, 0, none⟩) n cap) n ys) (k : Nat) : w.frozen? ⟨g, k, none⟩ = false := by
  rcases h.2 with ⟨e, _⟩ | ⟨g2, cap2, cur2, e, _, hg2, _⟩
  · cases e
  · cases e
    simp [World.frozen?, hg2]

theorem Rw.shape {lo : Nat} {w : World} {v : Value} {n : Nat} {ys : List Value} (h : Rw lo w v n ys) : ∃ ao cap, v = .slice ao n cap ∧ n ≤ cap ∧ cap ≤ maxLen ∧ (0 < n → ∃ g, ao = some ⟨g, 0, none⟩) := by
  rcases h.2 with ⟨rfl, h0⟩ | ⟨g, cap, cur, rfl, _, _, hn, hm, _⟩
  · exact ⟨none, 0, by rw [h0], by omega, by unfold maxLen; omega, fun h => absurd h (by omega)⟩
  · exact ⟨_, cap, rfl, hn, hm, fun _ => ⟨g, rfl⟩⟩

end Go.Proofs.Ythilnddhehbjiab

/- The document's at, Plus, Minus. -/
namespace Go.Proofs.Ythilnddhehbjiab
open Go.RowKit
set_option linter.unusedVariables false
set_option maxRecDepth 20000

theorem Rw.words {lo : Nat} {w : World} {v : Value} {n : Nat} {L : List Nat} (h : Rw lo w v n (L.map U)) : ∃ ao cap, v = .slice ao n cap ∧ n ≤ cap ∧ n = L.length ∧ (ao = none → cap = 0) ∧ Rd w.heap.size w ao L := by
  have hl : n = L.length := by have := h.1; simp at this; omega
  rcases h.2 with ⟨rfl, h0⟩ | ⟨g, cap, cur, rfl, hlo, hg, hn, hm, hs, ht⟩
  · refine ⟨none, 0, by rw [h0], by omega, hl, fun _ => rfl, ?_⟩
    have : L = [] := List.length_eq_zero_iff.1 (by omega)
    rw [this]; exact Rd.nil _ _ _
  · refine ⟨_, cap, rfl, hn, hl, (fun e => by cases e), fun _ => ⟨g, 0, (Array.getElem?_eq_some_iff.1 hg).1, rfl, fun i hi => ?_⟩⟩
    have h1 := Rw.cell h i (U (L.getD i 0)) (by simp [hi])
    rw [Nat.zero_add]
    exact h1

theorem val_take_all (xs : List Nat) (k : Nat) : val (xs.take (k + 1)) = val (xs.take k) + pw k * xs.getD k 0 := by
  by_cases h : k < xs.length
  · exact val_take_succ xs k h
  · rw [List.take_of_length_le (by omega), List.take_of_length_le (by omega)]
    simp [List.getD_eq_getElem?_getD, List.getElem?_eq_none (show xs.length ≤ k by omega)]

theorem plus_step (p V c a b x y s d : Nat) (h : V + c * p = a + b) (e : s + d * 4294967296 = x + y + c) : (V + p * s) + d * (4294967296 * p) = (a + p * x) + (b + p * y) := carry_step p a b V c x y s d h e

theorem minus_step (p V c a b x y s d : Nat) (h : V + b = a + c * p) (e : s + y + c = x + d * 4294967296) : (V + p * s) + (b + p * y) = (a + p * x) + d * (4294967296 * p) := borrow_step p a b V c x y s d h e

set_option maxHeartbeats 1000000 in
theorem at_any (xs : List Nat) (ao : Option Addr) (n cap B i : Nat) (w : World) (hn : n = xs.length) (hm : n ≤ 70368744177664) (hx : Wf xs) (hR : Rd B w ao xs) (hi : i ≤ 70368744177664) :
    Calls Try.prog 75 #[.slice ao n cap, .int .i64 (i : Nat)] w fun r w' => r = .returned (.int .u64 ((xs.getD i 0 : Nat) : Int)) ∧ w' = w := by
  by_cases hin : i < n
  · obtain ⟨b, off, hB, rfl, hcell⟩ := hR (by intro e; subst e; simp at hn; omega)
    have hck := hcell i (by omega)
    have hxl := hx.get i
    obtain ⟨t, ht⟩ : ∃ t, xs.getD i 0 = t := ⟨_, rfl⟩
    rw [ht] at hck hxl ⊢
    clear hcell hR hn hx ht
    go_enter Try.func75, Try.ntmps75
    go_wp2
    go_ret
    exact ⟨rfl, rfl⟩
  · have e : xs.getD i 0 = 0 := by simp [List.getD_eq_getElem?_getD, List.getElem?_eq_none (show xs.length ≤ i by omega)]
    rw [e]
    clear hR hn hx e
    go_enter Try.func75, Try.ntmps75
    go_wp2
    go_ret
    exact ⟨rfl, rfl⟩

theorem plus_end (X Y V c n m N : Nat) (hX : X < pw n) (hY : Y < pw m) (hn : n ≤ N) (hm : m ≤ N) (h : V + c * pw (N + 1) = X + Y) : c = 0 := by
  rcases Nat.eq_zero_or_pos c with h0 | h0
  · exact h0
  · exfalso
    have h1 := pw_mono hn
    have h2 := pw_mono hm
    have h3 : 1 * pw (N + 1) ≤ c * pw (N + 1) := Nat.mul_le_mul_right _ h0
    rw [pw_succ] at h3 h
    have := pw_pos N
    omega

set_option maxHeartbeats 2000000 in
theorem rPlus_any (xs ys : List Nat) (ao bo : Option Addr) (n cap m capb B : Nat) (w : World) (hn : n = xs.length) (hm : m = ys.length) (hc : n ≤ cap) (hcb : m ≤ capb) (hbig : n ≤ 35184372088000) (hbig2 : m ≤ 35184372088000)
    (hx : Wf xs) (hy : Wf ys) (hR : Rd B w ao xs) (hS : Rd B w bo ys) (hB : B ≤ w.heap.size) :
    Calls Try.prog 56 #[.slice ao n cap, .slice bo m capb] w fun r w' => ∃ v, r = .returned v ∧ Nt w.heap.size w' v (val xs + val ys) ∧ Below w.heap.size w w' := by
  have hX := val_lt xs hx
  have hY := val_lt ys hy
  rw [← hn] at hX
  rw [← hm] at hY
  obtain ⟨N, hN⟩ : ∃ N, N = max n m := ⟨_, rfl⟩
  have hnN : n ≤ N := by omega
  have hmN : m ≤ N := by omega
  have hNb : N ≤ 35184372088000 := by omega
  have HR := (Aside.intro (And.intro hR (And.intro hS (And.intro hn (And.intro hm (And.intro hx (And.intro hy (And.intro hB (And.intro hX (And.intro hY hN))))))))))
  clear hR hS hn hm hx hy hB hX hY hN
  go_enter Try.func56, Try.ntmps56
  go_wp2
  go_loopg [5, 6, 7] (N + 1) (fun gk ov cv iv wr => ∃ (i c : Nat) (L : List Nat), gk + i = N + 1 ∧ cv = .int .u64 (c : Nat) ∧ c ≤ 1 ∧ iv = .int .i64 (i : Nat) ∧ Hid (Rw w.heap.size wr ov i (L.map U)) ∧ Hid (Below w.heap.size w wr) ∧
      Aside (Wf L ∧ val L + c * pw i = val (xs.take i) + val (ys.take i)))
  case atStart => exact ⟨0, 0, [], by omega, rfl, by omega, rfl, World.ownsRow_nil _ _ _ _, Below.refl _ _, Wf.nil, by simp [val]⟩
  case round =>
    obtain ⟨i, c, L, hgi, rfl, hc1, rfl, HO, HB, HA⟩ := hrel
    by_cases hgo : i < n ∨ i < m ∨ c = 1
    · have hiN : i ≤ N := by
        rcases hgo with h | h | h
        · omega
        · omega
        · by_cases hi1 : i = N + 1
          · exfalso
            obtain ⟨hR, hS, hn, hm, hx, hy, hB, hX, hY, hN⟩ := HR.out
            have h1 := HA.out.2
            rw [List.take_of_length_le (by omega), List.take_of_length_le (by omega), hi1] at h1
            have := plus_end _ _ _ _ _ _ _ hX hY hnN hmN h1
            omega
          · omega
      obtain ⟨hR, hS, hn, hm, hx, hy, hB, hX, hY, hN⟩ := HR.out
      have HA1 := hid (at_any xs ao n cap B i wr hn (by omega) hx (hR.below (HB.out.mono hB)) (by omega))
      have HA2 := hid (at_any ys bo m capb B i wr hm (by omega) hy (hS.below (HB.out.mono hB)) (by omega))
      obtain ⟨x, hxx⟩ : ∃ x, xs.getD i 0 = x := ⟨_, rfl⟩
      obtain ⟨y, hyy⟩ : ∃ y, ys.getD i 0 = y := ⟨_, rfl⟩
      have hxl : x < 4294967296 := hxx ▸ hx.get i
      have hyl : y < 4294967296 := hyy ▸ hy.get i
      rw [hxx] at HA1
      rw [hyy] at HA2
      obtain ⟨s, hs⟩ : ∃ s : Nat, s = (x + y + c) % 4294967296 := ⟨_, rfl⟩
      obtain ⟨d, hd⟩ : ∃ d : Nat, d = (x + y + c) / 4294967296 := ⟨_, rfl⟩
      have e1 : ((x : Int) + y + c) % 4294967296 = (s : Int) := by omega
      have e2 : ((x : Int) + y + c) / 4294967296 = (d : Int) := by omega
      have hsz := HB.out.size
      obtain ⟨v', w', hap, hown, hgrow, _, _⟩ := append_word (wr.alloc (.cells #[.int .u32 (s : Nat)] 67)) w.heap.size u5 i (L.map U) (.int .u32 (s : Nat)) wr.heap.size 41 (HO.out.alloc _) (by unfold World.cell?; simp only [heap_alloc_new]; rfl) rfl (by omega) (by simp; omega)
      have HX : Aside (xs.getD i 0 = x ∧ ys.getD i 0 = y ∧ s + d * 4294967296 = x + y + c ∧ s < 4294967296 ∧ d ≤ 1) := ⟨hxx, hyy, by omega, by omega, by omega⟩
      have hbel : Below w.heap.size w w' := (HB.out.alloc hsz _).grown hgrow (by simp; omega) (fun k hk => (HO.out.lt k hk).1)
      have HI := (Aside.intro (And.intro hown hbel))
      have HAP := hid hap
      clear hap hown hgrow hbel hs hd hxx hyy hR hS hn hm hx hy hB hX hY hN hsz
      have hways : (decide (i < n) = true) ∨ (decide (i < n) = false ∧ decide (i < m) = true) ∨ (decide (i < n) = false ∧ decide (i < m) = false ∧ decide (0 < c) = true) := by
        by_cases a : i < n
        · exact .inl (decide_eq_true (by omega))
        · by_cases b : i < m
          · exact .inr (.inl ⟨decide_eq_false (by omega), decide_eq_true (by omega)⟩)
          · exact .inr (.inr ⟨decide_eq_false (by omega), decide_eq_false (by omega), decide_eq_true (by omega)⟩)
      rcases hways with h1 | ⟨h1, h2⟩ | ⟨h1, h2, h3⟩
      all_goals (
        go_wp2_with fail
        refine (Calls.mono HA1.out) ?_
        rintro r w1 ⟨rfl, rfl⟩
        go_wp2_with fail
        refine (Calls.mono HA2.out) ?_
        rintro r w1 ⟨rfl, rfl⟩
        go_wp2_with (at_builtin; refine wpList_append_run2 rfl (.tmp 34) (.tmp 37) 41 rfl _ _ rfl rfl _ _ HAP.out ?_)
        go_roundg (gk - 1)
        case measure => omega
        case rel =>
          obtain ⟨a1, a2, a3, a4, a5⟩ := HX.out
          obtain ⟨hLw, hLv⟩ := HA.out
          refine ⟨i + 1, d, L ++ [s], by omega, by first | rfl | rw [e2], a5, by first | go_num | (congr 1; omega), by rw [List.map_append]; exact HI.out.1, HI.out.2, hLw.append (Wf.cons a4 Wf.nil), ?_⟩
          have hLl : L.length = i := by have := HO.out.1; simp at this; omega
          rw [val_append, hLl, val_take_all, val_take_all, a1, a2, pw_succ]
          simpa [val] using plus_step (pw i) _ _ _ _ x y s d hLv a3)
    · have hi : N ≤ i := by have := HR.out.2.2.2.2.2.2.2.2.2; omega
      obtain rfl : c = 0 := by omega
      obtain ⟨aoo, capo, hsh, hcap, hl, hnil, hRo⟩ := HO.out.words
      subst hsh
      obtain ⟨hR, hS, hn, hm, hx, hy, hB, hX, hY, hN⟩ := HR.out
      have HNm := hid (rNorm_any L aoo i capo wr.heap.size wr hl hcap (by omega) HA.out.1 hRo hnil)
      have hLv : val L = val xs + val ys := by
        have h1 := HA.out.2
        rw [List.take_of_length_le (by omega), List.take_of_length_le (by omega)] at h1
        omega
      rw [hLv] at HNm
      have h1 : decide (i < n) = false := decide_eq_false (by omega)
      have h2 : decide (i < m) = false := decide_eq_false (by omega)
      clear hR hS hn hm hx hy hB hX hY hN hl hnil hRo hLv hgo HO
      go_wp2_with fail
      refine (Calls.mono HNm.out) ?_
      rintro r w1 ⟨v, rfl, hNt, hb⟩
      have HZ := (Aside.intro (And.intro hNt hb))
      clear hNt hb
      go_wp2
      go_ret
      have hsz := HB.out.size
      exact ⟨v, rfl, HZ.out.1.mono hsz, HB.out.trans (HZ.out.2.mono hsz)⟩
end Go.Proofs.Ythilnddhehbjiab

/- Bit, Small. -/
namespace Go.Proofs.Ythilnddhehbjiab
open Go.RowKit
set_option linter.unusedVariables false
set_option maxRecDepth 20000

theorem bit_words (xs : List Nat) (hx : Wf xs) (k r : Nat) (hk : k < xs.length) (hr : r < 32) : val xs / 2 ^ (32 * k + r) % 2 = xs.getD k 0 / 2 ^ r % 2 := by
  have e := val_take_drop xs k (by omega)
  have hl : val (xs.take k) < pw k := by
    have := val_lt _ (hx.take k)
    rwa [List.length_take, Nat.min_eq_left (by omega)] at this
  rw [pw_two, ← Nat.div_div_eq_div_mul, e, Nat.add_mul_div_left _ _ (pw_pos k), Nat.div_eq_of_lt hl, Nat.zero_add, val_drop_succ xs k hk]
  have e2 : 4294967296 * val (xs.drop (k + 1)) = 2 ^ r * (2 * (2 ^ (31 - r) * val (xs.drop (k + 1)))) := by
    have : (4294967296 : Nat) = 2 ^ r * (2 * 2 ^ (31 - r)) := by
      rw [← Nat.mul_assoc, Nat.mul_comm (2 ^ r) 2, Nat.mul_assoc, ← Nat.pow_add, show r + (31 - r) = 31 by omega]
    rw [this]; grind
  rw [e2, Nat.add_mul_div_left _ _ (Nat.two_pow_pos r), Nat.add_mul_mod_self_left]

theorem bit_beyond (xs : List Nat) (hx : Wf xs) (i : Nat) (h : xs.length ≤ i / 32) : val xs / 2 ^ i % 2 = 0 := by
  have h1 := val_lt xs hx
  have h2 : pw xs.length ≤ 2 ^ i := by
    have : pw xs.length = 2 ^ (32 * xs.length) := by rw [← Nat.add_zero (32 * xs.length), pw_two]; simp
    rw [this]
    exact Nat.pow_le_pow_right (by decide) (by omega)
  rw [Nat.div_eq_of_lt (by omega)]

theorem and_one (z : Nat) (h : z < 4294967296) : bits BinOp.and IntKind.u32 (z : Int) 1 = ((z % 2 : Nat) : Int) := by
  have := and32 z 1 h (by decide)
  rw [Nat.and_one_is_mod] at this
  exact this

end Go.Proofs.Ythilnddhehbjiab

/- The document's Minus, Cmp, Bit. -/
namespace Go.Proofs.Ythilnddhehbjiab
open Go.RowKit
set_option linter.unusedVariables false
set_option maxRecDepth 20000

theorem val_take_small (ys : List Nat) (hy : Wf ys) (n : Nat) (h : val ys < pw n) : val (ys.take n) = val ys := by
  by_cases hn : n ≤ ys.length
  · have h1 := val_take_drop ys n hn
    have : val (ys.drop n) = 0 := by
      rcases Nat.eq_zero_or_pos (val (ys.drop n)) with h0 | h0
      · exact h0
      · have h2 : pw n * 1 ≤ pw n * val (ys.drop n) := Nat.mul_le_mul_left _ h0
        omega
    rw [this] at h1
    omega
  · rw [List.take_of_length_le (by omega)]

theorem minus_end (V Y X c p : Nat) (hV : V < p) (hle : Y ≤ X) (hc : c ≤ 1) (h : V + Y = X + c * p) : V = X - Y := by
  rcases (by omega : c = 0 ∨ c = 1) with rfl | rfl <;> omega

set_option maxHeartbeats 2000000 in
theorem rMinus_any (xs ys : List Nat) (ao bo : Option Addr) (n cap m capb B : Nat) (w : World) (hn : n = xs.length) (hm : m = ys.length) (hc : n ≤ cap) (hcb : m ≤ capb) (hbig : n ≤ 35184372088000) (hbig2 : m ≤ 35184372088000)
    (hx : Wf xs) (hy : Wf ys) (hR : Rd B w ao xs) (hS : Rd B w bo ys) (hB : B ≤ w.heap.size) (hle : val ys ≤ val xs) :
    Calls Try.prog 58 #[.slice ao n cap, .slice bo m capb] w fun r w' => ∃ v, r = .returned v ∧ Nt w.heap.size w' v (val xs - val ys) ∧ Below w.heap.size w w' := by
  have hX := val_lt xs hx
  rw [← hn] at hX
  have HR := (Aside.intro (And.intro hR (And.intro hS (And.intro hn (And.intro hm (And.intro hx (And.intro hy (And.intro hB (And.intro hX hle)))))))))
  clear hR hS hn hm hx hy hB hX hle
  go_enter Try.func58, Try.ntmps58
  go_wp2
  go_loopg [5, 6, 7] n (fun gk ov cv iv wr => ∃ (i c : Nat) (L : List Nat), gk + i = n ∧ cv = .int .u64 (c : Nat) ∧ c ≤ 1 ∧ iv = .int .i64 (i : Nat) ∧ Hid (Rw w.heap.size wr ov i (L.map U)) ∧ Hid (Below w.heap.size w wr) ∧
      Aside (Wf L ∧ val L + val (ys.take i) = val (xs.take i) + c * pw i))
  case atStart => exact ⟨0, 0, [], by omega, rfl, by omega, rfl, World.ownsRow_nil _ _ _ _, Below.refl _ _, Wf.nil, by simp [val]⟩
  case round =>
    obtain ⟨i, c, L, hgi, rfl, hc1, rfl, HO, HB, HA⟩ := hrel
    by_cases hgo : i < n
    · obtain ⟨hR, hS, hn, hm, hx, hy, hB, hX, hle⟩ := HR.out
      have HA1 := hid (at_any xs ao n cap B i wr hn (by omega) hx (hR.below (HB.out.mono hB)) (by omega))
      have HA2 := hid (at_any ys bo m capb B i wr hm (by omega) hy (hS.below (HB.out.mono hB)) (by omega))
      obtain ⟨x, hxx⟩ : ∃ x, xs.getD i 0 = x := ⟨_, rfl⟩
      obtain ⟨y, hyy⟩ : ∃ y, ys.getD i 0 = y := ⟨_, rfl⟩
      have hxl : x < 4294967296 := hxx ▸ hx.get i
      have hyl : y < 4294967296 := hyy ▸ hy.get i
      rw [hxx] at HA1
      rw [hyy] at HA2
      obtain ⟨s, hs⟩ : ∃ s : Nat, s = (x + 4294967296 - y - c) % 4294967296 := ⟨_, rfl⟩
      obtain ⟨q, hq⟩ : ∃ q : Nat, q = (x + 4294967296 - y - c) / 4294967296 := ⟨_, rfl⟩
      obtain ⟨d, hd⟩ : ∃ d : Nat, d = 1 - q := ⟨_, rfl⟩
      have e1 : ((x : Int) + 4294967296 - y - c) % 4294967296 = (s : Int) := by omega
      have e2 : ((x : Int) + 4294967296 - y - c) / 4294967296 = (q : Int) := by omega
      have e3 : (1 : Int) - (q : Int) = (d : Int) := by omega
      have hsz := HB.out.size
      obtain ⟨v', w', hap, hown, hgrow, _, _⟩ := append_word (wr.alloc (.cells #[.int .u32 (s : Nat)] 67)) w.heap.size u5 i (L.map U) (.int .u32 (s : Nat)) wr.heap.size 41 (HO.out.alloc _) (by unfold World.cell?; simp only [heap_alloc_new]; rfl) rfl (by omega) (by simp; omega)
      have HX : Aside (xs.getD i 0 = x ∧ ys.getD i 0 = y ∧ s + y + c = x + d * 4294967296 ∧ s < 4294967296 ∧ d ≤ 1) := ⟨hxx, hyy, by omega, by omega, by omega⟩
      have hbel : Below w.heap.size w w' := (HB.out.alloc hsz _).grown hgrow (by simp; omega) (fun k hk => (HO.out.lt k hk).1)
      have HI := (Aside.intro (And.intro hown hbel))
      have HAP := hid hap
      clear hap hown hgrow hbel hs hd hq hxx hyy hR hS hn hm hx hy hB hX hsz hle
      go_wp2_with fail
      refine (Calls.mono HA1.out) ?_
      rintro r w1 ⟨rfl, rfl⟩
      go_wp2_with fail
      refine (Calls.mono HA2.out) ?_
      rintro r w1 ⟨rfl, rfl⟩
      go_wp2_with (at_builtin; refine wpList_append_run2 rfl (.tmp 25) (.tmp 28) 41 rfl _ _ rfl rfl _ _ HAP.out ?_)
      go_roundg (gk - 1)
      case measure => omega
      case rel =>
        obtain ⟨a1, a2, a3, a4, a5⟩ := HX.out
        obtain ⟨hLw, hLv⟩ := HA.out
        refine ⟨i + 1, d, L ++ [s], by omega, by first | rfl | rw [e3] | rw [e2, e3], a5, by first | go_num | (congr 1; omega), by rw [List.map_append]; exact HI.out.1, HI.out.2, hLw.append (Wf.cons a4 Wf.nil), ?_⟩
        have hLl : L.length = i := by have := HO.out.1; simp at this; omega
        rw [val_append, hLl, val_take_all, val_take_all, a1, a2, pw_succ]
        simpa [val] using minus_step (pw i) _ _ _ _ x y s d hLv a3
    · obtain rfl : i = n := by omega
      obtain ⟨aoo, capo, hsh, hcap, hl, hnil, hRo⟩ := HO.out.words
      subst hsh
      obtain ⟨hR, hS, hn, hm, hx, hy, hB, hX, hle⟩ := HR.out
      have HNm := hid (rNorm_any L aoo i capo wr.heap.size wr hl hcap (by omega) HA.out.1 hRo hnil)
      have hLv : val L = val xs - val ys := by
        have h1 := HA.out.2
        rw [List.take_of_length_le (l := xs) (by omega), val_take_small ys hy i (by omega)] at h1
        have h2 := val_lt L HA.out.1
        rw [← hl] at h2
        exact minus_end _ _ _ _ _ h2 hle hc1 h1
      rw [hLv] at HNm
      clear hR hS hn hm hx hy hB hX hl hnil hRo hLv hgo HO hle
      go_wp2_with fail
      refine (Calls.mono HNm.out) ?_
      rintro r w1 ⟨v, rfl, hNt, hb⟩
      have HZ := (Aside.intro (And.intro hNt hb))
      clear hNt hb
      go_wp2
      go_ret
      have hsz := HB.out.size
      exact ⟨v, rfl, HZ.out.1.mono hsz, HB.out.trans (HZ.out.2.mono hsz)⟩

theorem Below.drewN' {B : Nat} {a w : World} (h : Below B a w) (n : Nat) : Below B a (w.drewN n) := ⟨h.os, h.tape, h.output, h.size, h.block⟩

set_option maxHeartbeats 2000000 in
theorem rCmp_any (xs ys : List Nat) (ao bo : Option Addr) (n cap m capb B : Nat) (w : World) (hn : n = xs.length) (hm : m = ys.length) (hbig : n ≤ 70368744177664) (hbig2 : m ≤ 70368744177664)
    (hx : Wf xs) (hy : Wf ys) (hR : Rd B w ao xs) (hS : Rd B w bo ys) :
    Calls Try.prog 57 #[.slice ao n cap, .slice bo m capb] w fun r w' => r = .returned (.int .i64 (cmpI (val xs) (val ys))) ∧ Below w.heap.size w w' := by
  have H1 := hid (size_any xs ao n cap B w hn (by omega) hR)
  have H2 := hid (size_any ys bo m capb B w hm (by omega) hS)
  have hl1 := nl_le xs
  have hl2 := nl_le ys
  have f1 := val_form xs hx
  have f2 := val_form ys hy
  rw [← sg_val_take] at f1 f2
  rcases Nat.lt_trichotomy (nl xs) (nl ys) with he | he | he
  · rw [cmpI_lt (cmp_len xs ys hx hy he)]
    obtain ⟨k1, hk1⟩ : ∃ k, nl xs = k := ⟨_, rfl⟩
    obtain ⟨k2, hk2⟩ : ∃ k, nl ys = k := ⟨_, rfl⟩
    rw [hk1] at H1 he
    rw [hk2] at H2 he
    clear hk1 hk2 hn hm hx hy hR hS f1 f2 hl1 hl2
    go_enter Try.func57, Try.ntmps57
    go_wp2_with fail
    refine (Calls.mono H1.out) ?_
    rintro r w1 ⟨rfl, rfl⟩
    go_wp2_with fail
    refine (Calls.mono H2.out) ?_
    rintro r w1 ⟨rfl, rfl⟩
    have hne : decide (k1 = k2) = false := decide_eq_false (by omega)
    have hne2 : k1 ≠ k2 := by omega
    go_wp2
    go_ret
    exact ⟨rfl, Below.refl _ _⟩
  · obtain ⟨k0, hk0⟩ : ∃ k, nl ys = k := ⟨_, rfl⟩
    rw [he] at H1 hl1 f1
    rw [hk0] at H1 H2 hl1 hl2 f1 f2
    have HR := (Aside.intro (And.intro hR (And.intro hS (And.intro hn (And.intro hm (And.intro hx (And.intro hy (And.intro hl1 (And.intro hl2 (And.intro f1 f2))))))))))
    have hkn : k0 ≤ n := by omega
    have hkm : k0 ≤ m := by omega
    clear hR hS hn hm hx hy hl1 hl2 f1 f2 he hk0
    go_enter Try.func57, Try.ntmps57
    go_wp2_with fail
    refine (Calls.mono H1.out) ?_
    rintro r w1 ⟨rfl, rfl⟩
    go_wp2_with fail
    refine (Calls.mono H2.out) ?_
    rintro r w1 ⟨rfl, rfl⟩
    go_wp2
    go_loopg [5] k0 (fun k i wr => k ≤ k0 ∧ i = .int .i64 ((k : Int) - 1) ∧ Hid (Below w1.heap.size w1 wr) ∧ Aside (sg xs k (k0 - k) = sg ys k (k0 - k)))
    case atStart => exact ⟨Nat.le_refl _, by first | rfl | go_num, Below.refl _ _, by rw [Nat.sub_self, sg_zero, sg_zero]; exact rfl⟩
    case round =>
      obtain ⟨hk, rfl, HB, HA⟩ := hrel
      by_cases hk0 : gk = 0
      · subst hk0
        go_wp2
        go_ret
        obtain ⟨hR, hS, hn, hm, hx, hy, hl1, hl2, f1, f2⟩ := HR.out
        have h := HA.out
        rw [Nat.sub_zero, f1, f2] at h
        rw [cmpI_eq h]
        exact ⟨rfl, HB.out⟩
      · obtain ⟨k, rfl⟩ : ∃ k, gk = k + 1 := ⟨gk - 1, by omega⟩
        obtain ⟨hR, hS, hn, hm, hx, hy, hl1, hl2, f1, f2⟩ := HR.out
        obtain ⟨b, off, hB1, rfl, hc1⟩ := hR (by intro e; subst e; simp at hl1; omega)
        obtain ⟨b2, off2, hB2, rfl, hc2⟩ := hS (by intro e; subst e; simp at hl2; omega)
        have g1 : wr.cell? ⟨b, off + k, none⟩ = some (.int .u32 ((xs.getD k 0 : Nat) : Int)) :=
          (HB.out.cell (p := ⟨b, off + k, none⟩) (World.block_lt_of_cell? w1 ⟨b, off + k, none⟩ (hc1 k (by omega)))).trans (hc1 k (by omega))
        have g2 : wr.cell? ⟨b2, off2 + k, none⟩ = some (.int .u32 ((ys.getD k 0 : Nat) : Int)) :=
          (HB.out.cell (p := ⟨b2, off2 + k, none⟩) (World.block_lt_of_cell? w1 ⟨b2, off2 + k, none⟩ (hc2 k (by omega)))).trans (hc2 k (by omega))
        obtain ⟨x, hxx⟩ : ∃ x : Nat, xs.getD k 0 = x := ⟨_, rfl⟩
        obtain ⟨y, hyy⟩ : ∃ y : Nat, ys.getD k 0 = y := ⟨_, rfl⟩
        rw [hxx] at g1
        rw [hyy] at g2
        have HX := (Aside.intro (And.intro hxx hyy))
        have hki : (k : Int) < (n : Int) := by omega
        have hki0 : 0 ≤ (k : Int) := by omega
        have hki2 : (k : Int) < (m : Int) := by omega
        clear hR hS hn hm hx hy hl1 hl2 f1 f2 hc1 hc2 hxx hyy hk0
        rcases Nat.lt_trichotomy x y with hxy | hxy | hxy
        · go_wp2
          go_quiet (fail)
          go_wp2
          go_ret
          obtain ⟨hR, hS, hn, hm, hx, hy, hl1, hl2, f1, f2⟩ := HR.out
          have h := HA.out
          have t1 := cmp_words xs ys hx hy k (k0 - (k + 1)) (by omega) (by omega) h (by rw [HX.out.1, HX.out.2]; exact hxy)
          rw [show k + 1 + (k0 - (k + 1)) = k0 by omega, f1, f2] at t1
          rw [cmpI_lt t1]
          exact ⟨rfl, Below.drewN' HB.out _⟩
        · subst hxy
          go_wp2
          go_quiet (fail)
          go_wp2
          go_quiet (fail)
          go_wp2
          go_roundg k
          case measure => omega
          case rel =>
            obtain ⟨hR, hS, hn, hm, hx, hy, hl1, hl2, f1, f2⟩ := HR.out
            refine ⟨by omega, by first | go_num | (congr 1; omega), hid (Below.drewN' HB.out _), ?_⟩
            have h := HA.out
            obtain ⟨r, hr⟩ : ∃ r, k0 - k = r + 1 := ⟨k0 - (k + 1), by omega⟩
            rw [show k0 - (k + 1) = r by omega] at h
            rw [Aside, hr, sg_front xs k r (by omega), sg_front ys k r (by omega), h, HX.out.1, HX.out.2]
        · have hxy2 : decide (x < y) = false := decide_eq_false (by omega)
          go_wp2
          go_quiet (fail)
          go_wp2
          go_quiet (fail)
          go_wp2
          go_ret
          obtain ⟨hR, hS, hn, hm, hx, hy, hl1, hl2, f1, f2⟩ := HR.out
          have h := HA.out
          have t1 := cmp_words ys xs hy hx k (k0 - (k + 1)) (by omega) (by omega) h.symm (by rw [HX.out.1, HX.out.2]; exact hxy)
          rw [show k + 1 + (k0 - (k + 1)) = k0 by omega, f1, f2] at t1
          rw [cmpI_gt t1]
          exact ⟨rfl, Below.drewN' (Below.drewN' HB.out _) _⟩
  · rw [cmpI_gt (cmp_len ys xs hy hx he)]
    obtain ⟨k1, hk1⟩ : ∃ k, nl xs = k := ⟨_, rfl⟩
    obtain ⟨k2, hk2⟩ : ∃ k, nl ys = k := ⟨_, rfl⟩
    rw [hk1] at H1 he
    rw [hk2] at H2 he
    clear hk1 hk2 hn hm hx hy hR hS f1 f2 hl1 hl2
    go_enter Try.func57, Try.ntmps57
    go_wp2_with fail
    refine (Calls.mono H1.out) ?_
    rintro r w1 ⟨rfl, rfl⟩
    go_wp2_with fail
    refine (Calls.mono H2.out) ?_
    rintro r w1 ⟨rfl, rfl⟩
    have hne : decide (k1 = k2) = false := decide_eq_false (by omega)
    have hlt : decide (k1 < k2) = false := decide_eq_false (by omega)
    have hne2 : k1 ≠ k2 := by omega
    go_wp2
    go_ret
    exact ⟨rfl, Below.refl _ _⟩

set_option maxHeartbeats 1000000 in
theorem rBit_any (xs : List Nat) (ao : Option Addr) (n cap B i : Nat) (w : World) (hn : n = xs.length) (hx : Wf xs) (hR : Rd B w ao xs) (hi : i ≤ 9223372036854775807) :
    Calls Try.prog 84 #[.slice ao n cap, .int .i64 (i : Int)] w fun r w' => r = .returned (.bool (decide (val xs / 2 ^ i % 2 = 1))) ∧ w' = w := by
  obtain ⟨k, hk⟩ : ∃ k, k = i / 32 := ⟨_, rfl⟩
  obtain ⟨r, hr⟩ : ∃ r, r = i % 32 := ⟨_, rfl⟩
  have e1 : (i : Int) / 32 = (k : Int) := by omega
  have e2 : (i : Int) % 32 = (r : Int) := by omega
  by_cases hkn : k < n
  · have hb := bit_words xs hx k r (by omega) (by omega)
    rw [show 32 * k + r = i by omega] at hb
    rw [hb]
    obtain ⟨b, off, hB, rfl, hcell⟩ := hR (by intro e; subst e; simp at hn; omega)
    have hck := hcell k (by omega)
    obtain ⟨t, ht⟩ : ∃ t, xs.getD k 0 = t := ⟨_, rfl⟩
    have htl : t < 4294967296 := ht ▸ hx.get k
    rw [ht] at hck ⊢
    obtain ⟨z, hz⟩ : ∃ z, z = t / 2 ^ r := ⟨_, rfl⟩
    have hzt : z ≤ t := by rw [hz]; exact Nat.div_le_self _ _
    have e3 : (t : Int) / 2 ^ r = (z : Int) := by rw [hz]; simp
    have e4 := and_one z (by omega)
    have hr32 : r < 32 := by omega
    have hnk : decide ((n : Int) ≤ (k : Int)) = false := decide_eq_false (by omega)
    have hnk2 : decide (n ≤ k) = false := decide_eq_false (by omega)
    rw [← hz]
    clear hb hn hx hR hcell ht hz hk hr
    rcases (by omega : z % 2 = 0 ∨ z % 2 = 1) with hz2 | hz2
    · rw [hz2] at e4 ⊢
      clear hz2
      go_enter Try.func84, Try.ntmps84
      go_wp2
      go_ret
      exact ⟨rfl, rfl⟩
    · rw [hz2] at e4 ⊢
      clear hz2
      go_enter Try.func84, Try.ntmps84
      go_wp2
      go_ret
      exact ⟨rfl, rfl⟩
  · rw [bit_beyond xs hx i (by omega)]
    have hnk : decide ((n : Int) ≤ (k : Int)) = true := decide_eq_true (by omega)
    clear hn hx hR hk hr
    go_enter Try.func84, Try.ntmps84
    go_wp2
    go_ret
    exact ⟨rfl, rfl⟩
end Go.Proofs.Ythilnddhehbjiab

/- The document's Times. -/
namespace Go.Proofs.Ythilnddhehbjiab
open Go.RowKit
set_option linter.unusedVariables false
set_option maxRecDepth 20000

theorem times_round (M M2 xs bs : List Nat) (k n m c y : Nat) (hMl : M.length = n + m) (hk : k < n) (hn : n = xs.length) (hm : m = bs.length) (hMs : sg M 0 (k + m) = sg xs 0 k * val bs) (hy : xs.getD k 0 = y)
    (hout : Out M M2 k m) (hsum : sg M2 k m + c * pw m = sg M k m + val bs * y) : sg (M2.set (k + m) c) 0 (k + 1 + m) = sg xs 0 (k + 1) * val bs := by
  have e1 := sg_set_last M2 0 (k + m) c (by rw [hout.1]; omega)
  rw [Nat.zero_add] at e1
  have e2 := sg_add M2 0 k m (by rw [hout.1]; omega)
  have e3 := sg_add M 0 k m (by omega)
  rw [Nat.zero_add] at e2 e3
  have e4 := hout.below 0 k (by omega) (by omega)
  rw [show k + 1 + m = k + m + 1 by omega, e1, e2, e4, sg_succ xs 0 k (by omega), Nat.zero_add, hy, pw_add]
  rw [e3] at hMs
  rw [Nat.mul_comm c] at hsum
  have := mul_step (pw k) _ _ y _ _ c hMs
  rw [← hsum] at this
  rw [← this, Nat.mul_add, Nat.mul_assoc, Nat.add_assoc]

set_option maxHeartbeats 4000000 in
theorem rTimes_any (xs bs : List Nat) (ao bo : Option Addr) (n cap m capb B : Nat) (w : World) (hn : n = xs.length) (hm : m = bs.length) (hc : n ≤ cap) (hcb : m ≤ capb) (hbig : n + m ≤ 35184372088832)
    (hx : Wf xs) (hb : Wf bs) (hR : Rd B w ao xs) (hS : Rd B w bo bs) (hB : B ≤ w.heap.size) :
    Calls Try.prog 59 #[.slice ao n cap, .slice bo m capb] w fun r w' => ∃ v, r = .returned v ∧ Nt w.heap.size w' v (val xs * val bs) ∧ Below w.heap.size w w' := by
  obtain ⟨W1, hW1⟩ : ∃ W, W = w.alloc (.cells (madeCells #[.int .u32 0] (n + m)) 67) := ⟨_, rfl⟩
  have hO1 : Own W1 w.heap.size (List.replicate (n + m) 0) := by rw [hW1]; exact Own.made w (n + m)
  have hB1 : Below w.heap.size w W1 := by rw [hW1]; exact (Below.refl _ _).alloc (Nat.le_refl _) _
  have hmk := make_words ((n : Int) + m) (n + m) (by omega) (by omega) w
  rw [← hW1] at hmk
  have hR1 : Rd B W1 ao xs := hR.below (hB1.mono hB)
  have hS1 : Rd B W1 bo bs := hS.below (hB1.mono hB)
  obtain ⟨g, hg⟩ : ∃ g, g = w.heap.size := ⟨_, rfl⟩
  rw [← hg] at hO1 hmk hB1 hB
  have HR := (Aside.intro (And.intro hR1 (And.intro hS1 (And.intro hm (And.intro hb (And.intro hx (And.intro hn (And.intro hB1 hg))))))))
  have HO := hid hO1
  clear hn hm hx hb hR hS hO1 hB1 hW1 hR1 hS1 hg
  go_enter Try.func59, Try.ntmps59
  go_wp2
  go_loopg [6] n (fun gk i wr => ∃ (k : Nat) (M : List Nat), gk + k = n ∧ i = .int .i64 (k : Nat) ∧
      Hid (Own wr g M) ∧ Aside (Wf M ∧ M.length = n + m ∧ sg M 0 (k + m) = sg xs 0 k * val bs ∧ But g W1 wr))
  case atStart => exact ⟨0, _, by omega, rfl, HO, Wf.zeros _, by simp, by rw [sg_zeros, sg_zero]; simp, But.refl _ _⟩
  case round =>
    obtain ⟨i, L, hgk, rfl, HM, HA⟩ := hrel
    by_cases hi : i < n
    · obtain ⟨hR, hS, hm, hb, hx, hn, hB1, hg⟩ := HR.out
      obtain ⟨a, aoff, haB, rfl, hac⟩ := hR (by intro e; subst e; simp at hn; omega)
      have hW1s : g ≤ W1.heap.size := by have := hB1.size; omega
      have HAC : Aside (W1.cell? ⟨a, aoff + i, none⟩ = some (.int .u32 ((xs.getD i 0 : Nat) : Int)) ∧ a < B ∧ a < W1.heap.size) := ⟨hac i (by omega), haB, World.block_lt_of_cell? W1 ⟨a, aoff + i, none⟩ (hac i (by omega))⟩
      obtain ⟨q, hq⟩ : ∃ q : Nat, xs.getD i 0 = q := ⟨_, rfl⟩
      have hql : q < 4294967296 := hq ▸ hx.get _
      rw [hq] at HAC
      have HQ := Aside.intro hq
      clear hq hR hS hm hb hx hn hB1 hg hac
      go_wp2
      go_loopg [7, 8] m (fun gk c kv w2 => ∃ (k cv : Nat) (M : List Nat), gk + k = m ∧ c = .int .u64 (cv : Nat) ∧ cv < 4294967296 ∧ kv = .int .i64 (k : Nat) ∧
          Hid (Own w2 g M) ∧ Aside (Wf M ∧ Out L M i k ∧ sg M i k + cv * pw k = sg L i k + sg bs 0 k * q ∧ But g W1 w2))
      case atStart => exact ⟨0, 0, L, by omega, rfl, by omega, rfl, HM, HA.out.1, Out.refl _ _ _, by simp [sg_zero], HA.out.2.2.2⟩
      case round =>
        obtain ⟨k, cv, M, hgk2, rfl, hcv, rfl, HN, HC⟩ := hrel
        by_cases hk : k < m
        · obtain ⟨hR, hS, hm, hb, hx, hn, hB1, hg⟩ := HR.out
          obtain ⟨hMw, hMo, hMs, hbut⟩ := HC.out
          obtain ⟨hLw, hLl, _, _⟩ := HA.out
          obtain ⟨b, boff, hbB, rfl, hbc⟩ := hS (by intro e; subst e; simp at hm; omega)
          have hbk : wr.cell? ⟨b, boff + k, none⟩ = some (.int .u32 ((bs.getD k 0 : Nat) : Int)) := by
            have h1 := hbut.block b (World.block_lt_of_cell? W1 ⟨b, boff + k, none⟩ (hbc k (by omega))) (by omega)
            exact (World.cell?_of_block (a := ⟨b, boff + k, none⟩) h1).trans (hbc k (by omega))
          have hak : wr.cell? ⟨a, aoff + i, none⟩ = some (.int .u32 (q : Nat)) := by
            have h1 := hbut.block a HAC.out.2.2 (by have := HAC.out.2.1; omega)
            exact (World.cell?_of_block (a := ⟨a, aoff + i, none⟩) h1).trans HAC.out.1
          have hgc := HN.out.cell (i + k) (by rw [hMo.1]; omega)
          have hgf := HN.out.frozen (i + k)
          obtain ⟨x, hxx⟩ : ∃ x : Nat, M.getD (i + k) 0 = x := ⟨_, rfl⟩
          obtain ⟨y, hyy⟩ : ∃ y : Nat, bs.getD k 0 = y := ⟨_, rfl⟩
          have hxl : x < 4294967296 := hxx ▸ hMw.get _
          have hyl : y < 4294967296 := hyy ▸ hb.get _
          rw [hxx] at hgc
          rw [hyy] at hbk
          have hp0 := mul_bound q y hql hyl
          have hp2 : (q : Int) * (y : Int) ≤ 18446744065119617025 := by rw [← Int.natCast_mul]; omega
          have hp1 : 0 ≤ (q : Int) * (y : Int) := by rw [← Int.natCast_mul]; omega
          obtain ⟨s, hs⟩ : ∃ s : Nat, s = (q * y + x + cv) % 4294967296 := ⟨_, rfl⟩
          obtain ⟨d, hd⟩ : ∃ d : Nat, d = (q * y + x + cv) / 4294967296 := ⟨_, rfl⟩
          have e0 : ((q * y + x + cv : Nat) : Int) = (q : Int) * y + x + cv := by simp only [Int.natCast_add, Int.natCast_mul]
          have e1 : ((q : Int) * y + x + cv) % 4294967296 = (s : Int) := by rw [← e0]; omega
          have e2 : ((q : Int) * y + x + cv) / 4294967296 = (d : Int) := by rw [← e0]; omega
          have HX : Aside (M.getD (i + k) 0 = x ∧ bs.getD k 0 = y ∧ s + d * 4294967296 = y * q + x + cv ∧ s < 4294967296 ∧ d < 4294967296) := ⟨hxx, hyy, by rw [Nat.mul_comm y q]; omega, by omega, by omega⟩
          have hik : i + k < n + m := by omega
          clear hxx hyy hs hd hR hS hm hb hx hn hB1 hg hMw hMo hMs hbut hbc e0 hp0 hLw hLl
          go_wp2
          go_quiet (fail)
          go_wp2
          go_roundg (gk - 1)
          case measure => omega
          case rel =>
            obtain ⟨hxx, hyy, he, hs, hd⟩ := HX.out
            obtain ⟨hR, hS, hm, hb, hx, hn, hB1, hg⟩ := HR.out
            obtain ⟨hMw, hMo, hMs, hbut⟩ := HC.out
            obtain ⟨hLw, hLl, _, _⟩ := HA.out
            refine ⟨k + 1, d, M.set (i + k) s, by omega, by first | rfl | rw [e2], hd, by first | go_num | (congr 1; omega), HN.out.set _ _, hMw.set _ _ hs, (hMo.mono (by omega)).set _ _ (by omega) (by omega), ?_, (But.drewN hbut _).set _ _⟩
            rw [sg_set_last _ _ _ _ (by rw [hMo.1]; omega), sg_succ L i k (by omega), sg_succ bs 0 k (by omega), Nat.zero_add, hyy, pw_succ]
            have e : L.getD (i + k) 0 = x := by rw [← hxx]; exact (hMo.2 _ (by omega)).symm
            rw [e]
            exact times_step _ _ _ _ _ _ _ _ _ _ hMs he
        · obtain rfl : k = m := by omega
          obtain ⟨hLw, hLl, hLs, hLb⟩ := HA.out
          have hgc := HN.out.cell (i + k) (by rw [HC.out.2.1.1]; omega)
          have hgf := HN.out.frozen (i + k)
          have hik : i + k < n + k := by omega
          have hcm : (cv : Int) % 4294967296 = (cv : Int) := by omega
          clear hLw hLl hLs hLb
          go_wp2
          go_roundg (n - (i + 1))
          case measure => omega
          case rel =>
            obtain ⟨hR, hS, hm, hb, hx, hn, hB1, hg⟩ := HR.out
            obtain ⟨hMw, hMo, hMs, hbut⟩ := HC.out
            obtain ⟨hLw, hLl, hLs, hLb⟩ := HA.out
            refine ⟨i + 1, M.set (i + k) cv, by omega, by first | go_num | (congr 1; omega), HN.out.set _ _, hMw.set _ _ hcv, by simp [hMo.1, hLl], ?_, hbut.set _ _⟩
            have e2 : sg bs 0 k = val bs := by rw [hm]; exact sg_all bs
            rw [e2] at hMs
            exact times_round L M xs bs i n k cv q hLl hi hn hm hLs HQ.out hMo hMs
    · obtain rfl : i = n := by omega
      obtain ⟨hMw, hMl, hMs, hbut⟩ := HA.out
      have T := hid (rNorm_any L (some ⟨g, 0, none⟩) (i + m) (i + m) (g + 1) wr hMl.symm (Nat.le_refl _) (by omega) hMw (by simpa [hMl, List.take_of_length_le] using Rd.ofOwn HM.out 0 (i + m)) (fun e => by cases e))
      clear hMw hMl hMs hbut
      go_wp2_with fail
      refine (Calls.mono T.out) ?_
      rintro r w1 ⟨v, rfl, hNt, hbb⟩
      have HZ := (Aside.intro (And.intro hNt hbb))
      clear hNt hbb
      go_wp2
      go_ret
      obtain ⟨hR, hS, hm, hb, hx, hn, hB1, hg⟩ := HR.out
      obtain ⟨hMw, hMl, hMs, hbut⟩ := HA.out
      have e1 : sg L 0 (i + m) = val L := by rw [← hMl]; exact sg_all L
      have e2 : sg xs 0 i = val xs := by rw [hn]; exact sg_all xs
      rw [e1, e2] at hMs
      have hsz1 := hB1.size
      have hsz2 := hbut.size
      have hbel : Below g w wr := But.below hB1 hbut (by omega) (Nat.le_refl _)
      rw [← hMs, ← hg]
      exact ⟨v, rfl, HZ.out.1.mono (by omega), hbel.trans (HZ.out.2.mono (by omega))⟩
end Go.Proofs.Ythilnddhehbjiab

/- grow: a Nat times a word and more, in its own memory as far as it goes. -/
namespace Go.Proofs.Ythilnddhehbjiab
open Go.RowKit
set_option linter.unusedVariables false
set_option maxRecDepth 20000

/-- The first k cells of a row of one's own are these words. -/
def Pre (lo : Nat) (w : World) (g k cap : Nat) (M : List Nat) : Prop := w.ownsRow lo 67 1 (.slice (some ⟨g, 0, none⟩) k cap) k (M.map U)

theorem Pre.len {lo : Nat} {w : World} {g k cap : Nat} {M : List Nat} (h : Pre lo w g k cap M) : M.length = k := by have := h.1; simpa using this
theorem Pre.cell {lo : Nat} {w : World} {g k cap : Nat} {M : List Nat} (h : Pre lo w g k cap M) (i : Nat) (hi : i < k) : w.cell? ⟨g, i, none⟩ = some (.int .u32 ((M.getD i 0 : Nat) : Int)) := by
  rw [World.ownsRow.cellAt h i (by omega)]
  have := h.len
  simp [U, show i < M.length by omega]
theorem Pre.frozen {lo : Nat} {w : World} {g k cap : Nat} {M : List Nat} (h : Pre lo w g k cap M) (i : Nat) : w.frozen? ⟨g, i, none⟩ = false := World.ownsRow.frozenAt h i
theorem Pre.set {lo : Nat} {w : World} {g k cap : Nat} {M : List Nat} (h : Pre lo w g k cap M) (i x : Nat) : Pre lo (w.setCell ⟨g, i, none⟩ (.int .u32 (x : Int))) g k cap (M.set i x) := by
  have := (World.ownsRow.stored h i (.int .u32 (x : Int))).1
  unfold Pre
  rw [List.map_set]
  exact this
theorem Pre.lo {lo : Nat} {w : World} {g k cap : Nat} {M : List Nat} (h : Pre lo w g k cap M) : lo ≤ g ∧ g < w.heap.size := World.ownsRow.lt h g (by simp [Value.ownBlock])

end Go.Proofs.Ythilnddhehbjiab

/- Decimal digits. -/
namespace Go.Proofs.Ythilnddhehbjiab
set_option linter.unusedVariables false
set_option maxRecDepth 20000

/-- The number that digits tell, the lowest first. -/
def nlow : List Nat → Nat
  | [] => 0
  | d :: D => d + 10 * nlow D
/-- .. the highest first. -/
def num (D : List Nat) : Nat := nlow D.reverse
/-- Each is a digit. -/
def Dg (D : List Nat) : Prop := ∀ d ∈ D, d < 10

theorem Dg.reverse {D : List Nat} (h : Dg D) : Dg D.reverse := fun d hd => h d (by simpa using hd)
theorem Dg.cons {d : Nat} {D : List Nat} (h : d < 10) (k : Dg D) : Dg (d :: D) := by
  intro x hx; rcases List.mem_cons.1 hx with rfl | hx
  · exact h
  · exact k x hx
theorem Dg.nil : Dg [] := fun d hd => by cases hd
theorem Dg.tail {d : Nat} {D : List Nat} (h : Dg (d :: D)) : Dg D := fun x hx => h x (by simp [hx])
theorem Dg.head {d : Nat} {D : List Nat} (h : Dg (d :: D)) : d < 10 := h d (by simp)

/-- A number's digits, the lowest first; none of nought. -/
def ld (n : Nat) : List Nat := if h : n = 0 then [] else n % 10 :: ld (n / 10)
termination_by n
decreasing_by omega
/-- A number's digits, the highest first. -/
def hd (n : Nat) : List Nat := if n = 0 then [0] else (ld n).reverse
end Go.Proofs.Ythilnddhehbjiab

/- What is handed from call to call: Nats, wherever they lie. -/
namespace Go.Proofs.Ythilnddhehbjiab
open Go.RowKit
set_option linter.unusedVariables false
set_option maxRecDepth 20000

/-- A Nat that is handed on: its words, where they lie. -/
structure Arg (w : World) (a : Option Addr) (n c : Nat) (xs : List Nat) : Prop where
  len : n = xs.length
  cap : n ≤ c
  big : n ≤ 35184372088832
  wf : Wf xs
  rd : Rd w.heap.size w a xs
  nil : a = none → c = 0

theorem Arg.below {w w' : World} {a : Option Addr} {n c : Nat} {xs : List Nat} (h : Arg w a n c xs) (hb : Below w.heap.size w w') : Arg w' a n c xs :=
  ⟨h.len, h.cap, h.big, h.wf, (h.rd.below hb).mono hb.size, h.nil⟩

theorem Nt.arg {lo : Nat} {w : World} {v : Value} {X : Nat} (h : Nt lo w v X) (hs : (ws X).length ≤ 35184372088832) : ∃ a c, v = .slice a (ws X).length c ∧ Arg w a (ws X).length c (ws X) := by
  have h' := h
  obtain ⟨a, c, rfl, h1, h2, h3⟩ := h.shape
  refine ⟨a, c, rfl, rfl, h1, hs, wf_ws X, h3, fun e => ?_⟩
  rcases h'.2 with ⟨e1, _⟩ | ⟨g, cap, cur, e1, _⟩
  · simp only [Value.slice.injEq] at e1; exact e1.2.2
  · simp only [Value.slice.injEq] at e1; rw [e1.1] at e; cases e

theorem pw_add_lt {X Y i : Nat} (h1 : X < pw i) (h2 : Y < pw i) : X + Y < pw (i + 1) := by rw [pw_succ]; omega

end Go.Proofs.Ythilnddhehbjiab

/- The document's calls by arguments. -/
namespace Go.Proofs.Ythilnddhehbjiab
open Go.RowKit
set_option linter.unusedVariables false
set_option maxRecDepth 20000

theorem rTimes_arg {w : World} {a b : Option Addr} {n c m d : Nat} {xs ys : List Nat} {V : Nat} (h1 : Arg w a n c xs) (h2 : Arg w b m d ys) (hs : n + m ≤ 35184372088832) (e : val xs * val ys = V) :
    Calls Try.prog 59 #[.slice a n c, .slice b m d] w fun r w' => ∃ v, r = .returned v ∧ Nt w.heap.size w' v V ∧ Below w.heap.size w w' := by
  subst e
  exact rTimes_any xs ys a b n c m d w.heap.size w h1.len h2.len h1.cap h2.cap hs h1.wf h2.wf h1.rd h2.rd (Nat.le_refl _)

theorem rPlus_arg {w : World} {a b : Option Addr} {n c m d : Nat} {xs ys : List Nat} {V : Nat} (h1 : Arg w a n c xs) (h2 : Arg w b m d ys) (hs1 : n ≤ 35184372088000) (hs2 : m ≤ 35184372088000) (e : val xs + val ys = V) :
    Calls Try.prog 56 #[.slice a n c, .slice b m d] w fun r w' => ∃ v, r = .returned v ∧ Nt w.heap.size w' v V ∧ Below w.heap.size w w' := by
  subst e
  exact rPlus_any xs ys a b n c m d w.heap.size w h1.len h2.len h1.cap h2.cap hs1 hs2 h1.wf h2.wf h1.rd h2.rd (Nat.le_refl _)

theorem rMinus_arg {w : World} {a b : Option Addr} {n c m d : Nat} {xs ys : List Nat} {V : Nat} (h1 : Arg w a n c xs) (h2 : Arg w b m d ys) (hs1 : n ≤ 35184372088000) (hs2 : m ≤ 35184372088000) (e : V + val ys = val xs) :
    Calls Try.prog 58 #[.slice a n c, .slice b m d] w fun r w' => ∃ v, r = .returned v ∧ Nt w.heap.size w' v V ∧ Below w.heap.size w w' := by
  have h := rMinus_any xs ys a b n c m d w.heap.size w h1.len h2.len h1.cap h2.cap hs1 hs2 h1.wf h2.wf h1.rd h2.rd (Nat.le_refl _) (by omega)
  rw [show val xs - val ys = V by omega] at h
  exact h

theorem rCmp_arg {w : World} {a b : Option Addr} {n c m d : Nat} {xs ys : List Nat} (h1 : Arg w a n c xs) (h2 : Arg w b m d ys) (z : Int) (e : cmpI (val xs) (val ys) = z) :
    Calls Try.prog 57 #[.slice a n c, .slice b m d] w fun r w' => r = .returned (.int .i64 z) ∧ Below w.heap.size w w' := by
  have := rCmp_any xs ys a b n c m d w.heap.size w h1.len h2.len (by have := h1.big; omega) (by have := h2.big; omega) h1.wf h2.wf h1.rd h2.rd
  rw [e] at this
  exact this

/-- One word, laid for a call. -/
theorem lit_arg (w : World) (d : Nat) (hd : d < 4294967296) : Arg (w.alloc (.cells #[.int .u32 (d : Int)] 67)) (some ⟨w.heap.size, 0, none⟩) 1 1 [d] := by
  refine ⟨rfl, Nat.le_refl _, by omega, Wf.cons hd Wf.nil, fun _ => ⟨w.heap.size, 0, by simp, rfl, fun i hi => ?_⟩, fun e => by cases e⟩
  obtain rfl : i = 0 := by simpa using hi
  unfold World.cell?
  simp only [heap_alloc_new]
  rfl

theorem below_alloc (w : World) (o : Obj) : Below w.heap.size w (w.alloc o) := (Below.refl _ _).alloc (Nat.le_refl _) _

theorem bl_pw (N n : Nat) (h : N < pw n) : bl N ≤ 32 * n := by
  by_cases h0 : N = 0
  · rw [h0, bl_zero]; omega
  · have h1 := bl_ge N h0
    rcases Nat.lt_or_ge (32 * n) (bl N) with h2 | h2
    · exfalso
      have h3 : 2 ^ (32 * n) ≤ 2 ^ (bl N - 1) := Nat.pow_le_pow_right (by omega) (by omega)
      have h4 : pw n = 2 ^ (32 * n) := by unfold pw; rw [Nat.pow_mul]
      omega
    · exact h2
end Go.Proofs.Ythilnddhehbjiab

/- Nats that came in: what their reading tells. -/
namespace Go.Proofs.Ythilnddhehbjiab
open Go.ChangeShapes Go.WideShapes Go.ChangeAt Go.RowKit
set_option linter.unusedVariables false
set_option maxRecDepth 20000

/-- A Nat that came in: its words, its room. -/
def Came (w : World) (a : Option Addr) (n c : Nat) (xs : List Nat) : Prop := n = xs.length ∧ n ≤ c ∧ Wf xs ∧ Rd w.heap.size w a xs ∧ (a = none → c = 0)

theorem Came.arg {w : World} {a : Option Addr} {n c : Nat} {xs : List Nat} (h : Came w a n c xs) (hb : n ≤ 35184372088832) : Arg w a n c xs := ⟨h.1, h.2.1, hb, h.2.2.1, h.2.2.2.1, h.2.2.2.2⟩

theorem Try.bytes67 : Try.prog.bytesOf 67 = 4 := by kernel_rfl

end Go.Proofs.Ythilnddhehbjiab

