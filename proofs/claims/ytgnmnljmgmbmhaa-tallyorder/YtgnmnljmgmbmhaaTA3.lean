/- tally: what a map of counts holds; what has changed in memory. -/
import Derived.Test.YtgnmnljmgmbmhaaTA2
import Derived.Maps.OwnSet
import Derived.Maps.Ext
import Derived.Maps.RangeWalk
namespace Go.Proofs.Ytgnmnljmgmbmhaa
open Go.RowKit Go.Maps
set_option linter.unusedVariables false
set_option maxRecDepth 20000
set_option linter.unusedSimpArgs false

/-- Nothing has changed but the blocks of s; what is new lies behind. -/
structure Ch (s : Nat → Prop) (w w' : World) : Prop where
  os : w'.os = w.os
  tape : w'.tape = w.tape
  output : w'.output = w.output
  size : w.heap.size ≤ w'.heap.size
  block : ∀ k, k < w.heap.size → ¬ s k → w'.heap[k]? = w.heap[k]?
theorem Ch.refl (s : Nat → Prop) (w : World) : Ch s w w := ⟨rfl, rfl, rfl, Nat.le_refl _, fun _ _ _ => rfl⟩
theorem Ch.trans {s : Nat → Prop} {a b c : World} (h : Ch s a b) (k : Ch s b c) : Ch s a c :=
  ⟨k.os.trans h.os, k.tape.trans h.tape, k.output.trans h.output, Nat.le_trans h.size k.size, fun i hi hs => (k.block i (Nat.lt_of_lt_of_le hi h.size) hs).trans (h.block i hi hs)⟩
theorem Ch.mono {s t : Nat → Prop} {a b : World} (h : Ch s a b) (hs : ∀ k, k < a.heap.size → s k → t k) : Ch t a b :=
  ⟨h.os, h.tape, h.output, h.size, fun i hi ht => h.block i hi (fun e => ht (hs i hi e))⟩
theorem Ch.of_below {s : Nat → Prop} {a b : World} (h : Below a.heap.size a b) : Ch s a b := ⟨h.os, h.tape, h.output, h.size, fun i hi _ => h.block i hi⟩
theorem Ch.of_grown {s : Nat → Prop} {a b : World} {r : Option Nat} (h : a.grownBy b r) (hs : ∀ k, r = some k → s k) : Ch s a b :=
  ⟨h.os, h.tape, h.output, h.size, fun i hi hn => h.block i hi (fun e => hn (hs i e.symm))⟩
theorem Ch.undrew {s : Nat → Prop} {a b : World} (h : Ch s a.drew b) : Ch s a b := ⟨h.os, h.tape, h.output, h.size, h.block⟩
theorem Ch.below {s : Nat → Prop} {a b : World} {B : Nat} (h : Ch s a b) (hB : B ≤ a.heap.size) (hs : ∀ k, s k → B ≤ k) : Below B a b :=
  ⟨h.os, h.tape, h.output, h.size, fun i hi => h.block i (by omega) (fun e => by have := hs i e; omega)⟩
theorem Ch.of_set {s : Nat → Prop} {a : World} (p : Addr) (v : Value) (hs : s p.block) : Ch s a (a.setCell p v) :=
  ⟨rfl, rfl, rfl, by simp [World.setCell], fun i hi hn => by
    simp only [World.setCell, Array.getElem?_modify]
    rw [if_neg (fun e : p.block = i => hn (by rw [← e]; exact hs))]⟩

theorem law18 : Keyed Try.prog 56 := int_keyed Try.underlying56
theorem zero18 (w : World) : (zeroValue 3).run Try.prog w = .ok (.int .i64 0) w := by kernel_rfl
def KL (x : Nat) : Lit := .int .u64 x
theorem KL_inj {x y : Nat} (h : KL x = KL y) : x = y := by unfold KL at h; injection h with _ h; omega
theorem KL_wf {x : Nat} (hx : x < 18446744073709551616) : (KL x).wf = true := by
  simp [KL, Lit.wf, IntKind.min, IntKind.max, IntKind.signed, IntKind.bits]
  omega
theorem key_KL {x : Nat} (hx : x < 18446744073709551616) : keyOf Try.prog 56 (.int .u64 x) = some (KL x) := keyOf_int_mk Try.underlying56 (KL_wf hx)

/-- A map holds these counts. -/
structure Cn (D : DataW Unit) (f : Nat → Nat) : Prop where
  fro : ∀ kl, Maps.has D kl = true → ∃ x, kl = KL x ∧ 0 < f x
  to : ∀ x, 0 < f x → x < 18446744073709551616 ∧ Maps.has D (KL x) = true ∧ ∀ z, D.atKey (KL x) z = .lit (.int .i64 (f x))
theorem Cn.no {D : DataW Unit} {f : Nat → Nat} (h : Cn D f) {x : Nat} (hx : f x = 0) : Maps.has D (KL x) = false := by
  cases e : Maps.has D (KL x)
  · rfl
  · obtain ⟨y, h1, h2⟩ := h.fro _ e
    rw [← KL_inj h1] at h2; omega
theorem Cn.at {D : DataW Unit} {f : Nat → Nat} (h : Cn D f) (x : Nat) : D.atKey (KL x) (.lit (.int .i64 0)) = .lit (.int .i64 (f x)) := by
  by_cases hx : 0 < f x
  · exact (h.to x hx).2.2 _
  · have e : f x = 0 := by omega
    rw [Maps.atKey_of_not_has (h.no e), e]; rfl
theorem Cn.congr {D : DataW Unit} {f g : Nat → Nat} (h : Cn D f) (e : ∀ x, f x = g x) : Cn D g := by
  have : f = g := funext e
  rw [← this]; exact h
theorem Cn.empty : Cn (.map []) (fun _ => 0) := ⟨fun kl h => by simp [Maps.has] at h, fun x h => by simp at h⟩
theorem Cn.put {D : DataW Unit} {f : Nat → Nat} (h : Cn D f) (hm : Maps.IsMap D) {x c : Nat} (hx : x < 18446744073709551616) (hc : 0 < c) : Cn (D.put (KL x) (.lit (.int .i64 c))) (fun y => if y = x then c else f y) := by
  have hk : WideAt.IsKeyLit (KL x) := trivial
  constructor
  · intro kl hh
    by_cases e : kl = KL x
    · exact ⟨x, e, by simp [hc]⟩
    · rw [Maps.has_put_other e] at hh
      obtain ⟨y, rfl, h2⟩ := h.fro _ hh
      exact ⟨y, rfl, by rw [if_neg (fun e2 => e (by rw [e2]))]; exact h2⟩
  · intro y hy
    by_cases e : y = x
    · subst e
      refine ⟨hx, Maps.has_put_same hm hk _, fun z => ?_⟩
      rw [Maps.atKey_put_same hm hk]; simp
    · simp only [if_neg e] at hy ⊢
      have hne : KL y ≠ KL x := fun e2 => e (KL_inj e2)
      refine ⟨(h.to y hy).1, ?_, fun z => ?_⟩
      · rw [Maps.has_put_other hne]; exact (h.to y hy).2.1
      · rw [Maps.atKey_put_other hne]; exact (h.to y hy).2.2 z
theorem Cn.del {D : DataW Unit} {f : Nat → Nat} (h : Cn D f) (x : Nat) : Cn (D.del (KL x)) (fun y => if y = x then 0 else f y) := by
  constructor
  · intro kl hh
    by_cases e : kl = KL x
    · subst e; rw [Maps.has_del_same] at hh; cases hh
    · rw [Maps.has_del_other e] at hh
      obtain ⟨y, rfl, h2⟩ := h.fro _ hh
      exact ⟨y, rfl, by rw [if_neg (fun e2 => e (by rw [e2]))]; exact h2⟩
  · intro y hy
    by_cases e : y = x
    · subst e; simp at hy
    · simp only [if_neg e] at hy ⊢
      have hne : KL y ≠ KL x := fun e2 => e (KL_inj e2)
      refine ⟨(h.to y hy).1, ?_, fun z => ?_⟩
      · rw [Maps.has_del_other hne]; exact (h.to y hy).2.1
      · rw [Maps.atKey_del_other hne]; exact (h.to y hy).2.2 z

theorem len_sub : ∀ (l L : List Nat), l.Nodup → (∀ x ∈ l, x ∈ L) → l.length ≤ L.length
  | [], L, _, _ => Nat.zero_le _
  | a :: l, L, hn, hs => by
    have ha := hs a (List.mem_cons_self ..)
    have h1 := len_sub l (L.erase a) (List.nodup_cons.1 hn).2 (fun x hx => (List.mem_erase_of_ne (fun e : x = a => (List.nodup_cons.1 hn).1 (by rw [← e]; exact hx))).2 (hs x (List.mem_cons_of_mem _ hx)))
    have h2 := List.length_erase_of_mem ha
    have h3 : 0 < L.length := List.length_pos_of_mem ha
    simp only [List.length_cons]; omega

/-- The keys of a map of counts. -/
theorem Cn.keys {D : DataW Unit} {f : Nat → Nat} (h : Cn D f) {es : List (Lit × DataW Unit)} (hD : D = .map es) (hp : es.Pairwise (fun p q => p.1 ≠ q.1)) (hI : ∀ p ∈ es, WideAt.IsKeyLit p.1) : ∃ l : List Nat, l.Nodup ∧ (∀ x, x ∈ l ↔ 0 < f x) ∧ l.length = Maps.size D := by
  subst hD
  have hk : ∀ p ∈ es, ∃ x, p.1 = KL x ∧ 0 < f x := fun p hp2 => h.fro p.1 (by rw [Maps.has_eq]; exact List.any_eq_true.2 ⟨p, hp2, (WideAt.sameKey_iff (hI p hp2)).2 rfl⟩)
  refine ⟨es.map (fun p => match p.1 with | .int _ x => x.toNat | _ => 0), ?_, fun x => ?_, by simp [Maps.size]⟩
  · rw [List.Nodup, List.pairwise_map]
    refine hp.imp_of_mem ?_
    intro p q hp1 hq1 hne
    obtain ⟨x, ex, _⟩ := hk p hp1
    obtain ⟨y, ey, _⟩ := hk q hq1
    rw [ex, ey] at hne ⊢
    simp only [KL, Int.toNat_natCast]
    intro e; exact hne (by rw [e])
  · rw [List.mem_map]
    constructor
    · rintro ⟨p, hp1, e⟩
      obtain ⟨y, ey, hy⟩ := hk p hp1
      rw [ey] at e
      simp only [KL, Int.toNat_natCast] at e
      rw [← e]; exact hy
    · intro hx
      have := (h.to x hx).2.1
      rw [Maps.has_eq] at this
      obtain ⟨p, hp1, e⟩ := List.any_eq_true.1 this
      have e2 := WideAt.sameKey_eq e
      exact ⟨p, hp1, by rw [e2]; simp [KL]⟩

/-- Block b is a map of these counts. -/
def Mf (w : World) (b : Nat) (f : Nat → Nat) : Prop := ∃ D : DataW Unit, w.ownsMap Try.prog 56 (plainElem Try.prog 3) b (Maps.size D) D ∧ Cn D f
theorem owns_tight {w : World} {b n : Nat} {D : DataW Unit} (h : w.ownsMap Try.prog 56 (plainElem Try.prog 3) b n D) : w.ownsMap Try.prog 56 (plainElem Try.prog 3) b (Maps.size D) D := by
  obtain ⟨es, clock, h1, h2, h3, rfl⟩ := h
  exact ⟨es, clock, h1, h2, by rw [Maps.size_eq, length_read]; exact Nat.le_refl _, rfl⟩
theorem Mf.lt {w : World} {b : Nat} {f : Nat → Nat} (h : Mf w b f) : b < w.heap.size := by obtain ⟨D, h1, _⟩ := h; exact h1.lt
theorem Mf.keep {w w' : World} {b : Nat} {f : Nat → Nat} (h : Mf w b f) (e : w'.heap[b]? = w.heap[b]?) : Mf w' b f := by
  obtain ⟨D, ⟨es, clock, h1, h2⟩, h3⟩ := h
  exact ⟨D, ⟨es, clock, e.trans h1, h2⟩, h3⟩
theorem Mf.congr {w : World} {b : Nat} {f g : Nat → Nat} (h : Mf w b f) (e : ∀ x, f x = g x) : Mf w b g := by
  obtain ⟨D, h1, h2⟩ := h
  exact ⟨D, h1, h2.congr e⟩
theorem Mf.keys {w : World} {b : Nat} {f : Nat → Nat} (h : Mf w b f) : ∃ D : DataW Unit, w.ownsMap Try.prog 56 (plainElem Try.prog 3) b (Maps.size D) D ∧ Cn D f ∧ ∃ l : List Nat, l.Nodup ∧ (∀ x, x ∈ l ↔ 0 < f x) ∧ l.length = Maps.size D := by
  obtain ⟨D, h1, h2⟩ := h
  obtain ⟨es, e1, e2, e3⟩ := h1.entries law18
  exact ⟨D, h1, h2, h2.keys e1 e2 e3⟩
theorem Mf.made (w : World) : Mf (w.alloc (.map #[] 0)) w.heap.size (fun _ => 0) := ⟨.map [], World.ownsMap_made w _ _ _, Cn.empty⟩
theorem Mf.look {w : World} {b : Nat} {f : Nat → Nat} (h : Mf w b f) {x : Nat} (hx : x < 18446744073709551616) : (Instr.lookup 62 (.map (some b)) (.int .u64 x) false).run Try.prog w = .ok (.int .i64 (f x)) w := by
  obtain ⟨D, h1, h2⟩ := h
  obtain ⟨c, hr, hc, _⟩ := h1.lookup_int law18 Try.underlying62 Try.underlying3 (zero18 w) (key_KL hx)
  rw [h2.at x] at hc
  injection hc with hc
  injection hc with _ hc
  rw [hr, ← hc]
theorem Mf.store {w : World} {b : Nat} {f : Nat → Nat} (h : Mf w b f) {L : List Nat} (hL : ∀ x, 0 < f x → x ∈ L) (hl : L.length < 9000000000000) {x c : Nat} (hx : x < 18446744073709551616) (hc : 0 < c) (hc2 : c < 9223372036854775808) :
    ∃ w', (Instr.mapUpdate 62 (.map (some b)) (.int .u64 x) (.int .i64 c)).run Try.prog w = .ok () w' ∧ Mf w' b (fun y => if y = x then c else f y) ∧ w.grownBy w' (some b) := by
  obtain ⟨D, h1, h2, l, l1, l2, l3⟩ := h.keys
  have hs : Maps.size D < maxLen := by
    have := len_sub l L l1 (fun y hy => hL y ((l2 y).1 hy))
    unfold maxLen; omega
  obtain ⟨w', r1, r2, r3⟩ := h1.update law18 Try.underlying62 hs (key_KL hx) (plainElem_int Try.underlying3 (a := (c : Int)) (by simp [Lit.wf, IntKind.min, IntKind.max, IntKind.signed, IntKind.bits]; omega))
  exact ⟨w', r1, ⟨_, owns_tight r2, h2.put h1.isMap hx hc⟩, r3⟩
theorem Mf.drop {w : World} {b : Nat} {f : Nat → Nat} (h : Mf w b f) {x : Nat} (hx : x < 18446744073709551616) (ty : TypeId) :
    ∃ w', (Builtin.delete_ #[62, 56] ty #[.map (some b), .int .u64 x]).run Try.prog w = .ok (.tuple #[]) w' ∧ Mf w' b (fun y => if y = x then 0 else f y) ∧ w.grownBy w' (some b) := by
  obtain ⟨D, h1, h2⟩ := h
  obtain ⟨w', r1, r2, r3⟩ := h1.drop law18 Try.underlying62 (key_KL hx) ty
  exact ⟨w', r1, ⟨_, owns_tight r2, h2.del x⟩, r3.grown⟩
theorem Mf.len {w : World} {b : Nat} {f : Nat → Nat} (h : Mf w b f) {l : List Nat} (l1 : l.Nodup) (l2 : ∀ x, x ∈ l ↔ 0 < f x) (ty : TypeId) : (Builtin.len_ #[62] ty #[.map (some b)]).run Try.prog w = .ok (.int .i64 l.length) w := by
  obtain ⟨D, h1, h2, k, k1, k2, k3⟩ := h.keys
  rw [h1.len Try.underlying62 ty, ← k3]
  have e : k.length = l.length := Nat.le_antisymm (len_sub k l k1 (fun x hx => (l2 x).2 ((k2 x).1 hx))) (len_sub l k l1 (fun x hx => (k2 x).2 ((l2 x).1 hx)))
  rw [e]
end Go.Proofs.Ytgnmnljmgmbmhaa
