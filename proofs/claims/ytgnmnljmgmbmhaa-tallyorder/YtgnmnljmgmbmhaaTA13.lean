/- tally: three Tallies, and a fourth, while the law of order goes on; lists that came in. -/
import Derived.Test.YtgnmnljmgmbmhaaTA12
import Derived.ProofKit
import Derived.OpenShut
import Derived.ChangeOld
import Derived.ChangeArms
import Derived.SizedLaws
import Derived.Laws.Cover2
namespace Go.Proofs.Ytgnmnljmgmbmhaa
open Go.ChangeShapes Go.WideShapes Go.ChangeAt Go.RowKit
set_option linter.unusedVariables false
set_option maxRecDepth 20000
set_option linter.unusedSimpArgs false

structure To (w wr : World) (ga ba gb bb gc bc : Nat) (j : Bool) (A B C : List Nat) : Prop where
  a : Tm wr ga ba j A
  b : Tm wr gb bb j B
  c : Tm wr gc bc j C
  ne : (ga ≠ gb ∧ ga ≠ bb ∧ ba ≠ gb ∧ ba ≠ bb) ∧ (ga ≠ gc ∧ ga ≠ bc ∧ ba ≠ gc ∧ ba ≠ bc) ∧ (gb ≠ gc ∧ gb ≠ bc ∧ bb ≠ gc ∧ bb ≠ bc)
  ge : w.heap.size ≤ ga ∧ w.heap.size ≤ ba ∧ w.heap.size ≤ gb ∧ w.heap.size ≤ bb ∧ w.heap.size ≤ gc ∧ w.heap.size ≤ bc
  bel : Below w.heap.size w wr
theorem To.setA {w wr v : World} {ga ba gb bb gc bc : Nat} {j : Bool} {A B C A' : List Nat} (h : To w wr ga ba gb bb gc bc j A B C) (ht : Tm v ga ba j A') (hc : Ch (fun k => k = ga ∨ k = ba) wr v) : To w v ga ba gb bb gc bc j A' B C :=
  ⟨ht, h.b.keep hc (by have := h.ne; omega) (by have := h.ne; omega), h.c.keep hc (by have := h.ne; omega) (by have := h.ne; omega), h.ne, h.ge, h.bel.trans (hc.below h.bel.size (fun k e => by have := h.ge; omega))⟩
theorem To.setB {w wr v : World} {ga ba gb bb gc bc : Nat} {j : Bool} {A B C B' : List Nat} (h : To w wr ga ba gb bb gc bc j A B C) (ht : Tm v gb bb j B') (hc : Ch (fun k => k = gb ∨ k = bb) wr v) : To w v ga ba gb bb gc bc j A B' C :=
  ⟨h.a.keep hc (by have := h.ne; omega) (by have := h.ne; omega), ht, h.c.keep hc (by have := h.ne; omega) (by have := h.ne; omega), h.ne, h.ge, h.bel.trans (hc.below h.bel.size (fun k e => by have := h.ge; omega))⟩
theorem To.setC {w wr v : World} {ga ba gb bb gc bc : Nat} {j : Bool} {A B C C' : List Nat} (h : To w wr ga ba gb bb gc bc j A B C) (ht : Tm v gc bc j C') (hc : Ch (fun k => k = gc ∨ k = bc) wr v) : To w v ga ba gb bb gc bc j A B C' :=
  ⟨h.a.keep hc (by have := h.ne; omega) (by have := h.ne; omega), h.b.keep hc (by have := h.ne; omega) (by have := h.ne; omega), ht, h.ne, h.ge, h.bel.trans (hc.below h.bel.size (fun k e => by have := h.ge; omega))⟩
theorem To.below {w wr v : World} {ga ba gb bb gc bc : Nat} {j : Bool} {A B C : List Nat} (h : To w wr ga ba gb bb gc bc j A B C) (hb : Below wr.heap.size wr v) : To w v ga ba gb bb gc bc j A B C := h.setA (h.a.below hb) (Ch.of_below hb)
theorem To.drewN {w wr : World} {ga ba gb bb gc bc : Nat} {j : Bool} {A B C : List Nat} (h : To w wr ga ba gb bb gc bc j A B C) (n : Nat) : To w (wr.drewN n) ga ba gb bb gc bc j A B C := h.below ⟨rfl, rfl, rfl, Nat.le_refl _, fun _ _ => rfl⟩
theorem To.lts {w wr : World} {ga ba gb bb gc bc : Nat} {j : Bool} {A B C : List Nat} (h : To w wr ga ba gb bb gc bc j A B C) : ga < wr.heap.size ∧ ba < wr.heap.size ∧ gb < wr.heap.size ∧ bb < wr.heap.size ∧ gc < wr.heap.size ∧ bc < wr.heap.size := ⟨h.a.lt, h.a.lt2, h.b.lt, h.b.lt2, h.c.lt, h.c.lt2⟩
theorem To.re {w wr : World} {ga ba gb bb gc bc : Nat} {j : Bool} {A B C A' B' C' : List Nat} (h : To w wr ga ba gb bb gc bc j A B C) (p : A.Perm A') (q : B.Perm B') (r : C.Perm C') : To w wr ga ba gb bb gc bc j A' B' C' := ⟨h.a.perm p, h.b.perm q, h.c.perm r, h.ne, h.ge, h.bel⟩

/-- .. and a fourth. -/
structure Tq (w wr : World) (ga ba gb bb gc bc gd bd : Nat) (j : Bool) (A B C D : List Nat) : Prop where
  to : To w wr ga ba gb bb gc bc j A B C
  d : Tm wr gd bd j D
  ne : (gd ≠ ga ∧ gd ≠ ba ∧ gd ≠ gb ∧ gd ≠ bb ∧ gd ≠ gc ∧ gd ≠ bc) ∧ (bd ≠ ga ∧ bd ≠ ba ∧ bd ≠ gb ∧ bd ≠ bb ∧ bd ≠ gc ∧ bd ≠ bc)
  ge : w.heap.size ≤ gd ∧ w.heap.size ≤ bd
theorem Tq.set {w wr v : World} {ga ba gb bb gc bc gd bd : Nat} {j : Bool} {A B C D D' : List Nat} (h : Tq w wr ga ba gb bb gc bc gd bd j A B C D) (ht : Tm v gd bd j D') (hc : Ch (fun k => k = gd ∨ k = bd) wr v) : Tq w v ga ba gb bb gc bc gd bd j A B C D' :=
  ⟨⟨h.to.a.keep hc (by have := h.ne; omega) (by have := h.ne; omega), h.to.b.keep hc (by have := h.ne; omega) (by have := h.ne; omega), h.to.c.keep hc (by have := h.ne; omega) (by have := h.ne; omega), h.to.ne, h.to.ge, h.to.bel.trans (hc.below h.to.bel.size (fun k e => by have := h.ge; omega))⟩, ht, h.ne, h.ge⟩
theorem Tq.re {w wr : World} {ga ba gb bb gc bc gd bd : Nat} {j : Bool} {A B C D D' : List Nat} (h : Tq w wr ga ba gb bb gc bc gd bd j A B C D) (p : D.Perm D') : Tq w wr ga ba gb bb gc bc gd bd j A B C D' := ⟨h.to, h.d.perm p, h.ne, h.ge⟩

theorem trodF {H : Type} {enc : TypeId × Value → H} {P : Program} {w : World} {base : Nat} {spare : Nat → Bool} {held : Bool} {fuel : Nat} {t : TypeId} {cs : List Value} {x : DataW H × List MemPlace} {k : FloatKind} (ht : P.underlying t = some (.float k)) (h : DataW.trod enc P w base spare held fuel t cs = some x) : ∃ n, cs = [.float k n] ∧ x = (.lit (.float k n), []) ∧ (Lit.float k n).wf = true := by
  cases fuel with
  | zero => simp [DataW.trod] at h
  | succ m =>
    simp only [DataW.trod, ht] at h
    split at h <;> simp_all

/-- A list that came in: its numbers, its room. -/
structure CameF (w : World) (a : Option Addr) (n c : Nat) (xs : List Nat) : Prop where
  len : n = xs.length
  cap : n ≤ c
  wf : W64 xs
  rd : Fs w.heap.size w a xs
  nil : a = none → c = 0

theorem add_noneF (b off i : Nat) : (⟨b, off, none⟩ : Addr).add i = ⟨b, off + i, none⟩ := by unfold Addr.add; split <;> simp_all

def numF {H : Type} (y : DataW H × List MemPlace) : Nat := match y.1 with | .lit (.float _ n) => n | _ => 0

theorem Try.cellsF : Try.prog.cellsOf 30 = 1 := by kernel_rfl
theorem Try.bytesF : Try.prog.bytesOf 30 = 8 := by kernel_rfl

theorem cameF_of {H : Type} {enc : TypeId × Value → H} {W : World} {a : Option Addr} {n c : Nat} {d : DataW H} {p : List MemPlace} (h : DataW.Trod enc Try.prog W 0 (fun _ => true) true 39 (.slice a n c) d p) :
    ∃ xs, CameF W a n c xs ∧ ((d = .nil ∧ c = 0) ∨ ∃ elems spare : List (DataW H), d = .slice elems spare ∧ elems.length + spare.length = c) := by
  obtain ⟨fuel, hf⟩ := h
  rcases DataW.trod_slice Try.underlying39 hf with ⟨hcs, hx⟩ | ⟨x, l, cp, elems, rest, m, _, hcs, hx, hb, hl, hm, hlen, hel, hsp, hns⟩
  · simp [Value.cells] at hcs
    obtain ⟨rfl, rfl, rfl⟩ := hcs
    exact ⟨[], ⟨rfl, Nat.le_refl _, (fun x hx => by cases hx), (fun h => absurd rfl h), fun _ => rfl⟩, .inl ⟨(Prod.mk.inj hx).1, rfl⟩⟩
  · simp [Value.cells] at hcs
    obtain ⟨rfl, rfl, rfl⟩ := hcs
    have each : ∀ i y, i < n → elems[i]? = some y → y = (.lit (.float .f64 (numF y)), []) ∧ (Lit.float .f64 (numF y)).wf = true ∧ W.cell? (x.add i) = some (.float .f64 (numF y)) := by
      intro i y hi hy
      have hb' := hel i hi
      rw [hy, Try.cellsF, Nat.mul_one, Option.bind_eq_some_iff] at hb'
      obtain ⟨cs', hcs, hy'⟩ := hb'
      obtain ⟨k, rfl, rfl, hw⟩ := trodF Try.underlying30 hy'
      exact ⟨rfl, hw, cell_of_cells?_one hcs⟩
    refine ⟨elems.map numF, ⟨by simp [hlen], hl, ?_, ?_, fun e => by cases e⟩, .inr ⟨_, _, (Prod.mk.inj hx).1, ?_⟩⟩
    · intro y hy
      obtain ⟨z, hz, rfl⟩ := List.mem_map.1 hy
      obtain ⟨i, hi⟩ := List.getElem?_of_mem hz
      have hil := (List.getElem?_eq_some_iff.1 hi).1
      have := (each i z (by omega) hi).2.1
      exact of_decide_eq_true this
    · intro hne
      obtain ⟨b, off, spot⟩ := x
      have hn0 : 0 < n := by
        rcases Nat.eq_zero_or_pos n with h0 | h0
        · rw [h0] at hlen; have := List.eq_nil_of_length_eq_zero hlen; subst this; simp at hne
        · exact h0
      have hc0 := (each 0 (elems[0]'(by omega)) hn0 (List.getElem?_eq_getElem _)).2.2
      have hspot : spot = none := by simpa [Addr.add] using World.cell?_spot hc0
      subst hspot
      refine ⟨b, off, World.block_lt_of_cell? W _ (by simpa [Addr.add] using hc0), rfl, fun i hi => ?_⟩
      rw [List.length_map] at hi
      have hadd := add_noneF b off i
      have := (each i (elems[i]'hi) (by omega) (List.getElem?_eq_getElem _)).2.2
      rw [hadd] at this
      rw [this]
      simp [List.getD_eq_getElem?_getD, hi]
    · have hr := (hsp rfl).1
      simp only [List.length_map]
      omega

/-- The form's own reach. -/
theorem cameF_reach {H : Type} {ts : List TypeId} {ds : List (DataW H)} (h : (DataW.weightsEach Try.prog ts ds).all (· ≤ reachBytes) = true) {j : Nat} {d : DataW H} {c n : Nat} (ht : ts[j]? = some 39) (hd : ds[j]? = some d) (hn : n ≤ c)
    (hc : (d = .nil ∧ c = 0) ∨ ∃ elems spare : List (DataW H), d = .slice elems spare ∧ elems.length + spare.length = c) : n ≤ 17592186043904 := by
  rcases hc with ⟨_, rfl⟩ | ⟨elems, spare, rfl, hl⟩
  · omega
  · have := sized_slice h ht hd Try.underlying39
    rw [Try.bytesF, hl] at this
    simp only [reachBytes] at this
    omega

end Go.Proofs.Ytgnmnljmgmbmhaa
