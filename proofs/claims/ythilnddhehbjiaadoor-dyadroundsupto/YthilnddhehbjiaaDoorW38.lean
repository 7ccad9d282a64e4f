/- Nats that came in: what their reading tells. -/
import Derived.Test.YthilnddhehbjiaaDoorW29x
import Derived.ProofKit
import Derived.OpenShut
import Derived.ChangeOld
import Derived.SizedLaws
namespace Go.Proofs.YthilnddhehbjiaaDoor
open Go.ChangeShapes Go.WideShapes Go.ChangeAt Go.RowKit
set_option linter.unusedVariables false
set_option maxRecDepth 20000

/-- A Nat that came in: its words, its room. -/
def Came (w : World) (a : Option Addr) (n c : Nat) (xs : List Nat) : Prop := n = xs.length ∧ n ≤ c ∧ Wf xs ∧ Rd w.heap.size w a xs ∧ (a = none → c = 0)

theorem Came.arg {w : World} {a : Option Addr} {n c : Nat} {xs : List Nat} (h : Came w a n c xs) (hb : n ≤ 35184372088832) : Arg w a n c xs := ⟨h.1, h.2.1, hb, h.2.2.1, h.2.2.2.1, h.2.2.2.2⟩

theorem came_of {H : Type} {enc : TypeId × Value → H} {W : World} {a : Option Addr} {n c : Nat} {d : DataW H} {p : List MemPlace} (h : DataW.Trod enc Tryd.prog W 0 (fun _ => true) true 23 (.slice a n c) d p) :
    ∃ xs, Came W a n c xs ∧ ((d = .nil ∧ c = 0) ∨ ∃ elems spare : List (DataW H), d = .slice elems spare ∧ elems.length + spare.length = c ∧ (∀ e ∈ elems, ∃ l, e = .lit (.int .u32 l)) ∧ ∀ e ∈ spare, ∃ l, e = .lit (.int .u32 l)) := by
  obtain ⟨fuel, hf⟩ := h
  rcases open_ints Tryd.underlying23 Tryd.underlying61 (by kernel_rfl) hf with ⟨hcs, hx⟩ | ⟨x, l, cp, zs, hcs, hb, hl, hm, hz, hx, hcell, hwz⟩
  · simp [Value.cells] at hcs
    obtain ⟨rfl, rfl, rfl⟩ := hcs
    refine ⟨[], ⟨rfl, Nat.le_refl _, Wf.nil, Rd.nil _ _ _, fun _ => rfl⟩, .inl ⟨?_, rfl⟩⟩
    exact (Prod.mk.inj hx).1
  · simp [Value.cells] at hcs
    obtain ⟨rfl, rfl, rfl⟩ := hcs
    have hz' : zs.length = c := by simpa using hz
    have hwf : ∀ z ∈ zs, 0 ≤ z ∧ z < 4294967296 := by
      intro z hzz
      have := hwz z hzz
      simp [Lit.wf, IntKind.min, IntKind.max, IntKind.signed, IntKind.bits] at this
      omega
    refine ⟨(zs.take n).map Int.toNat, ⟨?_, hl, ?_, ?_, fun e => by cases e⟩, .inr ⟨_, _, (Prod.mk.inj hx).1, ?_, ?_, ?_⟩⟩
    · rw [List.length_map, List.length_take]; omega
    · intro y hy
      obtain ⟨z, hz1, rfl⟩ := List.mem_map.1 hy
      have := hwf z (List.mem_of_mem_take hz1)
      omega
    · intro hne
      obtain ⟨b, off, spot⟩ := x
      have hn0 : 0 < n := by
        rcases Nat.eq_zero_or_pos n with h0 | h0
        · subst h0; simp at hne
        · exact h0
      have hc0 := hcell 0 (by omega)
      have hspot : spot = none := by simpa [Addr.add] using World.cell?_spot hc0
      subst hspot
      refine ⟨b, off, World.block_lt_of_cell? W _ (by simpa [Addr.add] using hc0), rfl, fun i hi => ?_⟩
      rw [List.length_map, List.length_take] at hi
      have hadd : (⟨b, off, none⟩ : Addr).add i = ⟨b, off + i, none⟩ := by unfold Addr.add; split <;> simp_all
      have := hcell i (by omega)
      rw [hadd] at this
      rw [this]
      have hi2 : i < zs.length := by omega
      have hin : i < n := by omega
      have hv : 0 ≤ zs[i] := (hwf _ (List.getElem_mem hi2)).1
      simp [List.getD_eq_getElem?_getD, hi2, hin, Int.toNat_of_nonneg hv]
    · simp only [lits, List.length_map, List.length_take, List.length_drop]; omega
    · intro e he
      simp only [lits, List.mem_map] at he
      obtain ⟨z, _, rfl⟩ := he
      exact ⟨z, rfl⟩
    · intro e he
      simp only [lits, List.mem_map] at he
      obtain ⟨z, _, rfl⟩ := he
      exact ⟨z, rfl⟩

theorem Tryd.bytes61 : Tryd.prog.bytesOf 61 = 4 := by kernel_rfl

/-- The form's own reach. -/
theorem came_reach {H : Type} {ts : List TypeId} {ds : List (DataW H)} (h : (DataW.weightsEach Tryd.prog ts ds).all (· ≤ reachBytes) = true) {j : Nat} {d : DataW H} {c n : Nat} (ht : ts[j]? = some 23) (hd : ds[j]? = some d) (hn : n ≤ c)
    (hc : (d = .nil ∧ c = 0) ∨ ∃ elems spare : List (DataW H), d = .slice elems spare ∧ elems.length + spare.length = c ∧ (∀ e ∈ elems, ∃ l, e = .lit (.int .u32 l)) ∧ ∀ e ∈ spare, ∃ l, e = .lit (.int .u32 l)) : n ≤ 35184372087808 := by
  rcases hc with ⟨_, rfl⟩ | ⟨elems, spare, rfl, hl, _⟩
  · omega
  · have := sized_slice h ht hd Tryd.underlying23
    rw [Tryd.bytes61, hl] at this
    simp only [reachBytes] at this
    omega
end Go.Proofs.YthilnddhehbjiaaDoor
