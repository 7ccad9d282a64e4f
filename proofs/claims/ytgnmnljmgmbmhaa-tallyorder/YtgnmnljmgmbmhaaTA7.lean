/- tally: rows of entries, sorted. -/
import Derived.Test.YtgnmnljmgmbmhaaTA6
import Derived.Shelf.SlSortCmp.NoneTotal
import Derived.Ground.SlsfProg
import Derived.Lib.RowBridge
import Derived.Lib.SortBridge
import Derived.WalkKit
namespace Go.Proofs.Ytgnmnljmgmbmhaa
open Go.RowKit Go.Shelf
set_option linter.unusedVariables false
set_option maxRecDepth 20000
set_option linter.unusedSimpArgs false
attribute [local go_sem] st_float

def sortL_ren : Go.Shelf.Ren := ⟨fun | 6 => 35 | 15 => 46 | 14 => 45 | 28 => 60 | 29 => 61 | 20 => 52 | 21 => 53 | 22 => 54 | 23 => 55 | 24 => 56 | 25 => 57 | 26 => 58 | 27 => 59 | 46 => 63 | 47 => 64 | 48 => 65 | 49 => 66 | 50 => 67 | 57 => 69 | n => n, fun | 22 => 45 | 24 => 50 | 25 => 67 | 3 => 3 | 39 => 79 | 0 => 0 | 53 => 89 | 55 => 56 | 4 => 4 | 46 => 83 | 45 => 82 | 50 => 74 | 5 => 5 | 9 => 9 | 66 => 94 | 70 => 98 | 76 => 101 | 77 => 102 | n => n, fun | n => n⟩
theorem sortL : Go.Proofs.SlLaysF0.n6 Try.prog sortL_ren := { mixed := (by kernel_rfl), f6 := ⟨Try.f35.name, by decide, Try.func35.trans (congrArg some (by kernel_rfl))⟩, f14 := ⟨Try.f45.name, by decide, Try.func45.trans (congrArg some (by kernel_rfl))⟩, f15 := Try.func46.trans (congrArg some (by kernel_rfl)), f20 := ⟨Try.f52.name, by decide, Try.func52.trans (congrArg some (by kernel_rfl))⟩, f21 := ⟨Try.f53.name, by decide, Try.func53.trans (congrArg some (by kernel_rfl))⟩, f22 := ⟨Try.f54.name, by decide, Try.func54.trans (congrArg some (by kernel_rfl))⟩, f23 := ⟨Try.f55.name, by decide, Try.func55.trans (congrArg some (by kernel_rfl))⟩, f24 := ⟨Try.f56.name, by decide, Try.func56.trans (congrArg some (by kernel_rfl))⟩, f25 := ⟨Try.f57.name, by decide, Try.func57.trans (congrArg some (by kernel_rfl))⟩, f26 := ⟨Try.f58.name, by decide, Try.func58.trans (congrArg some (by kernel_rfl))⟩, f27 := ⟨Try.f59.name, by decide, Try.func59.trans (congrArg some (by kernel_rfl))⟩, f28 := Try.func60.trans (congrArg some (by kernel_rfl)), f29 := Try.func61.trans (congrArg some (by kernel_rfl)), f46 := ⟨Try.f63.name, by decide, Try.func63.trans (congrArg some (by kernel_rfl))⟩, f47 := Try.func64.trans (congrArg some (by kernel_rfl)), f48 := Try.func65.trans (congrArg some (by kernel_rfl)), f49 := ⟨Try.f66.name, by decide, Try.func66.trans (congrArg some (by kernel_rfl))⟩, f50 := ⟨Try.f67.name, by decide, Try.func67.trans (congrArg some (by kernel_rfl))⟩, f57 := ⟨Try.f69.name, by decide, Try.func69.trans (congrArg some (by kernel_rfl))⟩, t0 := Try.underlying0, a0 := Try.isAgg0, z0 := Try.sizeOf0, v0 := Try.zeroValue0, t3 := Try.underlying3, a3 := Try.isAgg3, z3 := Try.sizeOf3, v3 := Try.zeroValue3, t4 := Try.underlying4, a4 := Try.isAgg4, z4 := Try.sizeOf4, v4 := Try.zeroValue4, t5 := Try.underlying5, a5 := Try.isAgg5, z5 := Try.sizeOf5, v5 := Try.zeroValue5, t9 := Try.underlying9, a9 := Try.isAgg9, z9 := Try.sizeOf9, v9 := Try.zeroValue9, t22 := Try.underlying45, a22 := Try.isAgg45, z22 := Try.sizeOf45, v22 := Try.zeroValue45, t25 := Try.underlying67, a25 := Try.isAgg67, z25 := Try.sizeOf67, v25 := Try.zeroValue67, t39 := Try.underlying79, a39 := Try.isAgg79, z39 := Try.sizeOf79, v39 := Try.zeroValue79, t45 := Try.underlying82, a45 := Try.isAgg82, z45 := Try.sizeOf82, v45 := Try.zeroValue82, t46 := Try.underlying83, a46 := Try.isAgg83, z46 := Try.sizeOf83, v46 := Try.zeroValue83, t50 := Try.underlying74, a50 := Try.isAgg74, z50 := Try.sizeOf74, v50 := Try.zeroValue74, t53 := Try.underlying89, a53 := Try.isAgg89, z53 := Try.sizeOf89, v53 := Try.zeroValue89, t55 := Try.underlying56, a55 := Try.isAgg56, z55 := Try.sizeOf56, v55 := Try.zeroValue56, t66 := Try.underlying94, a66 := Try.isAgg94, z66 := Try.sizeOf94, v66 := Try.zeroValue94, t70 := Try.underlying98, a70 := Try.isAgg98, z70 := Try.sizeOf98, v70 := Try.zeroValue98, t76 := Try.underlying101, a76 := Try.isAgg101, z76 := Try.sizeOf101, v76 := Try.zeroValue101, t77 := Try.underlying102, a77 := Try.isAgg102, z77 := Try.sizeOf102, v77 := Try.zeroValue102 }

/-- An entry's cells. -/
def encE (p : Nat × Nat) : List Value := [.float .f64 (p.1 % 18446744073709551616), .int .i64 p.2]
def cfE (x y : Nat × Nat) : Int := B.oc (tk (x.1 % 18446744073709551616)) (tk (y.1 % 18446744073709551616))
theorem ltE (x y : Nat × Nat) : ltOf cfE x y = decide (tk (x.1 % 18446744073709551616) < tk (y.1 % 18446744073709551616)) := by
  unfold ltOf cfE B.oc
  by_cases h1 : tk (x.1 % 18446744073709551616) < tk (y.1 % 18446744073709551616)
  · simp [h1]
  · by_cases h2 : tk (y.1 % 18446744073709551616) < tk (x.1 % 18446744073709551616) <;> simp [h1, h2]
theorem swoE : Sort.SWO (ltOf cfE) where
  irrefl x := by rw [ltE]; simp
  trans x y z h1 h2 := by rw [ltE] at *; simp at *; omega
  ntrans x y z h1 h2 := by rw [ltE] at *; simp at *; omega
theorem closureE (x y : Nat × Nat) (w : World) : Calls Try.prog 36 #[.agg (encE x).toArray, .agg (encE y).toArray] w fun e w' => e = .returned (.int .i64 (cfE x y)) ∧ ∃ q os', w' = Sort.grow (w.drewN q) os' := by
  unfold cfE encE
  have hx : x.1 % 18446744073709551616 < 18446744073709551616 := Nat.mod_lt _ (by decide)
  have hy : y.1 % 18446744073709551616 < 18446744073709551616 := Nat.mod_lt _ (by decide)
  generalize x.1 % 18446744073709551616 = a at *
  generalize y.1 % 18446744073709551616 = b at *
  have HO := hid (fun w => order18 hx hy w)
  generalize B.oc (tk a) (tk b) = r at *
  clear hx hy
  go_enter Try.func36, Try.ntmps36
  go_wp2_with (go_at_call 37; refine (HO.out _).mono ?_; rintro e w' ⟨rfl, rfl⟩)
  go_ret
  exact ⟨rfl, 0, _, by rw [Sort.alloc_eq_grow, Sort.alloc_eq_grow, Sort.grow_grow]; rfl⟩
theorem cmpE (blk off size : Nat) (w : World) : CmpLays Try.prog 36 #[] encE 2 cfE blk off size w := fun _ _ _ _ x y => closureE x y _

/-- A row's cells. -/
def flatE (E : List (Nat × Nat)) : List Value := E.flatMap (fun p => [.float .f64 p.1, .int .i64 p.2])
theorem flatE_len : ∀ E : List (Nat × Nat), (flatE E).length = E.length * 2
  | [] => rfl
  | p :: E => by have := flatE_len E; unfold flatE at *; simp only [List.flatMap_cons, List.length_append, List.length_cons, List.length_nil] at *; omega
theorem flatE_fst : ∀ (E : List (Nat × Nat)) (i : Nat), i < E.length → (flatE E)[i * 2]? = some (.float .f64 (E.getD i (0, 0)).1)
  | [], i, h => by simp at h
  | p :: E, 0, h => by simp [flatE]
  | p :: E, i + 1, h => by
    have := flatE_fst E i (by simpa using h)
    have e : (i + 1) * 2 = i * 2 + 2 := by omega
    unfold flatE at *
    rw [e, List.flatMap_cons, List.getElem?_append_right (by simp)]
    simpa using this
theorem flatE_snd : ∀ (E : List (Nat × Nat)) (i : Nat), i < E.length → (flatE E)[i * 2 + 1]? = some (.int .i64 (E.getD i (0, 0)).2)
  | [], i, h => by simp at h
  | p :: E, 0, h => by simp [flatE]
  | p :: E, i + 1, h => by
    have := flatE_snd E i (by simpa using h)
    have e : (i + 1) * 2 + 1 = i * 2 + 1 + 2 := by omega
    unfold flatE at *
    rw [e, List.flatMap_cons, List.getElem?_append_right (by simp)]
    simpa using this
theorem flatE_append (E F : List (Nat × Nat)) : flatE (E ++ F) = flatE E ++ flatE F := by unfold flatE; rw [List.flatMap_append]
theorem flatE_one (x c : Nat) : flatE [(x, c)] = [.float .f64 x, .int .i64 c] := rfl

theorem flatE_K {E : List (Nat × Nat)} (hE : ∀ p ∈ E, p.1 < 18446744073709551616) : flatE E = (Sort.flatK encE 2 E.toArray).toList := by
  apply List.ext_getElem?
  intro t
  by_cases ht : t < E.length * 2
  · have hK : (Sort.flatK encE 2 E.toArray).toList[t]? = some ((encE (E.getD (t / 2) (0, 0)))[t % 2]!) := by
      have h1 : t < (Sort.flatK encE 2 E.toArray).size := by rw [Sort.size_flatK]; simpa using ht
      have h2 := Sort.get_flatK encE 2 E.toArray t (by simpa using ht)
      rw [getElem!_pos _ t h1] at h2
      rw [Array.getElem?_toList, Array.getElem?_eq_getElem h1, h2]
      have h3 : t / 2 < E.length := by omega
      have h4 : E.toArray[t / 2]! = E.getD (t / 2) (0, 0) := by
        rw [getElem!_pos _ _ (by simpa using h3), List.getD_eq_getElem?_getD, List.getElem?_eq_getElem h3]; simp
      rw [h4]
    rw [hK]
    have h3 : t / 2 < E.length := by omega
    have hp : (E.getD (t / 2) (0, 0)).1 < 18446744073709551616 := by
      rw [List.getD_eq_getElem?_getD, List.getElem?_eq_getElem h3]; exact hE _ (List.getElem_mem h3)
    rcases Nat.mod_two_eq_zero_or_one t with h | h
    · have e := flatE_fst E (t / 2) h3
      rw [show t / 2 * 2 = t from by omega] at e
      rw [e, h]
      unfold encE
      rw [Nat.mod_eq_of_lt hp]
      rfl
    · have e := flatE_snd E (t / 2) h3
      rw [show t / 2 * 2 + 1 = t from by omega] at e
      rw [e, h]
      rfl
  · rw [List.getElem?_eq_none (by rw [flatE_len]; omega), List.getElem?_eq_none (by simp; omega)]

set_option maxHeartbeats 1000000 in
/-- The row of entries sorted. -/
theorem sortE {E : List (Nat × Nat)} {w : World} {B g cap : Nat} (hO : w.ownsRow B 50 2 (.slice (some ⟨g, 0, none⟩) E.length cap) E.length (flatE E)) (hE : ∀ p ∈ E, p.1 < 18446744073709551616) (hl : E.length < 1099511627777) :
    Calls Try.prog 35 #[.slice (some ⟨g, 0, none⟩) E.length cap, .func (.func 36) #[] #[]] w fun r w' => r = .returned (.tuple #[]) ∧
      ∃ E' : List (Nat × Nat), E'.Perm E ∧ E'.Pairwise (fun a b => tk a.1 ≤ tk b.1) ∧ w'.ownsRow B 50 2 (.slice (some ⟨g, 0, none⟩) E.length cap) E.length (flatE E') ∧ Ch (fun k => k = g) w w' := by
  have eg : ∀ args w, (callFunc 36 args).run Try.prog w = .ok (.enter 36 args) w := enters_of Try.func36 (by kernel_rfl) rfl
  have hO' := hO
  rcases hO.2 with ⟨h1, _⟩ | ⟨g', cap', cur, hv, hB, hg, hn, hm, hs, ht⟩
  · cases h1
  injection hv with hv1 hv2 hv3
  injection hv1 with hv1
  injection hv1 with hv1
  subst hv1; subst hv3
  have hgl : g < w.heap.size := (Array.getElem?_eq_some_iff.1 hg).1
  have hsz : E.toArray.size = E.length := by simp
  have hH : Sort.HoldsK encE 2 w g 0 E.toArray := by
    intro t htt
    rw [Sort.size_flatK, hsz] at htt
    have hc := World.ownsRow.cellAt hO' t htt
    have hz := World.ownsRow.frozenAt hO' t
    rw [Nat.zero_add]
    refine ⟨?_, hz⟩
    rw [hc, flatE_K hE]
    have h1 : t < (Sort.flatK encE 2 E.toArray).size := by rw [Sort.size_flatK, hsz]; exact htt
    rw [Array.getElem?_toList, Array.getElem?_eq_getElem h1, getElem!_pos _ t h1]
    rfl
  have hS := AnyQ.slices_SortFunc sortL 2 Try.isAgg50 Try.sizeOf50 encE (fun _ => rfl) (fun x v hv => by simp [encE] at hv; rcases hv with rfl | rfl <;> rfl) cfE swoE 36 #[] g 0 cap E.toArray w eg (cmpE g 0 E.toArray.size w) hH hgl (by rw [hsz]; omega)
  rw [hsz] at hS
  change Calls Try.prog 35 _ _ _ at hS
  refine hS.mono ?_
  rintro e w' ⟨rfl, d', n, os, hp, hso, rfl⟩
  have hds : d'.size = E.length := by rw [hp.1, hsz]
  have hpe : d'.toList.Perm E := by
    have := hp.2.2
    rw [← hds] at this
    have e1 : d'.extract 0 d'.size = d' := by simp
    have e2 : E.toArray.extract 0 d'.size = E.toArray := by rw [hds, ← hsz]; simp
    rw [e1, e2] at this
    simpa using this
  have hE' : ∀ p ∈ d'.toList, p.1 < 18446744073709551616 := fun p hp2 => hE p (hpe.mem_iff.1 hp2)
  have hlen : d'.toList.length = E.length := hpe.length_eq
  have hb : (sortWorldK encE 2 w g 0 n d' os).heap[g]? = some (.cells (Sort.putCells id 0 (Sort.flatK encE 2 d') cur) 50 (0, 0)) := by
    unfold sortWorldK
    rw [Sort.heap_grow_old _ os (by rw [Sort.size_putRowK]; exact hgl)]
    unfold Sort.putRowK Sort.putRow Sort.mapBlock
    show (w.heap.modify g _)[g]? = _
    rw [Array.getElem?_modify, if_pos rfl, hg]
    rfl
  refine ⟨rfl, d'.toList, hpe, ?_, ⟨by rw [flatE_len, hlen], Or.inr ⟨g, cap, _, rfl, hB, hb, hn, hm, by unfold Sort.putCells; simp [hs], ?_⟩⟩, ?_⟩
  · rw [List.pairwise_iff_getElem]
    intro i j hi hj hij
    have h9 := hso i j (Nat.zero_le _) hij (by rw [← hlen]; exact hj)
    rw [ltE] at h9
    have hi2 : i < d'.size := by simpa using hi
    have hj2 : j < d'.size := by simpa using hj
    rw [getElem!_pos _ i hi2, getElem!_pos _ j hj2] at h9
    have a1 := hE' d'[i] (by simp)
    have a2 := hE' d'[j] (by simp)
    rw [Nat.mod_eq_of_lt a1, Nat.mod_eq_of_lt a2] at h9
    simp only [decide_eq_false_iff_not] at h9
    simp only [Array.getElem_toList]
    omega
  · rw [flatE_K hE']
    apply List.ext_getElem?
    intro t
    have hss : (Sort.flatK encE 2 d').size = E.length * 2 := by rw [Sort.size_flatK, hds]
    by_cases htt : t < E.length * 2
    · rw [List.getElem?_take, if_pos htt, Array.getElem?_toList, Array.getElem?_toList]
      have h1 : t < (Sort.flatK encE 2 d').size := by rw [hss]; exact htt
      have h2 : t < cur.size := by rw [hs]; omega
      have h4 : d'.toList.toArray = d' := by simp
      rw [h4]
      unfold Sort.putCells
      rw [Array.getElem?_mapIdx, Array.getElem?_eq_getElem h2, Array.getElem?_eq_getElem h1]
      simp only [Option.map_some, Nat.zero_le, Nat.zero_add, true_and, Nat.sub_zero, id, if_pos h1]
      rw [getElem!_pos _ t h1]
    · rw [List.getElem?_eq_none (by simp; omega), List.getElem?_eq_none (by simp; omega)]
  · unfold sortWorldK
    refine ⟨rfl, rfl, rfl, by rw [Sort.size_grow, Sort.size_putRowK]; exact Nat.le_add_right _ _, fun k hk hne => ?_⟩
    rw [Sort.heap_grow_old _ os (by rw [Sort.size_putRowK]; exact hk)]
    unfold Sort.putRowK Sort.putRow Sort.mapBlock
    show (w.heap.modify g _)[k]? = _
    rw [Array.getElem?_modify, if_neg (fun e => hne e.symm)]
end Go.Proofs.Ytgnmnljmgmbmhaa
