/- Blocks of cells; with: a thing's value is put in. -/
import Derived.Test.YtmpakpdikkfofaaGreatDoorM1x
import Derived.Test.YtmpakpdikkfofaaGreatDoorW12x
import Derived.Deep.MidRow
import Derived.ChangeKeysEq
import Derived.Laws.OwnMore
import Derived.Lib.SliceRun
import Derived.Deep.RegionHeld
import Derived.WalkKit
import Derived.Test.YtmpakpdikkfofaaGreatDoorBIeeex
import Derived.Test.YtmpakpdikkfofaaGreatDoorProg
import Derived.WalkLawsBesides
import Derived.WalkSpells
import Derived.Laws.Externs
import Derived.BigQuiet
import Derived.ArgAppend
import Derived.Maps.AppendAt
import Derived.WalkMore
import Derived.ProofKit
import Derived.OpenShut
import Derived.ChangeOld
import Derived.SizedLaws
namespace Go.Proofs.YtmpakpdikkfofaaGreatDoor
open Go.RowKit
set_option linter.unusedVariables false
set_option maxRecDepth 20000

/-- A block of cells. -/
def Bl (w : World) (g T : Nat) (C : List Value) : Prop := w.heap[g]? = some (.cells C.toArray T (0, 0))
theorem Bl.lt {w : World} {g T : Nat} {C : List Value} (h : Bl w g T C) : g < w.heap.size := (Array.getElem?_eq_some_iff.1 h).1
theorem Bl.cell {w : World} {g T : Nat} {C : List Value} (h : Bl w g T C) (i : Nat) (v : Value) (hv : C[i]? = some v) : w.cell? ⟨g, i, none⟩ = some v := by
  unfold Bl at h
  simp [World.cell?, h, hv]
theorem Bl.frozen {w : World} {g T : Nat} {C : List Value} (h : Bl w g T C) (i : Nat) : w.frozen? ⟨g, i, none⟩ = false := by
  unfold Bl at h
  simp [World.frozen?, h]
theorem Bl.set {w : World} {g T : Nat} {C : List Value} (h : Bl w g T C) (i : Nat) (v : Value) : Bl (w.setCell ⟨g, i, none⟩ v) g T (C.set i v) := by
  unfold Bl at h ⊢
  simp [World.setCell, Array.getElem?_modify, h]
theorem Bl.drew {w : World} {g T : Nat} {C : List Value} (h : Bl w g T C) : Bl w.drew g T C := h
theorem Bl.below {w w' : World} {g T B : Nat} {C : List Value} (h : Bl w g T C) (hb : Below B w w') (hg : g < B) : Bl w' g T C := by
  unfold Bl at h ⊢
  rw [hb.block g hg]; exact h
theorem Bl.but {w w' : World} {g g' T : Nat} {C : List Value} (h : Bl w g T C) (hb : But g' w w') (hg : g ≠ g') : Bl w' g T C := by
  unfold Bl at h ⊢
  rw [hb.block g (Bl.lt h) hg]; exact h
theorem Bl.range {w : World} {g T : Nat} {C : List Value} (h : Bl w g T C) (o : Nat) (cs : List Value) (hc : ∀ j v, cs[j]? = some v → C[o + j]? = some v) : w.rangeAt g o cs :=
  fun j v hv => h.cell _ _ (hc j v hv)
theorem Bl.there {w : World} {g T : Nat} {C : List Value} (h : Bl w g T C) (o n : Nat) (hn : o + n ≤ C.length) : w.there g o n :=
  fun j hj => ⟨by rw [h.cell (o + j) _ (List.getElem?_eq_getElem (by omega))]; rfl, h.frozen _⟩
theorem Bl.setCells {g T : Nat} : ∀ (vs : List Value) (o : Nat) {w : World} {C : List Value} (h : Bl w g T C) (hn : o + vs.length ≤ C.length), Bl (w.setCells g o vs) g T (C.take o ++ vs ++ C.drop (o + vs.length))
  | [], o, w, C, h, hn => by simpa [World.setCells] using h
  | v :: r, o, w, C, h, hn => by
    rw [World.setCells]
    have := Bl.setCells r (o + 1) (h.set o v) (by simp at hn ⊢; omega)
    simp only [List.length_cons] at hn
    have e : (C.set o v).take (o + 1) ++ r ++ (C.set o v).drop (o + 1 + r.length) = C.take o ++ (v :: r) ++ C.drop (o + (v :: r).length) := by
      rw [List.drop_set, if_pos (by omega), List.take_succ_eq_append_getElem (by simp; omega), List.getElem_set_self, List.take_set, List.set_eq_of_length_le (by simp; omega)]
      simp [Nat.add_assoc, Nat.add_comm 1]
    rw [e] at this
    exact this
theorem Bl.setAll {g T : Nat} {w : World} {C vs : List Value} (h : Bl w g T C) (hn : vs.length = C.length) : Bl (w.setCells g 0 vs) g T vs := by
  have := Bl.setCells vs 0 h (by omega)
  rw [hn] at this
  simpa using this
theorem But.setCells {g : Nat} {a : World} : ∀ (vs : List Value) (o : Nat) {w : World} (h : But g a w), But g a (w.setCells g o vs)
  | [], o, w, h => h
  | v :: r, o, w, h => by rw [World.setCells]; exact But.setCells r (o + 1) (h.set o v)
theorem bel_alloc (w : World) (o : Obj) : Below w.heap.size w (w.alloc o) := (Below.refl _ _).alloc (Nat.le_refl _) _
theorem Bl.alloc {w : World} {g T : Nat} {C : List Value} (h : Bl w g T C) (o : Obj) : Bl (w.alloc o) g T C := by
  unfold Bl at h ⊢
  rw [(bel_alloc w o).block g (Bl.lt h)]; exact h
theorem Bl.new (w : World) (T : Nat) (C : List Value) : Bl (w.alloc (.cells C.toArray T)) w.heap.size T C := by
  unfold Bl
  rw [heap_alloc_new]
theorem Bl.new' (w : World) (T n : Nat) (C : List Value) (hn : n = w.heap.size) : Bl (w.alloc (.cells C.toArray T)) n T C := by
  subst hn; exact Bl.new w T C
theorem Wb.bl {w : World} {g : Nat} {L : List Nat} (h : Wb w g L) : Bl w g 75 (L.map U) := h
theorem Bl.wb {w : World} {g : Nat} {L : List Nat} (h : Bl w g 75 (L.map U)) : Wb w g L := h
theorem oneCell_U (L : List Nat) : ((L.map U).toArray).all (·.oneCell') = true := all_oneCell_toArray fun v hv => by
  obtain ⟨x, _, rfl⟩ := List.mem_map.1 hv; rfl

theorem Tryz.zero_words : Tryz.zeroCells75 = (List.replicate 133 (Value.int .u32 0)).toArray := by kernel_rfl
theorem Tryz.size_words : (Tryz.prog.info? 75).map (·.size) = some 133 := by kernel_rfl
theorem Tryz.desc_words : Tryz.prog.underlying 75 = some (.array 133 62) := by kernel_rfl

theorem emod_add' (x y n : Int) : (x % n + y) % n = (x + y) % n := by simp
/-- More or less by a number. -/
def sgn7 (ng : Bool) (T : Nat) : Int := if ng then -(T : Int) else (T : Int)
theorem sgn_zero (ng : Bool) : sgn7 ng 0 = 0 := by cases ng <;> simp [sgn7]
theorem sgn_add (ng : Bool) (a b : Nat) : sgn7 ng (a + b) = sgn7 ng a + sgn7 ng b := by cases ng <;> simp [sgn7]; omega

theorem with_step (xs : List Nat) (k p : Nat) (hk : k < xs.length) : val (xs.take (k + 1)) * 2 ^ p = val (xs.take k) * 2 ^ p + xs.getD k 0 * 2 ^ (p + 32 * k) := by
  rw [val_take_succ xs k hk, Nat.add_mul, pw_pow, Nat.pow_add]
  congr 1
  rw [Nat.mul_comm (2 ^ (32 * k)), Nat.mul_assoc, Nat.mul_comm (2 ^ (32 * k))]

set_option maxHeartbeats 2000000 in
theorem with_any (L xs : List Nat) (ao : Option Addr) (n cap p : Nat) (kd : Int) (ng : Bool) (w : World) (hl : L.length = 133) (hL : Wf L) (hA : Arg w ao n cap xs) (hp : p + 32 * n ≤ 4256) :
    Calls Tryz.prog 95 #[.agg (L.map U).toArray, .agg #[.int .i64 kd, .bool ng, .slice ao n cap, .int .i64 (p : Nat)]] w fun r w' =>
      ∃ M, r = .returned (.agg (M.map U).toArray) ∧ M.length = 133 ∧ Wf M ∧ (val M : Int) = ((val L : Int) + sgn7 ng (val xs * 2 ^ p)) % (PB : Int) ∧ Below w.heap.size w w' := by
  have HR : Aside (Wf L ∧ L.length = 133 ∧ Arg w ao n cap xs) := ⟨hL, hl, hA⟩
  clear hL hl hA
  go_enter Tryz.func95, Tryz.ntmps95
  go_wp2
  obtain ⟨w3, hw3⟩ : ∃ w3, w3 = (((w.alloc (Obj.cells (L.map U).toArray 75)).alloc (Obj.cells #[Value.int IntKind.i64 kd, Value.bool ng, Value.slice ao n cap, Value.int IntKind.i64 (p : Nat)] 84)).alloc (Obj.cells Tryz.zeroCells75 75)) := ⟨_, rfl⟩
  rw [← hw3]
  have H3 : Aside (Below w.heap.size w w3 ∧ Wb w3 w.heap.size L ∧ Bl w3 (w.heap.size + 1) 84 [Value.int IntKind.i64 kd, Value.bool ng, Value.slice ao n cap, Value.int IntKind.i64 (p : Nat)] ∧ Bl w3 (w.heap.size + 1 + 1) 75 (List.replicate 133 (Value.int .u32 0)) ∧ w3.heap.size = w.heap.size + 3) := by
    subst hw3
    refine ⟨?_, ?_, ?_, ?_, by simp⟩
    · exact ((bel_alloc w _).trans ((bel_alloc _ _).mono (by simp))).trans ((bel_alloc _ _).mono (by simp; omega))
    · exact (((Bl.new w 75 (L.map U)).alloc _).alloc _).wb
    · exact (Bl.new' (w.alloc (Obj.cells (L.map U).toArray 75)) 84 _ [_, _, _, _] (by simp)).alloc _
    · rw [Tryz.zero_words]; exact Bl.new' _ 75 _ _ (by simp)
  clear hw3
  go_loopg [10] n (fun gk i wr => ∃ (k : Nat) (M : List Nat), gk + k = n ∧ i = .int .i64 (k : Nat) ∧ 
      Aside (Wb wr w.heap.size M ∧ Wf M ∧ M.length = 133 ∧ (val M : Int) = ((val L : Int) + sgn7 ng (val (xs.take k) * 2 ^ p)) % (PB : Int) ∧ But w.heap.size w3 wr))
  case atStart => exact ⟨0, L, by omega, by simp, H3.out.2.1, HR.out.1, HR.out.2.1, by simp only [List.take_zero, val, Nat.zero_mul, sgn_zero, Int.add_zero]; rw [Int.emod_eq_of_lt (by omega) (by have := val_lt_PB HR.out.2.1 HR.out.1; omega)], But.refl _ _⟩
  case round =>
    obtain ⟨k, M, hgk, rfl, HA⟩ := hrel
    by_cases hk : k < n
    · obtain ⟨hL, hl, hA⟩ := HR.out
      obtain ⟨hM, hMw, hMl, hMs, hbut⟩ := HA.out
      obtain ⟨b3, _, T3, Z3, s3⟩ := H3.out
      obtain ⟨b, boff, hbB, rfl, hbc⟩ := hA.rd (by intro e; subst e; have := hA.len; simp at this; omega)
      have hbk : wr.cell? ⟨b, boff + k, none⟩ = some (.int .u32 ((xs.getD k 0 : Nat) : Int)) := by
        have h0 := b3.block b hbB
        have h1 := hbut.block b (by omega) (by omega)
        exact (World.cell?_of_block (a := ⟨b, boff + k, none⟩) (h1.trans h0)).trans (hbc k (by rw [← hA.len]; omega))
      have T4 := T3.but hbut (by omega)
      have c1 := T4.cell 1 _ rfl
      have c3 := T4.cell 3 _ rfl
      obtain ⟨y, hy⟩ : ∃ y : Nat, xs.getD k 0 = y := ⟨_, rfl⟩
      have hyl : y < 4294967296 := hy ▸ hA.wf.get _
      rw [hy] at hbk
      have HX : Aside (xs.getD k 0 = y) := hy
      have HB : Aside (∀ i, i < xs.length → w.cell? ⟨b, boff + i, none⟩ = some (.int .u32 ((xs.getD i 0 : Nat) : Int))) := hbc
      clear hy hL hl hA hM hMw hMl hMs hbut b3 T3 Z3 s3 T4 hbc
      cases ng
      · go_wp2_with fail
        rw [show (p : Int) + 32 * (k : Int) = ((p + 32 * k : Nat) : Int) by simp]
        obtain ⟨hM, hMw, hMl, hMs, hbut⟩ := HA.out
        refine (Calls.mono (wadd_any M w.heap.size y (p + 32 * k) wr hM hMl hMw hyl (by omega)) ?_)
        rintro r w' ⟨rfl, M', hM', hMl', hMw', hv', hb'⟩
        have HA' : Aside (Wb w' w.heap.size M' ∧ Wf M' ∧ M'.length = 133 ∧ val M' = (val M + y * 2 ^ (p + 32 * k)) % PB ∧ But w.heap.size wr w') := ⟨hM', hMw', hMl', hv', hb'⟩
        clear hM hMw hMl hMs hbut hM' hMl' hMw' hv' hb'
        go_wp2
        go_roundg (gk - 1)
        case measure => omega
        case rel =>
          obtain ⟨hM', hMw', hMl', hv', hb'⟩ := HA'.out
          obtain ⟨hM, hMw, hMl, hMs, hbut⟩ := HA.out
          refine ⟨k + 1, M', by omega, by simp, hM', hMw', hMl', ?_, hbut.trans hb'⟩
          rw [with_step xs k p (by rw [← HR.out.2.2.len]; exact hk), HX.out, sgn_add, ← Int.add_assoc, ← emod_add', ← hMs, hv']
          simp [sgn7]
      · go_wp2_with fail
        rw [show (p : Int) + 32 * (k : Int) = ((p + 32 * k : Nat) : Int) by simp]
        obtain ⟨hM, hMw, hMl, hMs, hbut⟩ := HA.out
        refine (Calls.mono (wtake_any M w.heap.size y (p + 32 * k) wr hM hMl hMw hyl (by omega)) ?_)
        rintro r w' ⟨rfl, M', hM', hMl', hMw', hv', hb'⟩
        have HA' : Aside (Wb w' w.heap.size M' ∧ Wf M' ∧ M'.length = 133 ∧ (val M' : Int) = ((val M : Int) - ((y * 2 ^ (p + 32 * k) : Nat) : Int)) % (PB : Int) ∧ But w.heap.size wr w') := ⟨hM', hMw', hMl', hv', hb'⟩
        clear hM hMw hMl hMs hbut hM' hMl' hMw' hv' hb'
        go_wp2
        go_roundg (gk - 1)
        case measure => omega
        case rel =>
          obtain ⟨hM', hMw', hMl', hv', hb'⟩ := HA'.out
          obtain ⟨hM, hMw, hMl, hMs, hbut⟩ := HA.out
          refine ⟨k + 1, M', by omega, by simp, hM', hMw', hMl', ?_, hbut.trans hb'⟩
          rw [with_step xs k p (by rw [← HR.out.2.2.len]; exact hk), HX.out, sgn_add, ← Int.add_assoc, ← emod_add', ← hMs, hv']
          simp only [sgn7, if_true, Int.sub_eq_add_neg]
    · obtain rfl : k = n := by omega
      obtain ⟨hM, hMw, hMl, hMs, hbut⟩ := HA.out
      obtain ⟨b3, _, T3, Z3, s3⟩ := H3.out
      have HZ : Aside (Bl wr (w.heap.size + 1 + 1) 75 (List.replicate 133 (Value.int .u32 0))) := Z3.but hbut (by omega)
      have HB : Aside (Below w.heap.size w w3 ∧ w3.heap.size = w.heap.size + 3) := ⟨b3, s3⟩
      clear hM hMw hMl hMs hbut b3 T3 Z3 s3
      go_wp2_with (first
        | (with_reducible refine wpList_load_mid (P := Tryz.prog) rfl 75 (.tmp 2) rfl w.heap.size 0 rfl (M.map U) _ (HA.out.1.bl.range 0 _ (fun j v hv => by simpa using hv)) Tryz.desc_words rfl (by simp [Tryz.size_words, HA.out.2.2.1]) ?_)
        | (with_reducible refine wpList_store_mid (P := Tryz.prog) rfl 75 (.tmp 4) (.tmp 32) rfl (w.heap.size + 1 + 1) 0 (M.map U).toArray rfl rfl (HZ.out.there 0 _ (by simp [HA.out.2.2.1])) (by simp [Tryz.size_words, HA.out.2.2.1]) (oneCell_U M) ?_))
      have hZ : Bl (wr.setCells (w.heap.size + 1 + 1) 0 (M.map U)) (w.heap.size + 1 + 1) 75 (M.map U) := HZ.out.setAll (by simp [HA.out.2.2.1])
      refine bodyPost_ret (v := .agg (M.map U).toArray) (results_cell_row (P := Tryz.prog) Tryz.results95 _ _ (w.heap.size + 1 + 1) 75 _ _ _ rfl hZ Tryz.desc_words rfl (by simp [Tryz.size_words, HA.out.2.2.1])) rfl ?_
      obtain ⟨hM, hMw, hMl, hMs, hbut⟩ := HA.out
      obtain ⟨b3, s3⟩ := HB.out
      refine ⟨M, rfl, hMl, hMw, ?_, ?_⟩
      · rw [hMs, List.take_of_length_le (by rw [← HR.out.2.2.len]; exact Nat.le_refl _)]
      · exact But.below (But.below b3 hbut (by omega) (Nat.le_refl _)) (But.setCells _ _ (But.refl _ _)) (by have := hbut.size; omega) (by omega)
end Go.Proofs.YtmpakpdikkfofaaGreatDoor

/- merged: two values together. -/
namespace Go.Proofs.YtmpakpdikkfofaaGreatDoor
open Go.RowKit
set_option linter.unusedVariables false
set_option maxRecDepth 20000

/-- Words that lie at the head of a block. -/
def Hd (w : World) (g : Nat) (L : List Nat) : Prop := g < w.heap.size ∧ ∀ i, i < L.length → w.cell? ⟨g, i, none⟩ = some (.int .u32 ((L.getD i 0 : Nat) : Int))
theorem Hd.below {w w' : World} {g B : Nat} {L : List Nat} (h : Hd w g L) (hb : Below B w w') (hg : g < B) (hB : B ≤ w.heap.size) : Hd w' g L :=
  ⟨by have := hb.size; omega, fun i hi => (hb.cell (p := ⟨g, i, none⟩) hg).trans (h.2 i hi)⟩
theorem Hd.but {w w' : World} {g g' : Nat} {L : List Nat} (h : Hd w g L) (hb : But g' w w') (hg : g ≠ g') : Hd w' g L :=
  ⟨by have := hb.size; have := h.1; omega, fun i hi => (World.cell?_of_block (a := ⟨g, i, none⟩) (hb.block g h.1 hg)).trans (h.2 i hi)⟩
theorem Bl.hd {w : World} {g T : Nat} {L : List Nat} {C : List Value} (h : Bl w g T (L.map U ++ C)) : Hd w g L :=
  ⟨h.lt, fun i hi => h.cell i _ (by rw [List.getElem?_append_left (by simpa using hi)]; simp [U, List.getD_eq_getElem?_getD, List.getElem?_eq_getElem hi])⟩
theorem Wb.hd {w : World} {g : Nat} {L : List Nat} (h : Wb w g L) : Hd w g L := ⟨h.lt, fun i hi => h.cell i hi⟩

end Go.Proofs.YtmpakpdikkfofaaGreatDoor

/- below, beyond: where a value lies. -/
namespace Go.Proofs.YtmpakpdikkfofaaGreatDoor
open Go.RowKit
set_option linter.unusedVariables false
set_option maxRecDepth 20000

theorem Tryz.plain_u32 : Tryz.prog.plainKey 62 = true := by kernel_rfl
theorem Tryz.cells_u32 : Tryz.prog.cellsOf 62 = 1 := by kernel_rfl
theorem Tryz.under_u32 : Tryz.prog.underlying 62 = some (.int .u32) := by kernel_rfl
theorem Tryz.there_u32 : (Tryz.prog.info? 62).isSome = true := by kernel_rfl
theorem eq_items (L K : List Nat) (d : Nat) (w : World) : ∀ (is : List Nat), (∀ i ∈ is, i < L.length ∧ i < K.length) →
    (Op.eqItems (d + 1) 62 1 (L.map U).toArray (K.map U).toArray is).run Tryz.prog w = .ok (decide (∀ i ∈ is, L.getD i 0 = K.getD i 0)) w
  | [], _ => by simp [Op.eqItems]
  | i :: is, h => by
    obtain ⟨h1, h2⟩ := h i (by simp)
    have ih := eq_items L K d w is (fun j hj => h j (by simp [hj]))
    have p1 : (part 62 (L.map U).toArray (i * 1)).run Tryz.prog w = .ok (.int .u32 ((L.getD i 0 : Nat) : Int)) w :=
      run_part_plain _ Tryz.plain_u32 (by simp [U, List.getD_eq_getElem?_getD, List.getElem?_eq_getElem h1])
    have p2 : (part 62 (K.map U).toArray (i * 1)).run Tryz.prog w = .ok (.int .u32 ((K.getD i 0 : Nat) : Int)) w :=
      run_part_plain _ Tryz.plain_u32 (by simp [U, List.getD_eq_getElem?_getD, List.getElem?_eq_getElem h2])
    simp only [Op.eqItems, Sem.run_bind, p1, p2, Result.andThen_ok, run_equalIn_int w d 62 .u32 .u32 _ _ Tryz.under_u32]
    by_cases e : L.getD i 0 = K.getD i 0
    · rw [e]
      simp only [beq_self_eq_true, Bool.not_true]
      rw [if_neg (by decide), ih]
      simp only [List.mem_cons, forall_eq_or_imp, e, true_and]
    · have e2 : (((L.getD i 0 : Nat) : Int) == ((K.getD i 0 : Nat) : Int)) = false := by simp only [beq_eq_false_iff_ne, ne_eq]; omega
      rw [e2]
      simp only [List.mem_cons, forall_eq_or_imp, e, false_and, decide_false, Bool.not_false, if_true, Sem.run_pure]
theorem eq_words (L K : List Nat) (w : World) (hl : L.length = 133) (hk : K.length = 133) :
    (Op.equalIn 10000 75 (.agg (L.map U).toArray) (.agg (K.map U).toArray)).run Tryz.prog w = .ok (decide (L = K)) w := by
  obtain ⟨i, hi⟩ := Option.isSome_iff_exists.1 Tryz.there_u32
  rw [show (10000 : Nat) = 9999 + 1 by rfl, run_equalIn_array _ 9999 _ _ Tryz.desc_words hi, Tryz.cells_u32, show (9999 : Nat) = 9998 + 1 by rfl, eq_items L K 9998 w (List.range 133) (fun i hi => by simp at hi; omega)]
  congr 1
  rw [decide_eq_decide]
  constructor
  · intro h
    apply List.ext_getElem (by omega)
    intro i h1 h2
    have := h i (by simp; omega)
    simpa [List.getD_eq_getElem?_getD, List.getElem?_eq_getElem h1, List.getElem?_eq_getElem h2] using this
  · rintro rfl i _; rfl
/-- The lower bound itself. -/
def lowL : List Nat := List.replicate 132 0 ++ [4294950912]
theorem Tryz.low_words : Tryz.zeroCells75.setIfInBounds 132 (Value.int IntKind.u32 4294950912) = (lowL.map U).toArray := by kernel_rfl
theorem lowL_len : lowL.length = 133 := by simp [lowL]
theorem Tryz.nought_words : Tryz.zeroCells75 = ((List.replicate 133 0).map U).toArray := by kernel_rfl

theorem below_lo (g t : Nat) (w : World) (hc : w.cell? ⟨g, 132, none⟩ = some (.int .u32 (t : Nat))) (ht : t < 2147483648) :
    Calls Tryz.prog 102 #[.pointer (some ⟨g, 0, none⟩)] w fun r w' => r = .returned (.bool false) ∧ w' = w := by
  go_enter Tryz.func102, Tryz.ntmps102
  go_wp2
  refine bodyPost_ret (v := .bool false) (by simp [results, Tryz.results102, go_sem]) rfl ⟨rfl, rfl⟩
theorem below_hi (g t : Nat) (w : World) (hc : w.cell? ⟨g, 132, none⟩ = some (.int .u32 (t : Nat))) (ht0 : 2147483648 ≤ t) (ht : t < 4294967296) :
    Calls Tryz.prog 102 #[.pointer (some ⟨g, 0, none⟩)] w fun r w' => r = .returned (.bool true) ∧ w' = w := by
  have hw : wrap32 (t : Int) = (t : Int) - 4294967296 := by unfold wrap32; omega
  go_enter Tryz.func102, Tryz.ntmps102
  go_wp2
  refine bodyPost_ret (v := .bool true) (by simp [results, Tryz.results102, go_sem]; omega) rfl ⟨rfl, rfl⟩
theorem beyond_lo (g t : Nat) (w : World) (hc : w.cell? ⟨g, 132, none⟩ = some (.int .u32 (t : Nat))) (ht : t < 16384) :
    Calls Tryz.prog 131 #[.pointer (some ⟨g, 0, none⟩)] w fun r w' => r = .returned (.bool false) ∧ w' = w := by
  have hw : ((t : Int) / 16384 == 0) = true := by simp; omega
  go_enter Tryz.func131, Tryz.ntmps131
  go_wp2
  refine bodyPost_ret (v := .bool false) (by simp [results, Tryz.results131, go_sem]) rfl ⟨rfl, rfl⟩
theorem beyond_mid (g t : Nat) (w : World) (hc : w.cell? ⟨g, 132, none⟩ = some (.int .u32 (t : Nat))) (ht0 : 16384 ≤ t) (ht : t < 4294950912) :
    Calls Tryz.prog 131 #[.pointer (some ⟨g, 0, none⟩)] w fun r w' => r = .returned (.bool true) ∧ w' = w := by
  have hw0 : (wrap32 (t : Int) / 16384 == 0) = false := by simp; unfold wrap32; omega
  have hw1 : (wrap32 (t : Int) / 16384 == -1) = false := by simp; unfold wrap32; omega
  go_enter Tryz.func131, Tryz.ntmps131
  go_wp2
  refine bodyPost_ret (v := .bool true) (by simp [results, Tryz.results131, go_sem]) rfl ⟨rfl, rfl⟩
theorem beyond_hi (g t : Nat) (L : List Nat) (w : World) (hc : w.cell? ⟨g, 132, none⟩ = some (.int .u32 (t : Nat))) (hr : w.rangeAt g 0 (L.map U)) (hl : L.length = 133) (ht0 : 4294950912 ≤ t) (ht : t < 4294967296) :
    Calls Tryz.prog 131 #[.pointer (some ⟨g, 0, none⟩)] w fun r w' => r = .returned (.bool (decide (L = lowL))) ∧ w' = w := by
  have hw0 : (wrap32 (t : Int) / 16384 == 0) = false := by simp; unfold wrap32; omega
  have hw1 : (wrap32 (t : Int) / 16384 == -1) = true := by simp; unfold wrap32; omega
  have HL : Aside (L.length = 133 ∧ w.rangeAt g 0 (L.map U)) := ⟨hl, hr⟩
  clear hl hr
  go_enter Tryz.func131, Tryz.ntmps131
  go_wp2_with (first | (with_reducible refine wpList_load_mid (P := Tryz.prog) rfl 75 (.tmp 14) rfl g 0 rfl (L.map U) _ HL.out.2 Tryz.desc_words rfl (by simp [Tryz.size_words, HL.out.1]) ?_))
  rw [Tryz.low_words, eq_words L _ w HL.out.1 lowL_len]
  generalize hb : decide (L = lowL) = b
  generalize hK : lowL = K at hb
  have HK : Aside (decide (L = lowL) = b) := by rw [hK]; exact hb
  clear hb hK
  simp only [Result.andThen_ok, Oper.upon]
  go_wp2
  exact bodyPost_ret (v := .bool b) (by simp [results, Tryz.results131, go_sem]) rfl ⟨by rw [HK.out], rfl⟩

/-- The half of what the words can tell; the bound. -/
def HB : Nat := 16384 * pw 132
theorem HB_pos : 0 < HB := Nat.mul_pos (by decide) (pw_pos _)
theorem PB_top : PB = 4294967296 * pw 132 := by unfold PB; exact pw_succ 132
attribute [irreducible] HB
theorem HB_eq : HB = 16384 * pw 132 := by unfold HB; rfl
theorem top_val (L : List Nat) (hl : L.length = 133) (hL : Wf L) : ∃ r, r < pw 132 ∧ val L = r + pw 132 * L.getD 132 0 := by
  refine ⟨val (L.take 132), ?_, ?_⟩
  · have := val_lt (L.take 132) (hL.take 132)
    rwa [show (L.take 132).length = 132 by simp; omega] at this
  · have h := val_take_succ L 132 (by omega)
    rwa [List.take_of_length_le (by omega)] at h
theorem val_lowL : val lowL = 4294950912 * pw 132 := by
  unfold lowL
  rw [val_append, val_zeros, List.length_replicate, Nat.zero_add, Nat.mul_comm]
  rfl
theorem wf_lowL : Wf lowL := by
  intro y hy
  unfold lowL at hy
  rcases List.mem_append.1 hy with h | h
  · have := List.eq_of_mem_replicate h; omega
  · have := List.mem_singleton.1 h; omega
theorem val_inj {L K : List Nat} (hl : L.length = K.length) (hL : Wf L) (hK : Wf K) (h : val L = val K) : L = K := by
  induction L generalizing K with
  | nil => cases K <;> simp_all
  | cons x xs ih =>
    cases K with
    | nil => simp at hl
    | cons y ys =>
      simp only [val] at h
      have h1 := hL.head; have h2 := hK.head
      have e1 : x = y := by omega
      have e2 : val xs = val ys := by omega
      rw [e1, ih (by simpa using hl) hL.tail hK.tail e2]

/-- Below nought? -/
def neg7 (N : Nat) : Bool := decide (PB ≤ 2 * N)
theorem below_any (g : Nat) (L : List Nat) (w : World) (hl : L.length = 133) (hL : Wf L) (hH : Hd w g L) :
    Calls Tryz.prog 102 #[.pointer (some ⟨g, 0, none⟩)] w fun r w' => r = .returned (.bool (neg7 (val L))) ∧ w' = w := by
  have hc := hH.2 132 (by omega)
  obtain ⟨r, hr, hv⟩ := top_val L hl hL
  have ht := hL.get 132
  generalize L.getD 132 0 = t at hc hv ht
  have h0 := pw_pos 132
  by_cases h : t < 2147483648
  · have e : neg7 (val L) = false := by
      unfold neg7
      rw [decide_eq_false_iff_not, hv, PB_top]
      generalize pw 132 = q at hr h0 ⊢
      have : q * t ≤ q * 2147483647 := Nat.mul_le_mul_left _ (by omega)
      omega
    rw [e]
    exact below_lo g t w hc h
  · have e : neg7 (val L) = true := by
      unfold neg7
      rw [decide_eq_true_iff, hv, PB_top]
      generalize pw 132 = q at hr h0 ⊢
      have : q * 2147483648 ≤ q * t := Nat.mul_le_mul_left _ (by omega)
      omega
    rw [e]
    exact below_hi g t w hc (by omega) ht
/-- At a bound, or past it? -/
def bey (N : Nat) : Bool := decide (HB ≤ N ∧ N ≤ PB - HB)
theorem beyond_any (g : Nat) (L : List Nat) (w : World) (hl : L.length = 133) (hL : Wf L) (hH : Hd w g L) :
    Calls Tryz.prog 131 #[.pointer (some ⟨g, 0, none⟩)] w fun r w' => r = .returned (.bool (bey (val L))) ∧ w' = w := by
  have hc := hH.2 132 (by omega)
  obtain ⟨r, hr, hv⟩ := top_val L hl hL
  have ht := hL.get 132
  have hg : w.rangeAt g 0 (L.map U) := fun j v hj => by
    have hj2 : j < L.length := by have := (List.getElem?_eq_some_iff.1 hj).1; simpa using this
    rw [Nat.zero_add, hH.2 j hj2, ← hj, List.getElem?_map, List.getElem?_eq_getElem hj2, List.getD_eq_getElem?_getD, List.getElem?_eq_getElem hj2]
    rfl
  generalize htt : L.getD 132 0 = t at hc hv ht
  have h0 := pw_pos 132
  have eP := PB_top
  have eH := HB_eq
  have eL := val_lowL
  generalize pw 132 = q at hr h0 hv eP eH eL
  by_cases h : t < 16384
  · have e : bey (val L) = false := by
      unfold bey
      rw [decide_eq_false_iff_not, hv]
      have : q * t ≤ q * 16383 := Nat.mul_le_mul_left _ (by omega)
      omega
    rw [e]
    exact beyond_lo g t w hc h
  by_cases h2 : t < 4294950912
  · have e : bey (val L) = true := by
      unfold bey
      rw [decide_eq_true_iff, hv]
      have a1 : q * 16384 ≤ q * t := Nat.mul_le_mul_left _ (by omega)
      have a2 : q * t ≤ q * 4294950911 := Nat.mul_le_mul_left _ (by omega)
      omega
    rw [e]
    exact beyond_mid g t w hc (by omega) h2
  · have e : bey (val L) = decide (L = lowL) := by
      unfold bey
      rw [decide_eq_decide]
      constructor
      · intro hb
        have a1 : q * 4294950912 ≤ q * t := Nat.mul_le_mul_left _ (by omega)
        refine val_inj (by rw [hl, lowL_len]) hL wf_lowL ?_
        rw [eL]
        omega
      · rintro rfl
        rw [eL]
        omega
    rw [e]
    exact beyond_hi g t L w hc hg hl (by omega) ht
end Go.Proofs.YtmpakpdikkfofaaGreatDoor

/- slices.Clone, turn, size. -/
namespace Go.Proofs.YtmpakpdikkfofaaGreatDoor
open Go.RowKit
set_option linter.unusedVariables false
set_option maxRecDepth 20000

theorem Tryz.desc_row : Tryz.prog.underlying 81 = some (.slice 62) := by kernel_rfl
set_option maxHeartbeats 2000000 in
theorem clone_any (b n c : Nat) (L : List Nat) (w : World) (hl : L.length = n) (hn : n ≤ 1000) (hH : Hd w b L) :
    Calls Tryz.prog 144 #[.slice (some ⟨b, 0, none⟩) n c] w fun r w' => ∃ v', r = .returned v' ∧ w'.ownsRow w.heap.size 62 1 v' n (L.map U) ∧ v' ≠ .slice none 0 0 ∧ Below w.heap.size w w' := by
  obtain ⟨i0, hi, hz0, hz1, hz2⟩ := info_parts Tryz.info62
  have q81 : ∀ (w : World) (a : Option Addr) (n c n' c' : Nat), (binOp .eql 81 (.slice a n c) (.slice none n' c')).run Tryz.prog w = .ok (.bool a.isNone) w := fun w a n c n' c' => Lib.run_eql_slice_nil w _ _ a n c n' c' Tryz.desc_row
  have A : Aside (L.length = n ∧ Hd w b L) := ⟨hl, hH⟩
  clear hl hH
  go_enter Tryz.func144, Tryz.ntmps144
  go_wp2_with (at_builtin; refine wpList_append_own _ rfl _ _ 81 rfl w.heap.size 62 i0 (.int .u32 0) 1 4 Tryz.desc_row hi hz0 hz1 hz2 rfl (by decide) _ _ _ rfl (World.ownsRow_made w #[] 0 (Nat.le_refl _) (Nat.zero_le _) (by simp)) ⟨b, 0, none⟩ n c (L.map U) rfl ?qc1 ?qc2 ?qc3 ?qc4 ?qc5 ?qc6 ?_)
  case qc1 => simp [A.out.1]
  case qc2 =>
    intro j u hj
    have hj2 : j < L.length := by have := (List.getElem?_eq_some_iff.1 hj).1; simpa using this
    rw [Addr.add_lit]
    refine Lib.cell?_alloc_some _ ?_
    rw [Nat.zero_add, A.out.2.2 j hj2, ← hj, List.getElem?_map, List.getElem?_eq_getElem hj2, List.getD_eq_getElem?_getD, List.getElem?_eq_getElem hj2]
    rfl
  case qc3 => intro u hu; obtain ⟨x, _, rfl⟩ := List.mem_map.1 hu; rfl
  case qc4 => unfold maxLen; omega
  case qc5 => omega
  case qc6 => simp
  intro v' w1 hown hgrow hnil
  go_wp2
  go_ret
  refine ⟨v', rfl, by simpa using hown, hnil, ?_⟩
  exact ((Below.refl _ w).alloc (Nat.le_refl _) _).grown hgrow (by simp) (by intro k hk; simp [Value.ownBlock] at hk; omega)

theorem xor32s (a b : Nat) (ha : a < 4294967296) (hb : b < 4294967296) : bits .xor .u32 (a : Int) (b : Int) = ((a ^^^ b : Nat) : Int) := by
  have hx : a ^^^ b < 2 ^ 32 := Nat.xor_lt_two_pow (by omega) (by omega)
  show IntKind.u32.wrap ((BitVec.ofInt 32 (a : Int) ^^^ BitVec.ofInt 32 (b : Int)).toNat : Int) = _
  rw [BitVec.toNat_xor, ofInt32 a ha, ofInt32 b hb, wrap_u32n]
  omega

theorem xor_max (x : Nat) (h : x < 4294967296) : bits BinOp.xor IntKind.u32 IntKind.u32.max (x : Int) = ((4294967295 - x : Nat) : Int) := by
  have e : IntKind.u32.max = ((4294967295 : Nat) : Int) := by decide
  rw [e, xor32s _ _ (by decide) h]
  congr 1
  have h1 : (BitVec.allOnes 32 ^^^ BitVec.ofNat 32 x) = ~~~ (BitVec.ofNat 32 x) := BitVec.allOnes_xor
  have h2 := congrArg BitVec.toNat h1
  simp only [BitVec.toNat_xor, BitVec.toNat_allOnes, BitVec.toNat_not, BitVec.toNat_ofNat] at h2
  rw [Nat.mod_eq_of_lt (by omega)] at h2
  exact h2
theorem turn_step (M L : List Nat) (k c s d : Nat) (hM : M.length = 133) (hL : L.length = 133) (hk : k < 133) (hx : L.getD k 0 < 4294967296) (ho : ∀ j, k ≤ j → M.getD j 0 = L.getD j 0) (e : s + d * 4294967296 = c + (4294967295 - L.getD k 0)) (h : sg M 0 k + c * pw k + sg L 0 k = pw k) :
    sg (M.set k s) 0 (k + 1) + d * pw (k + 1) + sg L 0 (k + 1) = pw (k + 1) := by
  have h1 := sg_set_last M 0 k s (by omega)
  rw [Nat.zero_add] at h1
  rw [h1, sg_succ L 0 k (by omega), Nat.zero_add, pw_succ]
  have e2 : (s + d * 4294967296 + L.getD k 0) * pw k = (c + 4294967295) * pw k := by congr 1; omega
  simp only [Nat.add_mul, Nat.mul_assoc] at e2
  rw [Nat.mul_comm (pw k) s, Nat.mul_comm (pw k) (L.getD k 0)]
  omega

set_option maxHeartbeats 2000000 in
theorem turn_any (L : List Nat) (lo g cap : Nat) (w : World) (hl : L.length = 133) (hL : Wf L) (hR : w.ownsRow lo 62 1 (.slice (some ⟨g, 0, none⟩) 133 cap) 133 (L.map U)) :
    Calls Tryz.prog 145 #[.slice (some ⟨g, 0, none⟩) 133 cap] w fun r w' =>
      r = .returned (.tuple #[]) ∧ ∃ M, w'.ownsRow lo 62 1 (.slice (some ⟨g, 0, none⟩) 133 cap) 133 (M.map U) ∧ M.length = 133 ∧ Wf M ∧ val M = (PB - val L) % PB ∧ But g w w' := by
  have HR : Aside (Wf L ∧ L.length = 133 ∧ w.ownsRow lo 62 1 (.slice (some ⟨g, 0, none⟩) 133 cap) 133 (L.map U)) := ⟨hL, hl, hR⟩
  clear hL hl hR
  go_enter Tryz.func145, Tryz.ntmps145
  go_wp2
  go_loopg [2, 7] 133 (fun gk c i wr => ∃ (k cv : Nat) (M : List Nat), gk + k = 133 ∧ i = .int .i64 (k : Nat) ∧ c = .int .u64 (cv : Nat) ∧ cv < 2 ∧
      Hid (wr.ownsRow lo 62 1 (.slice (some ⟨g, 0, none⟩) 133 cap) 133 (M.map U)) ∧ Aside (Wf M ∧ M.length = 133 ∧ (∀ j, k ≤ j → M.getD j 0 = L.getD j 0) ∧ sg M 0 k + cv * pw k + sg L 0 k = pw k ∧ But g w wr))
  case atStart => exact ⟨0, 1, L, by omega, by simp, by simp, by omega, HR.out.2.2, HR.out.1, HR.out.2.1, fun _ _ => rfl, by simp [sg_zero], But.refl _ _⟩
  case round =>
    obtain ⟨k, cv, M, hgk, rfl, rfl, hcv, HM, HA⟩ := hrel
    by_cases hk : k < 133
    · obtain ⟨hL, hl, hR⟩ := HR.out
      obtain ⟨hMw, hMl, hMo, hMs, hbut⟩ := HA.out
      have hgc : wr.cell? ⟨g, k, none⟩ = some (.int .u32 ((M.getD k 0 : Nat) : Int)) := by
        rw [HM.out.cellAt k (by omega)]; simp [U, List.getD_eq_getElem?_getD, List.getElem?_eq_getElem (show k < M.length by omega)]
      have hgf := HM.out.frozenAt k
      obtain ⟨x, hx⟩ : ∃ x : Nat, M.getD k 0 = x := ⟨_, rfl⟩
      have hxl : x < 4294967296 := hx ▸ hMw.get _
      rw [hx] at hgc
      obtain ⟨y, hy⟩ : ∃ y : Nat, y = 4294967295 - x := ⟨_, rfl⟩
      have e1 : bits BinOp.xor IntKind.u32 IntKind.u32.max (x : Int) = (y : Int) := by rw [xor_max x hxl, hy]
      have hyl : y < 4294967296 := by omega
      have HX : Aside (M.getD k 0 = x ∧ y = 4294967295 - x) := ⟨hx, hy⟩
      clear hy
      clear hx hL hl hR hMw hMl hMo hMs hbut
      obtain ⟨gk, rfl⟩ : ∃ k, gk = k + 1 := ⟨gk - 1, by omega⟩
      go_wp2
      go_roundg gk
      case measure => omega
      case rel =>
        obtain ⟨hL, hl, hR⟩ := HR.out
        obtain ⟨hMw, hMl, hMo, hMs, hbut⟩ := HA.out
        obtain ⟨hx, hy⟩ := HX.out
        have e2 : ((cv : Int) + (y : Int)) % 4294967296 = (((cv + y) % 4294967296 : Nat) : Int) := by omega
        have e3 : ((cv : Int) + (y : Int)) / 4294967296 = (((cv + y) / 4294967296 : Nat) : Int) := by omega
        rw [wrap_u64n (y : Int) (by omega) (by omega), wrap_u64n ((cv : Int) + (y : Int)) (by omega) (by omega), e2]
        refine ⟨k + 1, (cv + y) / 4294967296, M.set k ((cv + y) % 4294967296), by omega, by simp, by rw [e3], by omega, ?_, hMw.set _ _ (Nat.mod_lt _ (by decide)), by simp [hMl], fun j hj => by rw [getD_set_ne _ _ _ _ (by omega)]; exact hMo j (by omega), ?_, hbut.set k _⟩
        · rw [List.map_set]; exact (HM.out.stored k _).1
        · have hLx : L.getD k 0 = x := by rw [← hMo k (Nat.le_refl _)]; exact hx
          exact turn_step M L k cv _ _ hMl hl hk (by omega) hMo (by rw [hLx]; omega) hMs
    · obtain rfl : k = 133 := by omega
      go_wp2
      refine bodyPost_end (v := .tuple #[]) (by simp [results, Tryz.results145, go_sem]) rfl ?_
      obtain ⟨hMw, hMl, hMo, hMs, hbut⟩ := HA.out
      refine ⟨rfl, M, HM.out, hMl, hMw, ?_, hbut⟩
      have a1 := sg_all M
      have a2 := sg_all L
      rw [hMl] at a1
      rw [HR.out.2.1] at a2
      rw [a1, a2] at hMs
      have hb := val_lt_PB hMl hMw
      have eP : pw 133 = PB := by unfold PB; rfl
      rw [eP] at hMs
      have h2 : PB - val L = val M + PB * cv := by rw [Nat.mul_comm]; omega
      rw [h2, Nat.add_mul_mod_self_left, Nat.mod_eq_of_lt hb]

/-- How great a value is, without its sign. -/
def mag7 (N : Nat) : Nat := if neg7 N then PB - N else N
theorem row_arg {w : World} {lo cap : Nat} {L : List Nat} {g : Nat} (h : w.ownsRow lo 62 1 (.slice (some ⟨g, 0, none⟩) 133 cap) 133 (L.map U)) (hl : L.length = 133) (hL : Wf L) : Arg w (some ⟨g, 0, none⟩) 133 cap L := by
  have hg : g < w.heap.size := (h.lt g rfl).2
  have hc : 133 ≤ cap := by
    rcases h.2 with ⟨h', _⟩ | ⟨g', cap', cur, h', _, _, hn, _⟩
    · simp at h'
    · simp only [Value.slice.injEq, Option.some.injEq, Addr.mk.injEq, and_true, true_and] at h'
      omega
  refine ⟨hl.symm, hc, by decide, hL, fun _ => ⟨g, 0, hg, rfl, fun i hi => ?_⟩, fun e => by cases e⟩
  rw [Nat.zero_add, h.cellAt i (by omega), List.getElem?_map, List.getElem?_eq_getElem hi, List.getD_eq_getElem?_getD, List.getElem?_eq_getElem hi]
  rfl
set_option maxHeartbeats 2000000 in
theorem size7_any (L : List Nat) (g : Nat) (w : World) (hl : L.length = 133) (hL : Wf L) (hH : Hd w g L) :
    Calls Tryz.prog 103 #[.pointer (some ⟨g, 0, none⟩)] w fun r w' =>
      ∃ b cap M, r = .returned (.slice (some ⟨b, 0, none⟩) 133 cap) ∧ Arg w' (some ⟨b, 0, none⟩) 133 cap M ∧ val M = mag7 (val L) ∧ Below w.heap.size w w' := by
  have HR : Aside (Wf L ∧ L.length = 133 ∧ Hd w g L) := ⟨hL, hl, hH⟩
  clear hL hl hH
  go_enter Tryz.func103, Tryz.ntmps103
  go_wp2_with fail
  refine Calls.mono (clone_any g 133 133 L w HR.out.2.1 (by decide) HR.out.2.2) ?_
  rintro r w1 ⟨v', rfl, hown, hnn, hb1⟩
  have HO : Aside (w1.ownsRow w.heap.size 62 1 v' 133 (L.map U) ∧ Below w.heap.size w w1) := ⟨hown, hb1⟩
  obtain ⟨b, cap, rfl⟩ : ∃ b cap, v' = .slice (some ⟨b, 0, none⟩) 133 cap := by
    rcases hown.2 with ⟨_, h⟩ | ⟨g', cap', cur, h, _⟩
    · cases h
    · exact ⟨g', cap', h⟩
  clear hown hnn hb1
  go_wp2_with fail
  obtain ⟨hL, hl, hH⟩ := HR.out
  refine Calls.mono (below_any g L w1 hl hL (hH.below HO.out.2 hH.1 (Nat.le_refl _))) ?_
  rintro r w2 ⟨rfl, rfl⟩
  clear hL hl hH
  cases hn : neg7 (val L)
  · have HN : Aside (neg7 (val L) = false) := hn
    clear hn
    go_wp2
    go_ret
    obtain ⟨hL, hl, hH⟩ := HR.out
    exact ⟨b, cap, L, rfl, row_arg HO.out.1 hl hL, by unfold mag7; rw [HN.out]; rfl, HO.out.2⟩
  · have HN : Aside (neg7 (val L) = true) := hn
    clear hn
    go_wp2_with fail
    obtain ⟨hL, hl, hH⟩ := HR.out
    refine Calls.mono (turn_any L w.heap.size b cap w2 hl hL HO.out.1) ?_
    rintro r w3 ⟨rfl, M, hM, hMl, hMw, hMv, hbut⟩
    have HM : Aside (w3.ownsRow w.heap.size 62 1 (.slice (some ⟨b, 0, none⟩) 133 cap) 133 (M.map U) ∧ M.length = 133 ∧ Wf M ∧ val M = (PB - val L) % PB ∧ But b w2 w3) := ⟨hM, hMl, hMw, hMv, hbut⟩
    clear hL hl hH hM hMl hMw hMv hbut
    go_wp2
    go_ret
    obtain ⟨hM, hMl, hMw, hMv, hbut⟩ := HM.out
    refine ⟨b, cap, M, rfl, row_arg hM hMl hMw, ?_, But.below HO.out.2 hbut HO.out.2.size (HO.out.1.lt b rfl).1⟩
    unfold mag7
    rw [HN.out, hMv, if_pos rfl, Nat.mod_eq_of_lt]
    have h1 : PB ≤ 2 * val L := of_decide_eq_true HN.out
    have := PB_pos
    omega
end Go.Proofs.YtmpakpdikkfofaaGreatDoor

/- become: what was worked out is taken over. -/
namespace Go.Proofs.YtmpakpdikkfofaaGreatDoor
open Go.RowKit
set_option linter.unusedVariables false
set_option maxRecDepth 20000

theorem But.of_bel {g : Nat} {a w w' : World} (h : But g a w) (hb : Below w.heap.size w w') : But g a w' :=
  h.trans ⟨hb.os, hb.tape, hb.output, hb.size, fun k hk _ => hb.block k hk⟩
/-- Six counts. -/
structure Sp where
  (n u d m p a : Int)
def Sp.cells (s : Sp) : List Value := [.int .i64 s.n, .int .i64 s.u, .int .i64 s.d, .int .i64 s.m, .int .i64 s.p, .int .i64 s.a]
def Sp.agg (s : Sp) : Value := .agg #[.int .i64 s.n, .int .i64 s.u, .int .i64 s.d, .int .i64 s.m, .int .i64 s.p, .int .i64 s.a]
/-- An accumulator in its block: its words, its counts. -/
def Ac (w : World) (g : Nat) (L : List Nat) (s : Sp) : Prop := Bl w g 79 (L.map U ++ s.cells)
theorem Ac.lt {w : World} {g : Nat} {L : List Nat} {s : Sp} (h : Ac w g L s) : g < w.heap.size := Bl.lt h
theorem Ac.hd {w : World} {g : Nat} {L : List Nat} {s : Sp} (h : Ac w g L s) : Hd w g L := Bl.hd h
theorem Ac.cell {w : World} {g : Nat} {L : List Nat} {s : Sp} (h : Ac w g L s) (hl : L.length = 133) (k : Nat) (v : Value) (hk : s.cells[k]? = some v) : w.cell? ⟨g, 133 + k, none⟩ = some v :=
  Bl.cell h _ _ (by rw [List.getElem?_append_right (by simp; omega)]; simpa [hl] using hk)
theorem Ac.frozen {w : World} {g : Nat} {L : List Nat} {s : Sp} (h : Ac w g L s) (k : Nat) : w.frozen? ⟨g, k, none⟩ = false := Bl.frozen h k
theorem Ac.below {w w' : World} {g B : Nat} {L : List Nat} {s : Sp} (h : Ac w g L s) (hb : Below B w w') (hg : g < B) : Ac w' g L s := Bl.below h hb hg
theorem Ac.but {w w' : World} {g g' : Nat} {L : List Nat} {s : Sp} (h : Ac w g L s) (hb : But g' w w') (hg : g ≠ g') : Ac w' g L s := Bl.but h hb hg
theorem Ac.drew {w : World} {g : Nat} {L : List Nat} {s : Sp} (h : Ac w g L s) : Ac w.drew g L s := h
theorem Ac.alloc {w : World} {g : Nat} {L : List Nat} {s : Sp} (h : Ac w g L s) (o : Obj) : Ac (w.alloc o) g L s := Bl.alloc h o
theorem Ac.there {w : World} {g : Nat} {L : List Nat} {s : Sp} (h : Ac w g L s) (hl : L.length = 133) : w.there g 0 133 := Bl.there h 0 133 (by simp [hl])
theorem Ac.range {w : World} {g : Nat} {L : List Nat} {s : Sp} (h : Ac w g L s) : w.rangeAt g 0 (L.map U) := Bl.range h 0 _ (fun j v hv => by
  rw [Nat.zero_add, List.getElem?_append_left (List.getElem?_eq_some_iff.1 hv).1]; exact hv)
theorem oneCell_Ul (L : List Nat) : ∀ v ∈ L.map U, v.oneCell' = true := fun v hv => by
  obtain ⟨x, _, rfl⟩ := List.mem_map.1 hv; rfl

set_option maxHeartbeats 2000000 in
theorem become_yes (g : Nat) (L M : List Nat) (s t : Sp) (w : World) (hA : Ac w g L s) (hl : L.length = 133) (hM : Wf M) (hm : M.length = 133) (hb : bey (val M) = false) :
    Calls Tryz.prog 94 #[.pointer (some ⟨g, 0, none⟩), .agg (M.map U).toArray, t.agg] w fun r w' =>
      r = .returned (.int .i64 0) ∧ Ac w' g M t ∧ But g w w' := by
  obtain ⟨tn, tu, td, tm, tp, ta⟩ := t
  simp only [Sp.agg]
  have HR : Aside (Ac w g L s ∧ L.length = 133 ∧ Wf M ∧ M.length = 133 ∧ bey (val M) = false) := ⟨hA, hl, hM, hm, hb⟩
  clear hA hl hM hm hb
  go_enter Tryz.func94, Tryz.ntmps94
  go_wp2_with fail
  obtain ⟨w2, hw2⟩ : ∃ w2, w2 = ((w.alloc (Obj.cells (M.map U).toArray 75)).alloc (Obj.cells #[.int .i64 tn, .int .i64 tu, .int .i64 td, .int .i64 tm, .int .i64 tp, .int .i64 ta] 77)) := ⟨_, rfl⟩
  rw [← hw2]
  have H2 : Aside (Ac w2 g L s ∧ Wb w2 w.heap.size M ∧ Bl w2 (w.heap.size + 1) 77 [.int .i64 tn, .int .i64 tu, .int .i64 td, .int .i64 tm, .int .i64 tp, .int .i64 ta] ∧ Below w.heap.size w w2 ∧ g < w.heap.size) := by
    subst hw2
    refine ⟨(HR.out.1.alloc _).alloc _, ((Bl.new w 75 (M.map U)).alloc _).wb, Bl.new' _ 77 _ [_, _, _, _, _, _] (by simp), (bel_alloc w _).trans ((bel_alloc _ _).mono (by simp)), HR.out.1.lt⟩
  clear hw2
  refine Calls.mono (beyond_any w.heap.size M w2 HR.out.2.2.2.1 HR.out.2.2.1 H2.out.2.1.hd) ?_
  rintro r w3 ⟨rfl, rfl⟩
  rw [HR.out.2.2.2.2]
  go_wp2
  have hne1 : g ≠ w.heap.size := Nat.ne_of_lt H2.out.2.2.2.2
  have hne2 : g ≠ w.heap.size + 1 := by have := H2.out.2.2.2.2; omega
  have hu := Tryz.desc_words
  have hsz : (Tryz.prog.info? 75).map (·.size) = some (M.map U).length := by rw [Tryz.size_words, List.length_map, HR.out.2.2.2.1]
  have hlen : (M.map U).length = 133 := by rw [List.length_map, HR.out.2.2.2.1]
  have hone := oneCell_Ul M
  obtain ⟨A2, B2, C2, _, hlt⟩ := H2.out
  have hB0 : But g w3 (w3.drew) := (But.refl _ _).drew
  have hB1 : But g w3 (w3.drew.setCells g 0 (M.map U)) := But.setCells _ _ hB0
  have hB2 : But g w3 (((((((w3.drew.setCells g 0 (M.map U)).setCell ⟨g, 133, none⟩ (.int .i64 tn)).setCell ⟨g, 134, none⟩ (.int .i64 tu)).setCell ⟨g, 135, none⟩ (.int .i64 td)).setCell ⟨g, 136, none⟩ (.int .i64 tm)).setCell ⟨g, 137, none⟩ (.int .i64 tp)).setCell ⟨g, 138, none⟩ (.int .i64 ta)) := (((((hB1.set _ _).set _ _).set _ _).set _ _).set _ _).set _ _
  have hA1 : Bl (w3.drew.setCells g 0 (M.map U)) g 79 (M.map U ++ s.cells) := by
    have := Bl.setCells (M.map U) 0 A2.drew (by simp [HR.out.2.1, HR.out.2.2.2.1])
    rw [List.take_zero, List.nil_append, Nat.zero_add, List.drop_left' (by simp [HR.out.2.1, HR.out.2.2.2.1])] at this
    exact this
  have hA2 : Bl (((((((w3.drew.setCells g 0 (M.map U)).setCell ⟨g, 133, none⟩ (.int .i64 tn)).setCell ⟨g, 134, none⟩ (.int .i64 tu)).setCell ⟨g, 135, none⟩ (.int .i64 td)).setCell ⟨g, 136, none⟩ (.int .i64 tm)).setCell ⟨g, 137, none⟩ (.int .i64 tp)).setCell ⟨g, 138, none⟩ (.int .i64 ta)) g 79 (M.map U ++ [.int .i64 tn, .int .i64 tu, .int .i64 td, .int .i64 tm, .int .i64 tp, .int .i64 ta]) := by
    have := (((((hA1.set 133 (.int .i64 tn)).set 134 (.int .i64 tu)).set 135 (.int .i64 td)).set 136 (.int .i64 tm)).set 137 (.int .i64 tp)).set 138 (.int .i64 ta)
    have hm := HR.out.2.2.2.1
    simpa [List.set_append, hm, Sp.cells] using this
  have kS0 : Aside ((w3.drew).rangeAt w.heap.size 0 (M.map U) ∧ (w3.drew).there g 0 133 ∧ (w3.drew).cell? ⟨w.heap.size + 1, 0, none⟩ = some (.int .i64 tn) ∧ (w3.drew).cell? ⟨w.heap.size + 1, 1, none⟩ = some (.int .i64 tu) ∧ (w3.drew).cell? ⟨w.heap.size + 1, 2, none⟩ = some (.int .i64 td) ∧ (w3.drew).cell? ⟨w.heap.size + 1, 3, none⟩ = some (.int .i64 tm) ∧ (w3.drew).cell? ⟨w.heap.size + 1, 4, none⟩ = some (.int .i64 tp) ∧ (w3.drew).cell? ⟨w.heap.size + 1, 5, none⟩ = some (.int .i64 ta)) :=
    ⟨(Bl.but B2.bl hB0 (by omega)).range 0 _ (fun j v hv => by simpa using hv), A2.drew.there HR.out.2.1, (Bl.but C2 hB0 (by omega)).cell 0 _ rfl, (Bl.but C2 hB0 (by omega)).cell 1 _ rfl, (Bl.but C2 hB0 (by omega)).cell 2 _ rfl, (Bl.but C2 hB0 (by omega)).cell 3 _ rfl, (Bl.but C2 hB0 (by omega)).cell 4 _ rfl, (Bl.but C2 hB0 (by omega)).cell 5 _ rfl⟩
  have kS1 : Aside ((w3.drew.setCells g 0 (M.map U)).rangeAt w.heap.size 0 (M.map U) ∧ (w3.drew.setCells g 0 (M.map U)).there g 0 133 ∧ (w3.drew.setCells g 0 (M.map U)).cell? ⟨w.heap.size + 1, 0, none⟩ = some (.int .i64 tn) ∧ (w3.drew.setCells g 0 (M.map U)).cell? ⟨w.heap.size + 1, 1, none⟩ = some (.int .i64 tu) ∧ (w3.drew.setCells g 0 (M.map U)).cell? ⟨w.heap.size + 1, 2, none⟩ = some (.int .i64 td) ∧ (w3.drew.setCells g 0 (M.map U)).cell? ⟨w.heap.size + 1, 3, none⟩ = some (.int .i64 tm) ∧ (w3.drew.setCells g 0 (M.map U)).cell? ⟨w.heap.size + 1, 4, none⟩ = some (.int .i64 tp) ∧ (w3.drew.setCells g 0 (M.map U)).cell? ⟨w.heap.size + 1, 5, none⟩ = some (.int .i64 ta)) :=
    ⟨(Bl.but B2.bl hB1 (by omega)).range 0 _ (fun j v hv => by simpa using hv), Bl.there hA1 0 133 (by simp [HR.out.2.2.2.1]), (Bl.but C2 hB1 (by omega)).cell 0 _ rfl, (Bl.but C2 hB1 (by omega)).cell 1 _ rfl, (Bl.but C2 hB1 (by omega)).cell 2 _ rfl, (Bl.but C2 hB1 (by omega)).cell 3 _ rfl, (Bl.but C2 hB1 (by omega)).cell 4 _ rfl, (Bl.but C2 hB1 (by omega)).cell 5 _ rfl⟩
  have kS2 : Aside (((((((((w3.drew.setCells g 0 (M.map U)).setCell ⟨g, 133, none⟩ (.int .i64 tn)).setCell ⟨g, 134, none⟩ (.int .i64 tu)).setCell ⟨g, 135, none⟩ (.int .i64 td)).setCell ⟨g, 136, none⟩ (.int .i64 tm)).setCell ⟨g, 137, none⟩ (.int .i64 tp)).setCell ⟨g, 138, none⟩ (.int .i64 ta))).rangeAt w.heap.size 0 (M.map U) ∧ ((((((((w3.drew.setCells g 0 (M.map U)).setCell ⟨g, 133, none⟩ (.int .i64 tn)).setCell ⟨g, 134, none⟩ (.int .i64 tu)).setCell ⟨g, 135, none⟩ (.int .i64 td)).setCell ⟨g, 136, none⟩ (.int .i64 tm)).setCell ⟨g, 137, none⟩ (.int .i64 tp)).setCell ⟨g, 138, none⟩ (.int .i64 ta))).there g 0 133 ∧ ((((((((w3.drew.setCells g 0 (M.map U)).setCell ⟨g, 133, none⟩ (.int .i64 tn)).setCell ⟨g, 134, none⟩ (.int .i64 tu)).setCell ⟨g, 135, none⟩ (.int .i64 td)).setCell ⟨g, 136, none⟩ (.int .i64 tm)).setCell ⟨g, 137, none⟩ (.int .i64 tp)).setCell ⟨g, 138, none⟩ (.int .i64 ta))).cell? ⟨w.heap.size + 1, 0, none⟩ = some (.int .i64 tn) ∧ ((((((((w3.drew.setCells g 0 (M.map U)).setCell ⟨g, 133, none⟩ (.int .i64 tn)).setCell ⟨g, 134, none⟩ (.int .i64 tu)).setCell ⟨g, 135, none⟩ (.int .i64 td)).setCell ⟨g, 136, none⟩ (.int .i64 tm)).setCell ⟨g, 137, none⟩ (.int .i64 tp)).setCell ⟨g, 138, none⟩ (.int .i64 ta))).cell? ⟨w.heap.size + 1, 1, none⟩ = some (.int .i64 tu) ∧ ((((((((w3.drew.setCells g 0 (M.map U)).setCell ⟨g, 133, none⟩ (.int .i64 tn)).setCell ⟨g, 134, none⟩ (.int .i64 tu)).setCell ⟨g, 135, none⟩ (.int .i64 td)).setCell ⟨g, 136, none⟩ (.int .i64 tm)).setCell ⟨g, 137, none⟩ (.int .i64 tp)).setCell ⟨g, 138, none⟩ (.int .i64 ta))).cell? ⟨w.heap.size + 1, 2, none⟩ = some (.int .i64 td) ∧ ((((((((w3.drew.setCells g 0 (M.map U)).setCell ⟨g, 133, none⟩ (.int .i64 tn)).setCell ⟨g, 134, none⟩ (.int .i64 tu)).setCell ⟨g, 135, none⟩ (.int .i64 td)).setCell ⟨g, 136, none⟩ (.int .i64 tm)).setCell ⟨g, 137, none⟩ (.int .i64 tp)).setCell ⟨g, 138, none⟩ (.int .i64 ta))).cell? ⟨w.heap.size + 1, 3, none⟩ = some (.int .i64 tm) ∧ ((((((((w3.drew.setCells g 0 (M.map U)).setCell ⟨g, 133, none⟩ (.int .i64 tn)).setCell ⟨g, 134, none⟩ (.int .i64 tu)).setCell ⟨g, 135, none⟩ (.int .i64 td)).setCell ⟨g, 136, none⟩ (.int .i64 tm)).setCell ⟨g, 137, none⟩ (.int .i64 tp)).setCell ⟨g, 138, none⟩ (.int .i64 ta))).cell? ⟨w.heap.size + 1, 4, none⟩ = some (.int .i64 tp) ∧ ((((((((w3.drew.setCells g 0 (M.map U)).setCell ⟨g, 133, none⟩ (.int .i64 tn)).setCell ⟨g, 134, none⟩ (.int .i64 tu)).setCell ⟨g, 135, none⟩ (.int .i64 td)).setCell ⟨g, 136, none⟩ (.int .i64 tm)).setCell ⟨g, 137, none⟩ (.int .i64 tp)).setCell ⟨g, 138, none⟩ (.int .i64 ta))).cell? ⟨w.heap.size + 1, 5, none⟩ = some (.int .i64 ta)) :=
    ⟨(Bl.but B2.bl hB2 (by omega)).range 0 _ (fun j v hv => by simpa using hv), Bl.there hA2 0 133 (by simp [HR.out.2.2.2.1]), (Bl.but C2 hB2 (by omega)).cell 0 _ rfl, (Bl.but C2 hB2 (by omega)).cell 1 _ rfl, (Bl.but C2 hB2 (by omega)).cell 2 _ rfl, (Bl.but C2 hB2 (by omega)).cell 3 _ rfl, (Bl.but C2 hB2 (by omega)).cell 4 _ rfl, (Bl.but C2 hB2 (by omega)).cell 5 _ rfl⟩
  have o0 := hA1.cell 133 _ (by rw [List.getElem?_append_right (by simp [HR.out.2.2.2.1])]; simp [HR.out.2.2.2.1, Sp.cells]; rfl)
  have f0 := hA1.frozen 133
  have o1 := hA1.cell 134 _ (by rw [List.getElem?_append_right (by simp [HR.out.2.2.2.1])]; simp [HR.out.2.2.2.1, Sp.cells]; rfl)
  have f1 := hA1.frozen 134
  have o2 := hA1.cell 135 _ (by rw [List.getElem?_append_right (by simp [HR.out.2.2.2.1])]; simp [HR.out.2.2.2.1, Sp.cells]; rfl)
  have f2 := hA1.frozen 135
  have o3 := hA1.cell 136 _ (by rw [List.getElem?_append_right (by simp [HR.out.2.2.2.1])]; simp [HR.out.2.2.2.1, Sp.cells]; rfl)
  have f3 := hA1.frozen 136
  have o4 := hA1.cell 137 _ (by rw [List.getElem?_append_right (by simp [HR.out.2.2.2.1])]; simp [HR.out.2.2.2.1, Sp.cells]; rfl)
  have f4 := hA1.frozen 137
  have o5 := hA1.cell 138 _ (by rw [List.getElem?_append_right (by simp [HR.out.2.2.2.1])]; simp [HR.out.2.2.2.1, Sp.cells]; rfl)
  have f5 := hA1.frozen 138
  have fw0 := H2.out.1.frozen 133
  have fw1 := H2.out.1.frozen 134
  have fw2 := H2.out.1.frozen 135
  have fw3 := H2.out.1.frozen 136
  have fw4 := H2.out.1.frozen 137
  have fw5 := H2.out.1.frozen 138
  have HE : Aside (Ac (((((((w3.drew.setCells g 0 (M.map U)).setCell ⟨g, 133, none⟩ (.int .i64 tn)).setCell ⟨g, 134, none⟩ (.int .i64 tu)).setCell ⟨g, 135, none⟩ (.int .i64 td)).setCell ⟨g, 136, none⟩ (.int .i64 tm)).setCell ⟨g, 137, none⟩ (.int .i64 tp)).setCell ⟨g, 138, none⟩ (.int .i64 ta)) g M ⟨tn, tu, td, tm, tp, ta⟩ ∧ But g w3 (((((((w3.drew.setCells g 0 (M.map U)).setCell ⟨g, 133, none⟩ (.int .i64 tn)).setCell ⟨g, 134, none⟩ (.int .i64 tu)).setCell ⟨g, 135, none⟩ (.int .i64 td)).setCell ⟨g, 136, none⟩ (.int .i64 tm)).setCell ⟨g, 137, none⟩ (.int .i64 tp)).setCell ⟨g, 138, none⟩ (.int .i64 ta))) := ⟨hA2, hB2⟩
  clear A2 B2 C2 hB0 hB1 hB2 hA1 hA2
  go_region_held (fun w' => (w').rangeAt w.heap.size 0 (M.map U) ∧ (w').there g 0 133 ∧ (w').cell? ⟨w.heap.size + 1, 0, none⟩ = some (.int .i64 tn) ∧ (w').cell? ⟨w.heap.size + 1, 1, none⟩ = some (.int .i64 tu) ∧ (w').cell? ⟨w.heap.size + 1, 2, none⟩ = some (.int .i64 td) ∧ (w').cell? ⟨w.heap.size + 1, 3, none⟩ = some (.int .i64 tm) ∧ (w').cell? ⟨w.heap.size + 1, 4, none⟩ = some (.int .i64 tp) ∧ (w').cell? ⟨w.heap.size + 1, 5, none⟩ = some (.int .i64 ta)) (first | with_reducible exact kS2.out | with_reducible exact kS1.out | with_reducible exact kS0.out) (fail)
  clear kS0 kS1 kS2 o0 o1 o2 o3 o4 o5 f0 f1 f2 f3 f4 f5 fw0 fw1 fw2 fw3 fw4 fw5 hsz hone hlen hu
  go_wp2
  go_ret
  exact ⟨rfl, HE.out.1, ((But.refl g w).of_bel H2.out.2.2.2.1).trans HE.out.2⟩

set_option maxHeartbeats 2000000 in
theorem become_no (g : Nat) (L M : List Nat) (s t : Sp) (w : World) (hA : Ac w g L s) (hM : Wf M) (hm : M.length = 133) (hb : bey (val M) = true) :
    Calls Tryz.prog 94 #[.pointer (some ⟨g, 0, none⟩), .agg (M.map U).toArray, t.agg] w fun r w' =>
      r = .returned (.int .i64 2) ∧ Below w.heap.size w w' := by
  obtain ⟨tn, tu, td, tm, tp, ta⟩ := t
  simp only [Sp.agg]
  have HR : Aside (Wf M ∧ M.length = 133 ∧ bey (val M) = true) := ⟨hM, hm, hb⟩
  clear hA hM hm hb
  go_enter Tryz.func94, Tryz.ntmps94
  go_wp2_with fail
  obtain ⟨w2, hw2⟩ : ∃ w2, w2 = ((w.alloc (Obj.cells (M.map U).toArray 75)).alloc (Obj.cells #[.int .i64 tn, .int .i64 tu, .int .i64 td, .int .i64 tm, .int .i64 tp, .int .i64 ta] 77)) := ⟨_, rfl⟩
  rw [← hw2]
  have H2 : Aside (Wb w2 w.heap.size M ∧ Below w.heap.size w w2) := by
    subst hw2
    exact ⟨((Bl.new w 75 (M.map U)).alloc _).wb, (bel_alloc w _).trans ((bel_alloc _ _).mono (by simp))⟩
  clear hw2
  refine Calls.mono (beyond_any w.heap.size M w2 HR.out.2.1 HR.out.1 H2.out.1.hd) ?_
  rintro r w3 ⟨rfl, rfl⟩
  rw [HR.out.2.2]
  go_wp2
  go_ret
  exact ⟨rfl, H2.out.2⟩
end Go.Proofs.YtmpakpdikkfofaaGreatDoor

/- The counts: signed, held, counted, together. -/
namespace Go.Proofs.YtmpakpdikkfofaaGreatDoor
open Go.RowKit
set_option linter.unusedVariables false
set_option maxRecDepth 20000

/-- Counts that are far from the ends. -/
def Sp.ok (s : Sp) : Prop := (-4398046511104 ≤ s.n ∧ s.n ≤ 4398046511104) ∧ (-4398046511104 ≤ s.u ∧ s.u ≤ 4398046511104) ∧ (-4398046511104 ≤ s.d ∧ s.d ≤ 4398046511104) ∧ (-4398046511104 ≤ s.m ∧ s.m ≤ 4398046511104) ∧ (-4398046511104 ≤ s.p ∧ s.p ≤ 4398046511104) ∧ (-4398046511104 ≤ s.a ∧ s.a ≤ 4398046511104)
/-- So many more of a sort. -/
def Sp.cnt (s : Sp) (k : Nat) (c : Int) : Sp :=
  ⟨if k = 1 then s.n + c else s.n, if k = 2 then s.u + c else s.u, if k = 3 then s.d + c else s.d, if k = 4 then s.m + c else s.m, if k = 5 then s.p + c else s.p, s.a + c⟩
def Sp.add (s t : Sp) : Sp := ⟨s.n + t.n, s.u + t.u, s.d + t.d, s.m + t.m, s.p + t.p, s.a + t.a⟩

theorem signed_any (b : Bool) (x y : Int) (w : World) : Calls Tryz.prog 134 #[.bool b, .int .i64 x, .int .i64 y] w fun r w' => r = .returned (.int .i64 (if b then x else y)) ∧ w' = w := by
  cases b
  · go_enter Tryz.func134, Tryz.ntmps134
    go_wp2
    go_ret
    exact ⟨rfl, rfl⟩
  · go_enter Tryz.func134, Tryz.ntmps134
    go_wp2
    go_ret
    exact ⟨rfl, rfl⟩

set_option maxHeartbeats 4000000 in
theorem counted_any (s : Sp) (k : Nat) (c : Int) (w : World) (hk : k ≤ 5) (hs : s.ok) (hc0 : -1 ≤ c) (hc1 : c ≤ 1) : Calls Tryz.prog 96 #[s.agg, .int .i64 (k : Nat), .int .i64 c] w fun r w' => r = .returned (s.cnt k c).agg ∧ Below w.heap.size w w' := by
  obtain ⟨n, u, d, m, p, a⟩ := s
  obtain ⟨h0, h1, h2, h3, h4, h5⟩ := hs
  simp only [Sp.agg] at *
  have hc : k = 0 ∨ k = 1 ∨ k = 2 ∨ k = 3 ∨ k = 4 ∨ k = 5 := by omega
  rcases hc with rfl | rfl | rfl | rfl | rfl | rfl
  all_goals (
    go_enter Tryz.func96, Tryz.ntmps96
    go_wp2
    exact bodyPost_ret (v := (Sp.cnt ⟨n, u, d, m, p, a⟩ _ c).agg) (by simp [results, Tryz.results96, go_sem, Sp.agg, Sp.cnt]) rfl ⟨rfl, (bel_alloc _ _).trans ((bel_alloc _ _).mono (by simp))⟩)

end Go.Proofs.YtmpakpdikkfofaaGreatDoor

/- Plain facts on the bits of a number of 64 bits: its sign, its exponent's field, its fraction's field; what is taken apart. -/
namespace Go.Proofs.YtmpakpdikkfofaaGreatDoor.B
set_option linter.unusedVariables false
set_option maxRecDepth 20000

def bw (s : Bool) (e f : Nat) : Nat := s.toNat * 9223372036854775808 + e * 4503599627370496 + f

theorem bw_of (b : Nat) (hb : b < 18446744073709551616) : ∃ s e f, e < 2048 ∧ f < 4503599627370496 ∧ b = bw s e f := by
  refine ⟨decide (9223372036854775808 ≤ b), b % 9223372036854775808 / 4503599627370496, b % 4503599627370496, by omega, by omega, ?_⟩
  unfold bw
  by_cases h : 9223372036854775808 ≤ b
  · rw [decide_eq_true h]; simp only [Bool.toNat_true]; omega
  · rw [decide_eq_false h]; simp only [Bool.toNat_false]; omega

theorem bw_lt (s : Bool) (e f : Nat) (he : e < 2048) (hf : f < 4503599627370496) : bw s e f < 18446744073709551616 := by
  unfold bw; cases s <;> simp only [Bool.toNat_true, Bool.toNat_false] <;> omega

theorem wraps_i64 (n : Int) (h0 : 0 ≤ n) (h1 : n < 2 ^ 63) : IntKind.i64.wrap n = n := by rw [IntKind.wrap_i64]; omega
theorem wraps_u64 (n : Int) (h0 : 0 ≤ n) (h1 : n < 2 ^ 64) : IntKind.u64.wrap n = n := by
  simp [IntKind.wrap, IntKind.bits, IntKind.signed]; omega

theorem bw_exp (s : Bool) (e f : Nat) (he : e < 2048) (hf : f < 4503599627370496) : bits .and .i64 ((bw s e f : Int) / 4503599627370496) 2047 = (e : Int) := by
  have hl := bw_lt s e f he hf
  have h := bits_mask .i64 63 (by decide) wraps_i64 11 (by decide) ((bw s e f : Int) / 4503599627370496) (by omega) (by omega)
  rw [show ((2 : Int) ^ 11 - 1) = 2047 from rfl] at h
  rw [h]
  unfold bw; cases s <;> simp only [Bool.toNat_true, Bool.toNat_false] <;> omega

theorem bw_frac (s : Bool) (e f : Nat) (he : e < 2048) (hf : f < 4503599627370496) : bits .and .u64 ((bw s e f : Nat) : Int) 4503599627370495 = (f : Int) := by
  have hl := bw_lt s e f he hf
  have h := bits_mask .u64 64 (by decide) wraps_u64 52 (by decide) (bw s e f : Int) (by omega) (by omega)
  rw [show ((2 : Int) ^ 52 - 1) = 4503599627370495 from rfl] at h
  rw [h]
  unfold bw; cases s <;> simp only [Bool.toNat_true, Bool.toNat_false] <;> omega

theorem bw_sign (s : Bool) (e f : Nat) (he : e < 2048) (hf : f < 4503599627370496) : bits .and .u64 ((bw s e f : Int) / 9223372036854775808) 1 = (s.toNat : Int) := by
  have hl := bw_lt s e f he hf
  have h := bits_mask .u64 64 (by decide) wraps_u64 1 (by decide) ((bw s e f : Int) / 9223372036854775808) (by omega) (by omega)
  rw [show ((2 : Int) ^ 1 - 1) = 1 from rfl] at h
  rw [h]
  unfold bw; cases s <;> simp only [Bool.toNat_true, Bool.toNat_false] <;> omega

theorem frac_or (f : Nat) (hf : f < 4503599627370496) : bits .or .u64 (f : Int) 4503599627370496 = (f : Int) + 4503599627370496 := by
  have hc : bits .or .u64 (f : Int) 4503599627370496 = bits .or .u64 4503599627370496 (f : Int) := by simp only [bits, BitVec.or_comm]
  rw [hc, bits_join .u64 64 (by decide) wraps_u64 52 4503599627370496 (f : Int) (by decide) (by decide) (by decide) (by omega) (by omega) (by omega)]
  omega

theorem or_sign (x : Int) (h0 : 0 ≤ x) (h1 : x < 9223372036854775808) : bits .or .u64 x 9223372036854775808 = x + 9223372036854775808 := by
  have hc : bits .or .u64 x 9223372036854775808 = bits .or .u64 9223372036854775808 x := by simp only [bits, BitVec.or_comm]
  rw [hc, bits_join .u64 64 (by decide) wraps_u64 63 9223372036854775808 x (by decide) (by decide) (by decide) h0 (by omega) (by omega)]
  omega

/-- Parts as a value. -/
def pv (neg : Bool) (c x : Int) (f : Int) : Value := .agg #[.bool neg, .int .i64 c, .int .i64 x, .int .u64 f]

def cls (e f : Nat) : Int := if e = 2047 then (if f = 0 then 3 else 4) else if e = 0 then (if f = 0 then 0 else 1) else 2
def xp (e : Nat) : Int := if e = 2047 then 0 else if e = 0 then -1074 else (e : Int) - 1075
def fr (e f : Nat) : Int := if e = 2047 then 0 else if e = 0 then (f : Int) else (f : Int) + 4503599627370496
def ng (s : Bool) (e f : Nat) : Bool := if e = 2047 ∧ f ≠ 0 then false else s
def splitV (s : Bool) (e f : Nat) : Value := pv (ng s e f) (cls e f) (xp e) (fr e f)

theorem splitV_odd (s : Bool) (e f : Nat) (h : e = 2047) (h2 : ((f : Int) != 0) = true) : splitV s e f = .agg #[.bool false, .int .i64 4, .int .i64 0, .int .u64 0] := by
  have : f ≠ 0 := by intro h; subst h; simp at h2
  simp [splitV, pv, ng, cls, xp, fr, h, this]
theorem splitV_end (s : Bool) (e f : Nat) (h : e = 2047) (h2 : ((f : Int) != 0) = false) : splitV s e f = .agg #[.bool s, .int .i64 3, .int .i64 0, .int .u64 0] := by
  have : f = 0 := by simp at h2; omega
  simp [splitV, pv, ng, cls, xp, fr, h, this]
theorem splitV_nought (s : Bool) (e f : Nat) (h : e = 0) (h2 : ((f : Int) == 0) = true) : splitV s e f = .agg #[.bool s, .int .i64 0, .int .i64 (-1074), .int .u64 0] := by
  have : f = 0 := by simp at h2; omega
  simp [splitV, pv, ng, cls, xp, fr, h, this]
theorem splitV_small (s : Bool) (e f : Nat) (h : e = 0) (h2 : ((f : Int) == 0) = false) : splitV s e f = .agg #[.bool s, .int .i64 1, .int .i64 (-1074), .int .u64 f] := by
  have : f ≠ 0 := by intro h; subst h; simp at h2
  simp [splitV, pv, ng, cls, xp, fr, h, this]
theorem splitV_plain (s : Bool) (e f : Nat) (h : e ≠ 2047) (h2 : e ≠ 0) : splitV s e f = .agg #[.bool s, .int .i64 2, .int .i64 ((e : Int) - 1075), .int .u64 ((f : Int) + 4503599627370496)] := by
  simp [splitV, pv, ng, cls, xp, fr, h, h2]

/-- NaN? -/
def odd (e f : Nat) : Bool := e == 2047 && f != 0

theorem not_odd (e f : Nat) (h : odd e f = false) : ¬ (e = 2047 ∧ f ≠ 0) := by
  rintro ⟨h1, h2⟩; simp [odd, h1, h2] at h
theorem is_odd (e f : Nat) (h : odd e f = true) : e = 2047 ∧ f ≠ 0 := by
  simpa [odd] using h

theorem dInf : Ieee.double.infRung = 9218868437227405312 := by decide
theorem dSign : Ieee.double.signWeight = 9223372036854775808 := by decide
theorem dBin : Ieee.double.binade = 4503599627370496 := by decide
theorem dHs : Ieee.double.infRung < Ieee.double.signWeight := by decide
theorem dHb : Ieee.double.binade ≤ Ieee.double.infRung := by decide

/-- the bits as a word. -/
theorem bw_word (s : Bool) (e f : Nat) : bw s e f = Ieee.double.word s (e * 4503599627370496 + f) := by
  unfold bw Ieee.Format.word
  rw [dSign]
  cases s <;> simp [Nat.add_assoc]

theorem bw_read_odd (s : Bool) (e f : Nat) (hf : f < 4503599627370496) (h : odd e f = true) : Ieee.double.read (bw s e f) = .nan s f := by
  have h0 : e = 2047 ∧ f ≠ 0 := by simpa [odd] using h
  have e1 : bw s e f % Ieee.double.signWeight = e * 4503599627370496 + f := by
    rw [dSign]; unfold bw; cases s <;> simp only [Bool.toNat_true, Bool.toNat_false] <;> omega
  have e2 : (bw s e f / Ieee.double.signWeight % 2 == 1) = s := by
    rw [dSign]
    cases s
    · have : bw false e f / 9223372036854775808 % 2 = 0 := by unfold bw; simp only [Bool.toNat_false]; omega
      rw [this]; rfl
    · have : bw true e f / 9223372036854775808 % 2 = 1 := by unfold bw; simp only [Bool.toNat_true]; omega
      rw [this]; rfl
  rw [read_nan Ieee.double _ (by rw [e1, dInf]; omega) dHb, e1, e2, dInf, show e * 4503599627370496 + f - 9218868437227405312 = f from by omega]

theorem rung_le (e f : Nat) (he : e < 2048) (hf : f < 4503599627370496) (h : odd e f = false) : e * 4503599627370496 + f ≤ Ieee.double.infRung := by
  rw [dInf]; have := not_odd e f h; omega

/-- the place of a number in the order of all but NaN. -/
def pl (s : Bool) (e f : Nat) : Int := sg s (e * 4503599627370496 + f)

theorem ord (s t : Bool) (e f u v : Nat) (he : e < 2048) (hf : f < 4503599627370496) (hu : u < 2048) (hv : v < 4503599627370496) :
    FloatKind.f64.format.order (bw s e f) (bw t u v) = if odd e f || odd u v then none else some (compare (pl s e f) (pl t u v)) := by
  show Ieee.double.order _ _ = _
  by_cases h1 : odd e f = true
  · rw [h1]
    show (Ieee.double.read (bw s e f)).order _ = none
    rw [bw_read_odd s e f hf h1]; rfl
  · by_cases h2 : odd u v = true
    · rw [h2]
      show (Ieee.double.read (bw s e f)).order (Ieee.double.read (bw t u v)) = if (odd e f || true) = true then none else _
      rw [bw_read_odd t u v hv h2, Bool.or_true, if_pos rfl]
      cases Ieee.double.read (bw s e f) <;> rfl
    · have h3 : odd e f = false := by simpa using h1
      have h4 : odd u v = false := by simpa using h2
      rw [h3, h4, bw_word, bw_word]
      rw [order_word Ieee.double dHs dHb s t _ _ (rung_le e f he hf h3) (rung_le u v hu hv h4)]
      simp [pl]

theorem order_self (s : Bool) (e f : Nat) (he : e < 2048) (hf : f < 4503599627370496) : (FloatKind.f64.format.order (bw s e f) (bw s e f) != some .eq) = odd e f := by
  rw [ord s s e f e f he hf he hf, Bool.or_self, Int.compare_eq_eq.2 rfl]
  cases odd e f <;> rfl
end Go.Proofs.YtmpakpdikkfofaaGreatDoor.B

/- What the functions that take a number of 64 bits apart answer, at every number. -/
namespace Go.Proofs.YtmpakpdikkfofaaGreatDoor.B
set_option linter.unusedVariables false
set_option maxRecDepth 20000
open Go.RowKit

set_option maxHeartbeats 1000000 in
theorem split_any (s : Bool) (e f : Nat) (he : e < 2048) (hf : f < 4503599627370496) (w : World) :
    Calls Tryz.prog 104 #[.int .u64 (bw s e f), .int .u64 52, .int .u64 11, .int .i64 (-1074)] w fun r w' => r = .returned (splitV s e f) ∧ Below w.heap.size w w' := by
  have hl := bw_lt s e f he hf
  have h1 := bw_exp s e f he hf
  have h2 := bw_frac s e f he hf
  have h3 := bw_sign s e f he hf
  have h4 := frac_or f hf
  have h5 : ((s.toNat : Int) == 1) = s := by cases s <;> rfl
  go_enter Tryz.func104, Tryz.ntmps104
  go_wp2
  · rw [splitV_odd s e f (by omega) ‹_›]
    exact bodyPost_ret (v := .agg #[.bool false, .int .i64 4, .int .i64 0, .int .u64 0]) (by simp [results, Tryz.results104, go_sem]) rfl ⟨rfl, (by repeat (first | exact Below.refl _ _ | assumption | exact Nat.le_refl _ | (simp; done) | (simp; omega) | refine Below.alloc ?_ ?_ _ | refine Below.setCell ?_ ?_ _ | refine Below.drew ?_))⟩
  · rw [splitV_end s e f (by omega) ‹_›]
    exact bodyPost_ret (v := .agg #[.bool s, .int .i64 3, .int .i64 0, .int .u64 0]) (by simp [results, Tryz.results104, go_sem]) rfl ⟨rfl, (by repeat (first | exact Below.refl _ _ | assumption | exact Nat.le_refl _ | (simp; done) | (simp; omega) | refine Below.alloc ?_ ?_ _ | refine Below.setCell ?_ ?_ _ | refine Below.drew ?_))⟩
  · rw [splitV_nought s e f (by omega) ‹_›]
    exact bodyPost_ret (v := .agg #[.bool s, .int .i64 0, .int .i64 (-1074), .int .u64 0]) (by simp [results, Tryz.results104, go_sem]) rfl ⟨rfl, (by repeat (first | exact Below.refl _ _ | assumption | exact Nat.le_refl _ | (simp; done) | (simp; omega) | refine Below.alloc ?_ ?_ _ | refine Below.setCell ?_ ?_ _ | refine Below.drew ?_))⟩
  · rw [splitV_small s e f (by omega) ‹_›]
    exact bodyPost_ret (v := .agg #[.bool s, .int .i64 1, .int .i64 (-1074), .int .u64 f]) (by simp [results, Tryz.results104, go_sem]) rfl ⟨rfl, (by repeat (first | exact Below.refl _ _ | assumption | exact Nat.le_refl _ | (simp; done) | (simp; omega) | refine Below.alloc ?_ ?_ _ | refine Below.setCell ?_ ?_ _ | refine Below.drew ?_))⟩
  · rw [splitV_plain s e f (by omega) (by omega)]
    refine bodyPost_ret (v := .agg #[.bool s, .int .i64 2, .int .i64 ((e : Int) - 1075), .int .u64 ((f : Int) + 4503599627370496)]) (by simp [results, Tryz.results104, go_sem]; try omega) rfl ⟨rfl, (by repeat (first | exact Below.refl _ _ | assumption | exact Nat.le_refl _ | (simp; done) | (simp; omega) | refine Below.alloc ?_ ?_ _ | refine Below.setCell ?_ ?_ _ | refine Below.drew ?_))⟩
end Go.Proofs.YtmpakpdikkfofaaGreatDoor.B

/- What the four body-less functions of package math answer over this program. -/
namespace Go.Proofs.YtmpakpdikkfofaaGreatDoor.B
set_option linter.unusedVariables false
set_option maxRecDepth 20000
theorem f64bits (b : Nat) (w : World) : (callFunc 32 #[.float .f64 b]).run Tryz.prog w = .ok (.value (.int .u64 b)) w := by
  rw [run_callFunc_extern (e := Extern.MathFloatBits.float64bits) Tryz.func32 (by kernel_rfl) (by kernel_rfl) (by kernel_rfl) (by kernel_rfl)]; rfl
theorem f64frombits (n : Int) (w : World) : (callFunc 66 #[.int .u64 n]).run Tryz.prog w = .ok (.value (.float .f64 n.toNat)) w := by
  rw [run_callFunc_extern (e := Extern.MathFloatBits.float64frombits) Tryz.func66 (by kernel_rfl) (by kernel_rfl) (by kernel_rfl) (by kernel_rfl)]; rfl
end Go.Proofs.YtmpakpdikkfofaaGreatDoor.B

/- What Split, its twin of the document, the classes and Same answer, at every number. -/
namespace Go.Proofs.YtmpakpdikkfofaaGreatDoor.B
set_option linter.unusedVariables false
set_option maxRecDepth 20000
open Go.RowKit
attribute [local go_sem] f64bits f64frombits
theorem bcell {W w1 : World} (hb : Below W.heap.size W w1) : (∀ b o, b < W.heap.size → w1.cell? ⟨b, o, none⟩ = W.cell? ⟨b, o, none⟩) ∧ (∀ b o, b < W.heap.size → w1.frozen? ⟨b, o, none⟩ = W.frozen? ⟨b, o, none⟩) :=
  ⟨fun b o h => hb.cell (p := ⟨b, o, none⟩) h, fun b o h => hb.frozen (p := ⟨b, o, none⟩) h⟩

theorem split_lit (s : Bool) (e f : Nat) (he : e < 2048) (hf : f < 4503599627370496) (w : World) :
    Calls Tryz.prog 104 #[.int .u64 (bw s e f), .int .u64 52, .int .u64 11, .int .i64 (-1074)] w fun r w' => r = .returned (.agg #[.bool (ng s e f), .int .i64 (cls e f), .int .i64 (xp e), .int .u64 (fr e f)]) ∧ Below w.heap.size w w' :=
  split_any s e f he hf w

set_option maxHeartbeats 1000000 in
theorem nan_any (w : World) : Calls Tryz.prog 72 #[] w fun r w' => r = .returned (.float .f64 9221120237041090560) ∧ w' = w := by
  go_enter Tryz.func72, Tryz.ntmps72
  go_wp2
  go_ret
  exact ⟨rfl, rfl⟩

set_option maxHeartbeats 1000000 in
theorem Split_any (s : Bool) (e f : Nat) (he : e < 2048) (hf : f < 4503599627370496) (w : World) :
    Calls Tryz.prog 60 #[.float .f64 (bw s e f)] w fun r w' => r = .returned (.agg #[.bool (ng s e f), .int .i64 (cls e f), .int .i64 (xp e), .int .u64 (fr e f)]) ∧ Below w.heap.size w w' := by
  go_enter Tryz.func60, Tryz.ntmps60
  go_wp2_with (go_at_call 104; refine (split_lit s e f he hf _).mono ?_; rintro r w1 ⟨rfl, hb⟩; (obtain ⟨hc, hfz⟩ := bcell hb; have hz : w.heap.size < w1.heap.size := by (have := hb.size; simp at this; omega)))
  exact bodyPost_ret (v := (.agg #[.bool (ng s e f), .int .i64 (cls e f), .int .i64 (xp e), .int .u64 (fr e f)])) (by simp [results, Tryz.results60, go_sem, hc]) rfl ⟨rfl, (by repeat (first | exact Below.refl _ _ | exact ((Below.refl _ _).alloc (Nat.le_refl _) _).trans (hb.mono (by simp)) | exact Nat.le_refl _ | (simp; done) | (simp; omega) | refine Below.alloc ?_ ?_ _ | refine Below.setCell ?_ ?_ _ | refine Below.drew ?_))⟩

set_option maxHeartbeats 1000000 in
theorem isNaN_any (s : Bool) (e f : Nat) (he : e < 2048) (hf : f < 4503599627370496) (w : World) :
    Calls Tryz.prog 87 #[.float .f64 (bw s e f)] w fun r w' => r = .returned (.bool (odd e f)) ∧ w' = w := by
  have h1 := order_self s e f he hf
  go_enter Tryz.func87, Tryz.ntmps87
  go_wp2
  go_ret
  exact ⟨rfl, rfl⟩

end Go.Proofs.YtmpakpdikkfofaaGreatDoor.B

/- Rows of words that are kept in a book: what is appended, what stays; the document's Take. -/
namespace Go.Proofs.YtmpakpdikkfofaaGreatDoor
open Go.RowKit
set_option linter.unusedVariables false
set_option maxRecDepth 20000

/-- A row of words. -/
abbrev Rw (lo : Nat) (w : World) (v : Value) (n : Nat) (ys : List Value) : Prop := w.ownsRow lo 62 1 v n ys

theorem Tryz.info82 : (Tryz.prog.info? 82).map (fun i => (i.zero, i.size, i.bytes)) = some (some (.slice none 0 0), 1, 24) := by kernel_rfl

theorem row_other {w w' : World} {lo e s : Nat} {v : Value} {n : Nat} {ys : List Value} (h : w.ownsRow lo e s v n ys) (hb : ∀ g, v.ownBlock = some g → w'.heap[g]? = w.heap[g]?) : w'.ownsRow lo e s v n ys := by
  refine ⟨h.1, ?_⟩
  rcases h.2 with hn | ⟨g, cap, cur, rfl, hlo, hg, rest⟩
  · exact .inl hn
  · refine .inr ⟨g, cap, cur, rfl, hlo, ?_, rest⟩
    rw [hb g rfl]; exact hg

end Go.Proofs.YtmpakpdikkfofaaGreatDoor

/- What Owned keeps to, phase by phase. -/
namespace Go.Proofs.YtmpakpdikkfofaaGreatDoor
open Go.RowKit
set_option linter.unusedVariables false
set_option maxRecDepth 20000

def slen : Value → Nat
  | .slice _ n _ => n
  | _ => 0
def nth (vs : List Value) (i : Nat) : Value := vs.getD i (.slice none 0 0)

theorem Rw.len {lo : Nat} {w : World} {v : Value} {n : Nat} {ys : List Value} (h : Rw lo w v n ys) : slen v = n := by
  rcases h.2 with ⟨rfl, h0⟩ | ⟨g, cap, cur, rfl, _⟩
  · exact h0.symm
  · rfl

theorem Rw.lt {lo : Nat} {w : World} {v : Value} {n : Nat} {ys : List Value} (h : Rw lo w v n ys) (b : Nat) (hb : v.ownBlock = some b) : lo ≤ b ∧ b < w.heap.size ∧ ∃ cur, w.heap[b]? = some (.cells cur 62 (0, 0)) := by
  rcases h.2 with ⟨rfl, h0⟩ | ⟨g, cap, cur, rfl, hlo, hg, _⟩
  · cases hb
  · cases hb
    exact ⟨hlo, (Array.getElem?_eq_some_iff.1 hg).1, cur, hg⟩

/-- Nats of one's own, in rows apart. -/
structure Nice (lo : Nat) (w : World) (vs : List Value) : Prop where
  rows : ∀ i, i < vs.length → ∃ ys, Rw lo w (nth vs i) (slen (nth vs i)) ys
  small : ∀ i, i < vs.length → slen (nth vs i) ≤ 35184372088000
  apart : ∀ i j, i < vs.length → j < vs.length → i ≠ j → ∀ b, (nth vs i).ownBlock = some b → (nth vs j).ownBlock ≠ some b

end Go.Proofs.YtmpakpdikkfofaaGreatDoor

/- The document's Owned. -/
namespace Go.Proofs.YtmpakpdikkfofaaGreatDoor
open Go.RowKit
set_option linter.unusedVariables false
set_option maxRecDepth 20000

theorem Rw.cell {lo : Nat} {w : World} {g n cap : Nat} {ys : List Value} (h : Rw lo w (.slice (some ⟨g, 0, none⟩) n cap) n ys) (k : Nat) (u : Value) (hk : ys[k]? = some u) : w.cell? ⟨g, k, none⟩ = some u := by
  have h1 := h.cells (g := g) (by simp [Value.ownBlock]) k u hk
  have e : (⟨g, 0, none⟩ : Addr).add k = ⟨g, k, none⟩ := by unfold Addr.add; split <;> simp_all
  rw [e] at h1
  exact h1

theorem Rw.frozen {lo : Nat} {w : World} {g n cap : Nat} {ys : List Value} (h : Rw lo w (.slice (some ⟨g, 0, none⟩) n cap) n ys) (k : Nat) : w.frozen? ⟨g, k, none⟩ = false := by
  rcases h.2 with ⟨e, _⟩ | ⟨g2, cap2, cur2, e, _, hg2, _⟩
  · cases e
  · cases e
    simp [World.frozen?, hg2]

theorem Rw.shape {lo : Nat} {w : World} {v : Value} {n : Nat} {ys : List Value} (h : Rw lo w v n ys) : ∃ ao cap, v = .slice ao n cap ∧ n ≤ cap ∧ cap ≤ maxLen ∧ (0 < n → ∃ g, ao = some ⟨g, 0, none⟩) := by
  rcases h.2 with ⟨rfl, h0⟩ | ⟨g, cap, cur, rfl, _, _, hn, hm, _⟩
  · exact ⟨none, 0, by rw [h0], by omega, by unfold maxLen; omega, fun h => absurd h (by omega)⟩
  · exact ⟨_, cap, rfl, hn, hm, fun _ => ⟨g, rfl⟩⟩

end Go.Proofs.YtmpakpdikkfofaaGreatDoor

/- The document's at, Plus, Minus. -/
namespace Go.Proofs.YtmpakpdikkfofaaGreatDoor
open Go.RowKit
set_option linter.unusedVariables false
set_option maxRecDepth 20000

theorem Rw.words {lo : Nat} {w : World} {v : Value} {n : Nat} {L : List Nat} (h : Rw lo w v n (L.map U)) : ∃ ao cap, v = .slice ao n cap ∧ n ≤ cap ∧ n = L.length ∧ (ao = none → cap = 0) ∧ Rd w.heap.size w ao L := by
  have hl : n = L.length := by have := h.1; simp at this; omega
  rcases h.2 with ⟨rfl, h0⟩ | ⟨g, cap, cur, rfl, hlo, hg, hn, hm, hs, ht⟩
  · refine ⟨none, 0, by rw [h0], by omega, hl, fun _ => rfl, ?_⟩
    have : L = [] := List.length_eq_zero_iff.1 (by omega)
    rw [this]; exact Rd.nil _ _ _
  · refine ⟨_, cap, rfl, hn, hl, (fun e => by cases e), fun _ => ⟨g, 0, (Array.getElem?_eq_some_iff.1 hg).1, rfl, fun i hi => ?_⟩⟩
    have h1 := Rw.cell h i (U (L.getD i 0)) (by simp [hi])
    rw [Nat.zero_add]
    exact h1

end Go.Proofs.YtmpakpdikkfofaaGreatDoor

/- Bit, Small. -/
namespace Go.Proofs.YtmpakpdikkfofaaGreatDoor
open Go.RowKit
set_option linter.unusedVariables false
set_option maxRecDepth 20000

theorem bit_words (xs : List Nat) (hx : Wf xs) (k r : Nat) (hk : k < xs.length) (hr : r < 32) : val xs / 2 ^ (32 * k + r) % 2 = xs.getD k 0 / 2 ^ r % 2 := by
  have e := val_take_drop xs k (by omega)
  have hl : val (xs.take k) < pw k := by
    have := val_lt _ (hx.take k)
    rwa [List.length_take, Nat.min_eq_left (by omega)] at this
  rw [pw_two, ← Nat.div_div_eq_div_mul, e, Nat.add_mul_div_left _ _ (pw_pos k), Nat.div_eq_of_lt hl, Nat.zero_add, val_drop_succ xs k hk]
  have e2 : 4294967296 * val (xs.drop (k + 1)) = 2 ^ r * (2 * (2 ^ (31 - r) * val (xs.drop (k + 1)))) := by
    have : (4294967296 : Nat) = 2 ^ r * (2 * 2 ^ (31 - r)) := by
      rw [← Nat.mul_assoc, Nat.mul_comm (2 ^ r) 2, Nat.mul_assoc, ← Nat.pow_add, show r + (31 - r) = 31 by omega]
    rw [this]; grind
  rw [e2, Nat.add_mul_div_left _ _ (Nat.two_pow_pos r), Nat.add_mul_mod_self_left]

theorem bit_beyond (xs : List Nat) (hx : Wf xs) (i : Nat) (h : xs.length ≤ i / 32) : val xs / 2 ^ i % 2 = 0 := by
  have h1 := val_lt xs hx
  have h2 : pw xs.length ≤ 2 ^ i := by
    have : pw xs.length = 2 ^ (32 * xs.length) := by rw [← Nat.add_zero (32 * xs.length), pw_two]; simp
    rw [this]
    exact Nat.pow_le_pow_right (by decide) (by omega)
  rw [Nat.div_eq_of_lt (by omega)]

theorem and_one (z : Nat) (h : z < 4294967296) : bits BinOp.and IntKind.u32 (z : Int) 1 = ((z % 2 : Nat) : Int) := by
  have := and32 z 1 h (by decide)
  rw [Nat.and_one_is_mod] at this
  exact this

set_option maxHeartbeats 1000000 in
theorem bit_neg (ao : Option Addr) (n cap : Nat) (i : Int) (w : World) (hi : i < 0) :
    Calls Tryz.prog 173 #[.slice ao n cap, .int .i64 i] w fun r w' => r = .returned (.bool false) ∧ w' = w := by
  go_enter Tryz.func173, Tryz.ntmps173
  go_wp2
  go_ret
  exact ⟨rfl, rfl⟩

set_option maxHeartbeats 1000000 in
theorem bit_any (xs : List Nat) (ao : Option Addr) (n cap B i : Nat) (w : World) (hn : n = xs.length) (hx : Wf xs) (hR : Rd B w ao xs) (hi : i ≤ 9223372036854775807) :
    Calls Tryz.prog 173 #[.slice ao n cap, .int .i64 (i : Int)] w fun r w' => r = .returned (.bool (decide (val xs / 2 ^ i % 2 = 1))) ∧ w' = w := by
  obtain ⟨k, hk⟩ : ∃ k, k = i / 32 := ⟨_, rfl⟩
  obtain ⟨r, hr⟩ : ∃ r, r = i % 32 := ⟨_, rfl⟩
  have e1 : (i : Int) / 32 = (k : Int) := by omega
  have e2 : (i : Int) % 32 = (r : Int) := by omega
  by_cases hkn : k < n
  · have hb := bit_words xs hx k r (by omega) (by omega)
    rw [show 32 * k + r = i by omega] at hb
    rw [hb]
    obtain ⟨b, off, hB, rfl, hcell⟩ := hR (by intro e; subst e; simp at hn; omega)
    have hck := hcell k (by omega)
    obtain ⟨t, ht⟩ : ∃ t, xs.getD k 0 = t := ⟨_, rfl⟩
    have htl : t < 4294967296 := ht ▸ hx.get k
    rw [ht] at hck ⊢
    obtain ⟨z, hz⟩ : ∃ z, z = t / 2 ^ r := ⟨_, rfl⟩
    have hzt : z ≤ t := by rw [hz]; exact Nat.div_le_self _ _
    have e3 : (t : Int) / 2 ^ r = (z : Int) := by rw [hz]; simp
    have e4 := and_one z (by omega)
    have hr32 : r < 32 := by omega
    rw [← hz]
    clear hb hn hx hR hcell ht hz hk hr
    rcases (by omega : z % 2 = 0 ∨ z % 2 = 1) with hz2 | hz2
    · rw [hz2] at e4 ⊢
      clear hz2
      go_enter Tryz.func173, Tryz.ntmps173
      go_wp2
      go_ret
      exact ⟨rfl, rfl⟩
    · rw [hz2] at e4 ⊢
      clear hz2
      go_enter Tryz.func173, Tryz.ntmps173
      go_wp2
      go_ret
      exact ⟨rfl, rfl⟩
  · rw [bit_beyond xs hx i (by omega)]
    clear hn hx hR hk hr
    go_enter Tryz.func173, Tryz.ntmps173
    go_wp2
    go_ret
    exact ⟨rfl, rfl⟩

/-- What Small answers. -/
def smallV (X : Nat) : Value := if X < 18446744073709551616 then .tuple #[.int .u64 (X : Int), .int .i64 0] else .tuple #[.int .u64 0, .int .i64 2]

theorem nl_two (xs : List Nat) (hx : Wf xs) : nl xs ≤ 2 ↔ val xs < 18446744073709551616 := by
  rw [nl_eq_length xs hx, ws_len_le]
  rfl

set_option maxHeartbeats 1000000 in
theorem small_any (xs : List Nat) (ao : Option Addr) (n cap B : Nat) (w : World) (hn : n = xs.length) (hc : n ≤ cap) (hm : n ≤ 70368744177664) (hx : Wf xs) (hR : Rd B w ao xs) :
    Calls Tryz.prog 172 #[.slice ao n cap] w fun r w' => r = .returned (smallV (val xs)) ∧ w' = w := by
  have H := hid (trim_any xs ao n cap B w hn hc (by omega) hR)
  have hl := nl_le xs
  have h2 := nl_two xs hx
  have hf := val_form xs hx
  obtain ⟨m, hm'⟩ : ∃ m, nl xs = m := ⟨_, rfl⟩
  rw [hm'] at H hl h2 hf
  unfold smallV
  by_cases h : 2 < m
  · rw [if_neg (by omega)]
    clear h2 hl hn hx hR hm' hf
    go_enter Tryz.func172, Tryz.ntmps172
    go_wp2_with fail
    refine (Calls.mono H.out) ?_
    rintro r w1 ⟨rfl, rfl⟩
    go_wp2
    go_ret2
    exact ⟨rfl, rfl⟩
  · rw [if_pos (by omega)]
    rw [← sg_val_take] at hf
    have HR := (Aside.intro (And.intro hR (And.intro hn (And.intro hx (And.intro hl hf)))))
    have hm2 : m ≤ 2 := by omega
    clear h2 hl hn hx hR hm' hf h
    go_enter Tryz.func172, Tryz.ntmps172
    go_wp2_with fail
    refine (Calls.mono H.out) ?_
    rintro r w1 ⟨rfl, rfl⟩
    go_wp2
    go_loopg [4, 14] m (fun gk s i wr => ∃ (k sv : Nat), gk + k = m ∧ s = .int .u64 (sv : Nat) ∧ i = .int .i64 (k : Nat) ∧ wr = w1 ∧ Aside (sv = sg xs 0 k))
    case atStart => exact ⟨0, 0, by omega, rfl, rfl, rfl, (sg_zero _ _).symm⟩
    case round =>
      obtain ⟨k, sv, hgk, rfl, rfl, rfl, HA⟩ := hrel
      by_cases hk : k < m
      · obtain ⟨hR, hn, hx, hl, hf⟩ := HR.out
        obtain ⟨b, off, hB, rfl, hcell⟩ := hR (by intro e; subst e; simp at hl; omega)
        have hck := hcell k (by omega)
        obtain ⟨t, ht⟩ : ∃ t, xs.getD k 0 = t := ⟨_, rfl⟩
        have htl : t < 4294967296 := ht ▸ hx.get k
        rw [ht] at hck
        have hs1 := sg_lt xs 0 k hx (by omega)
        have hs2 := sg_succ xs 0 k (by omega)
        rw [Nat.zero_add, ht, ← HA.out] at hs2
        rw [← HA.out] at hs1
        have HX := (Aside.intro (And.intro hs1 hs2))
        clear hR hn hx hl hf hcell ht hs1 hs2
        rcases (by omega : k = 0 ∨ k = 1) with rfl | rfl
        · have hsv : sv = 0 := by have := HX.out.1; rw [pw_zero] at this; omega
          have e : bits BinOp.or IntKind.u64 (sv : Int) (t : Int) = (t : Int) := by rw [bits_or_u64_nat _ _ (by omega) (by omega), hsv, Nat.zero_or]
          rw [Nat.add_zero] at hck
          have HS := (Aside.intro hsv)
          clear hsv
          go_wp2
          go_roundg (gk - 1)
          case measure => omega
          case rel =>
            refine ⟨1, t, by omega, by first | rfl | rw [e], by go_num, rfl, ?_⟩
            have := HX.out.2
            rw [pw_zero, HS.out] at this
            rw [Aside, this]; omega
        · have hsv : sv < 4294967296 := by have := HX.out.1; rw [show (1 : Nat) = 0 + 1 from rfl, pw_succ, pw_zero] at this; omega
          have e := or64_join2 t sv htl hsv
          go_wp2
          go_roundg (gk - 1)
          case measure => omega
          case rel =>
            refine ⟨2, sv + t * 4294967296, by omega, by first | rfl | rw [e] | (rw [e]; rfl), by go_num, rfl, ?_⟩
            have := HX.out.2
            rw [show pw 1 = 4294967296 from rfl] at this
            rw [Aside, this]; omega
      · obtain rfl : k = m := by omega
        go_wp2
        go_ret2
        obtain ⟨hR, hn, hx, hl, hf⟩ := HR.out
        rw [← hf, ← HA.out]
        exact ⟨rfl, rfl⟩
end Go.Proofs.YtmpakpdikkfofaaGreatDoor

/- The document's calls by arguments. -/
namespace Go.Proofs.YtmpakpdikkfofaaGreatDoor
open Go.RowKit
set_option linter.unusedVariables false
set_option maxRecDepth 20000

theorem below_alloc (w : World) (o : Obj) : Below w.heap.size w (w.alloc o) := (Below.refl _ _).alloc (Nat.le_refl _) _

theorem bl_pw (N n : Nat) (h : N < pw n) : bl N ≤ 32 * n := by
  by_cases h0 : N = 0
  · rw [h0, bl_zero]; omega
  · have h1 := bl_ge N h0
    rcases Nat.lt_or_ge (32 * n) (bl N) with h2 | h2
    · exfalso
      have h3 : 2 ^ (32 * n) ≤ 2 ^ (bl N - 1) := Nat.pow_le_pow_right (by omega) (by omega)
      have h4 : pw n = 2 ^ (32 * n) := by unfold pw; rw [Nat.pow_mul]
      omega
    · exact h2
end Go.Proofs.YtmpakpdikkfofaaGreatDoor

/- Nats that came in: what their reading tells. -/
namespace Go.Proofs.YtmpakpdikkfofaaGreatDoor
open Go.ChangeShapes Go.WideShapes Go.ChangeAt Go.RowKit
set_option linter.unusedVariables false
set_option maxRecDepth 20000

/-- A Nat that came in: its words, its room. -/
def Came (w : World) (a : Option Addr) (n c : Nat) (xs : List Nat) : Prop := n = xs.length ∧ n ≤ c ∧ Wf xs ∧ Rd w.heap.size w a xs ∧ (a = none → c = 0)

theorem Came.arg {w : World} {a : Option Addr} {n c : Nat} {xs : List Nat} (h : Came w a n c xs) (hb : n ≤ 35184372088832) : Arg w a n c xs := ⟨h.1, h.2.1, hb, h.2.2.1, h.2.2.2.1, h.2.2.2.2⟩

theorem Tryz.bytes62 : Tryz.prog.bytesOf 62 = 4 := by kernel_rfl

end Go.Proofs.YtmpakpdikkfofaaGreatDoor

/- Books of what came out: what the statements with a book share. -/
namespace Go.Proofs.YtmpakpdikkfofaaGreatDoor
open Go.RowKit
set_option linter.unusedVariables false
set_option maxRecDepth 20000

theorem Nt.but {lo g : Nat} {w w' : World} {v : Value} {X : Nat} (h : Nt lo w v X) (hb : But g w w') (hg : g < lo) : Nt lo w' v X := by
  have h1 : Rw lo w v (ws X).length ((ws X).map U) := h
  exact row_other h1 fun b hb2 => by
    obtain ⟨h2, h3⟩ := h.lt b hb2
    exact hb.block b h3 (by omega)

theorem Nice.nil (lo : Nat) (w : World) : Nice lo w [] := ⟨fun i hi => absurd hi (by simp), fun i hi => absurd hi (by simp), fun i j hi => absurd hi (by simp)⟩

end Go.Proofs.YtmpakpdikkfofaaGreatDoor

/- The document's digit. -/
namespace Go.Proofs.YtmpakpdikkfofaaGreatDoor
open Go.RowKit
set_option linter.unusedVariables false
set_option maxRecDepth 20000

theorem cmpI_ge {x y : Nat} (h : y ≤ x) : 0 ≤ cmpI x y := by unfold cmpI; split <;> (try split) <;> omega
end Go.Proofs.YtmpakpdikkfofaaGreatDoor

/- The document's Of, Small, Low. -/
namespace Go.Proofs.YtmpakpdikkfofaaGreatDoor
open Go.RowKit
set_option linter.unusedVariables false
set_option maxRecDepth 20000

theorem lo_form (X : Nat) (h : X ≠ 0) : ∃ m, X = 2 ^ lo X * (2 * m + 1) := by
  have key : ∀ Y : Nat, Y ≠ 0 → ∃ i m, Y = 2 ^ i * (2 * m + 1) := by
    intro Y
    induction Y using Nat.strongRecOn with
    | ind Y ih =>
      intro hY
      rcases Nat.mod_two_eq_zero_or_one Y with h0 | h1
      · obtain ⟨i, m, e⟩ := ih (Y / 2) (by omega) (by omega)
        refine ⟨i + 1, m, ?_⟩
        rw [Nat.pow_succ, Nat.mul_comm (2 ^ i) 2, Nat.mul_assoc, ← e]
        omega
      · exact ⟨0, Y / 2, by omega⟩
  obtain ⟨i, m, e⟩ := key X h
  refine ⟨m, ?_⟩
  rw [e, lo_eq]

end Go.Proofs.YtmpakpdikkfofaaGreatDoor

/- The document's Shift. -/
namespace Go.Proofs.YtmpakpdikkfofaaGreatDoor
open Go.RowKit
set_option linter.unusedVariables false
set_option maxRecDepth 20000

theorem Nt.some {lo : Nat} {w : World} {v : Value} {X : Nat} (h : Nt lo w v X) (hX : X ≠ 0) : ∃ g c, v = .slice (some ⟨g, 0, none⟩) (ws X).length c := by
  rcases h.2 with ⟨_, h0⟩ | ⟨g, cap, cur, rfl, _⟩
  · exact absurd ((ws_len_zero X).1 h0) hX
  · exact ⟨g, cap, rfl⟩

end Go.Proofs.YtmpakpdikkfofaaGreatDoor

