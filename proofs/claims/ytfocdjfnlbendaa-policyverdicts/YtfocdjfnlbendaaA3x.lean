/- Rows of numbers that are kept in a book: what is appended, what stays; the document's Take. -/
import Derived.Test.YtfocdjfnlbendaaA1x
import Derived.ArgAppend
import Derived.Maps.AppendAt
import Derived.WalkMore
import Derived.Deep.Cut
import Derived.Deep.RegionWith
namespace Go.Proofs.Ytfocdjfnlbendaa
open Go.RowKit
set_option linter.unusedVariables false
set_option maxRecDepth 20000

/-- A row of numbers. -/
abbrev Rw (lo : Nat) (w : World) (v : Value) (n : Nat) (ys : List Value) : Prop := w.ownsRow lo 41 1 v n ys

/-- All rows of numbers are as they were. -/
def Keep (w w' : World) : Prop := ∀ (g : Nat) (cur : Array Value) (e : TypeId), e ≠ 27 → e ≠ 38 → w.heap[g]? = some (.cells cur e (0, 0)) → w'.heap[g]? = some (.cells cur e (0, 0))

theorem Keep.refl (w : World) : Keep w w := fun _ _ _ _ _ h => h
theorem Keep.trans {a b c : World} (h : Keep a b) (k : Keep b c) : Keep a c := fun g cur t h1 h2 e => k g cur t h1 h2 (h g cur t h1 h2 e)
theorem Keep.row {w w' : World} {lo : Nat} {v : Value} {n : Nat} {ys : List Value} (h : Rw lo w v n ys) (k : Keep w w') : Rw lo w' v n ys := by
  refine ⟨h.1, ?_⟩
  rcases h.2 with hn | ⟨g, cap, cur, rfl, hlo, hg, rest⟩
  · exact .inl hn
  · exact .inr ⟨g, cap, cur, rfl, hlo, k _ _ _ (by decide) (by decide) hg, rest⟩
theorem Keep.below {w w' : World} (h : Below w.heap.size w w') : Keep w w' := fun g cur _ _ _ e => by rw [h.block g (Array.getElem?_eq_some_iff.1 e).1]; exact e

theorem Try.info27 : (Try.prog.info? 27).map (fun i => (i.zero, i.size, i.bytes)) = some (some (.slice none 0 0), 1, 24) := by kernel_rfl

theorem row_other {w w' : World} {lo e s : Nat} {v : Value} {n : Nat} {ys : List Value} (h : w.ownsRow lo e s v n ys) (hb : ∀ g, v.ownBlock = some g → w'.heap[g]? = w.heap[g]?) : w'.ownsRow lo e s v n ys := by
  refine ⟨h.1, ?_⟩
  rcases h.2 with hn | ⟨g, cap, cur, rfl, hlo, hg, rest⟩
  · exact .inl hn
  · refine .inr ⟨g, cap, cur, rfl, hlo, ?_, rest⟩
    rw [hb g rfl]; exact hg

theorem row_set {w : World} {lo g n cap : Nat} {ys : List Value} (h : Rw lo w (.slice (some ⟨g, 0, none⟩) n cap) n ys) (k : Nat) (hk : k < n) (u : Value) :
    Rw lo (w.setCell ⟨g, k, none⟩ u) (.slice (some ⟨g, 0, none⟩) n cap) n (ys.set k u) := by
  refine ⟨by simpa using h.1, ?_⟩
  rcases h.2 with ⟨e, hn⟩ | ⟨g', cap', cur, e, hlo, hg, hnc, hm, hs, ht⟩
  · omega
  · cases e
    refine .inr ⟨g, cap, cur.set! k u, rfl, hlo, ?_, hnc, hm, by simpa using hs, ?_⟩
    · simp only [World.setCell, Array.getElem?_modify, hg]
      simp
    · rw [← ht]
      simp [List.take_set]

theorem row_setOther {w : World} {lo e s : Nat} {v : Value} {n : Nat} {ys : List Value} (h : w.ownsRow lo e s v n ys) (a : Addr) (u : Value) (ha : v.ownBlock ≠ some a.block) : (w.setCell a u).ownsRow lo e s v n ys :=
  row_other h fun g hg => Below.heap_setCell _ _ _ _ (fun e => ha (by rw [hg, e]))

/-- One word appended to a row of numbers: what else there is, and what is shorter in the same row, stays. -/
theorem append_word (w : World) (lo : Nat) (v : Value) (n : Nat) (ys : List Value) (x : Value) (s : Nat) (ty : TypeId) (hown : Rw lo w v n ys) (hx : w.cell? ⟨s, 0, none⟩ = some x) (h1 : x.oneCell' = true)
    (hbig : n + 1 ≤ 17592186044416) (hlo : lo ≤ w.heap.size) :
    ∃ v' w', (Builtin.append_ #[27, 27] ty #[v, .slice (some ⟨s, 0, none⟩) 1 1]).run Try.prog w = .ok v' w' ∧ Rw lo w' v' (n + 1) (ys ++ [x]) ∧ w.grownBy w' v.ownBlock ∧
      (v'.ownBlock = v.ownBlock ∨ ∃ g, v'.ownBlock = some g ∧ w.heap.size ≤ g) ∧ (∀ (u : Value) (k : Nat) (zs : List Value), Rw lo w u k zs → (u.ownBlock = v.ownBlock → k ≤ n) → Rw lo w' u k zs) := by
  obtain ⟨i0, hi, hz0, hz1, hz2⟩ := info_parts Try.info41
  have hnews : ∀ j u, [x][j]? = some u → w.cell? ((⟨s, 0, none⟩ : Addr).add j) = some u := by
    intro j u hj
    match j, hj with
    | 0, hj => simp at hj; subst hj; simpa [Addr.add] using hx
  have h1' : ∀ u ∈ [x], u.oneCell' = true := by intro u hu; simp at hu; subst hu; exact h1
  have keep : ∀ w', w.grownBy w' none → ∀ (u : Value) (k : Nat) (zs : List Value), Rw lo w u k zs → Rw lo w' u k zs := by
    intro w' hg u k zs hr
    rcases hr.2 with hn | ⟨g, cap, cur, rfl, hl, hgb, rest⟩
    · exact ⟨hr.1, .inl hn⟩
    · refine ⟨hr.1, .inr ⟨g, cap, cur, rfl, hl, ?_, rest⟩⟩
      rw [hg.block g (Array.getElem?_eq_some_iff.1 hgb).1 (by simp)]; exact hgb
  have newb : ∀ (v' : Value) (w' : World) (m : Nat) (zs : List Value), w'.ownsRow w.heap.size 41 1 v' (m + 1) zs → ∃ g, v'.ownBlock = some g ∧ w.heap.size ≤ g := by
    intro v' w' m zs h
    rcases h.2 with ⟨_, h0⟩ | ⟨g, cap, cur, rfl, hl, _⟩
    · omega
    · exact ⟨g, rfl, hl⟩
  have mono : ∀ (v' : Value) (w' : World) (m : Nat) (zs : List Value), w'.ownsRow w.heap.size 41 1 v' m zs → Rw lo w' v' m zs := by
    intro v' w' m zs h
    refine ⟨h.1, ?_⟩
    rcases h.2 with hn | ⟨g, cap, cur, rfl, hl, rest⟩
    · exact .inl hn
    · exact .inr ⟨g, cap, cur, rfl, by omega, rest⟩
  rcases hown.2 with ⟨rfl, rfl⟩ | ⟨g, cap, cur, rfl, hlg, hg, hnc, hm, hs, ht⟩
  · obtain ⟨v', w', r1, r2, r3, _, _⟩ := run_append_own_at (P := Try.prog) w w.heap.size 27 ty 41 i0 (.float .f64 0) 1 8 Try.underlying27 hi hz0 hz1 hz2 rfl (by decide) (.slice none 0 0) 0 [] (World.ownsRow_nil _ _ _ _) ⟨s, 0, none⟩ 1 1 [x] rfl hnews h1' (by unfold maxLen; omega) (by omega) (Nat.le_refl _)
    have hy : ys = [] := List.eq_nil_of_length_eq_zero (by simpa using hown.1)
    subst hy
    exact ⟨v', w', r1, mono _ _ _ _ (by simpa using r2), r3, .inr (newb _ _ 0 _ (by simpa using r2)), fun u k zs hr _ => keep _ r3 u k zs hr⟩
  · by_cases hroom : n + 1 ≤ cap
    · have hr := run_append_room (P := Try.prog) w 27 ty 41 i0 Try.underlying27 hi g n cap cur hg ⟨s, 0, none⟩ 1 1 [x] (by rw [hz1]; rfl) hnews h1' hroom (by rw [hz1, hs]; simp; omega)
      rw [hz1] at hr
      refine ⟨_, _, hr, ⟨by simpa using hown.1, .inr ⟨g, cap, _, rfl, hlg, setRow_heap w g cur _ 41 _ hg, hroom, hm, ?_, ?_⟩⟩, ⟨rfl, rfl, rfl, by simp, fun k _ hk => setRow_other w g k _ (fun e => hk (by simp [Value.ownBlock, e]))⟩, .inl rfl, ?_⟩
      · simp only [List.size_toArray, List.length_append, List.length_take, List.length_drop, Array.length_toList, List.length_cons, List.length_nil]
        omega
      · rw [ht]
        have hyl : ys.length = n := by simpa using hown.1
        simp only [Nat.mul_one, List.append_assoc]
        rw [← List.append_assoc]
        rw [List.take_append_of_le_length (by simp [hyl])]
        rw [List.take_of_length_le (by simp [hyl])]
      · intro u k zs hr2 hle
        rcases hr2.2 with hn | ⟨g2, cap2, cur2, rfl, hl2, hg2, hnc2, hm2, hs2, ht2⟩
        · exact ⟨hr2.1, .inl hn⟩
        · by_cases he : g2 = g
          · subst he
            rw [hg] at hg2
            cases hg2
            have hk := hle rfl
            refine ⟨hr2.1, .inr ⟨g2, cap2, _, rfl, hl2, setRow_heap w g2 cur _ 41 _ hg, hnc2, hm2, ?_, ?_⟩⟩
            · simp only [List.size_toArray, List.length_append, List.length_take, List.length_drop, Array.length_toList, List.length_cons, List.length_nil]
              omega
            · have hcl : cur.toList.length = cap2 := by simpa using hs2
              rw [← ht2]
              simp only [Nat.mul_one, List.append_assoc]
              rw [List.take_append_of_le_length (by rw [List.length_take]; omega), List.take_take, Nat.min_eq_left hk]
          · refine ⟨hr2.1, .inr ⟨g2, cap2, cur2, rfl, hl2, ?_, hnc2, hm2, hs2, ht2⟩⟩
            rw [setRow_other w g g2 _ he]; exact hg2
    · obtain ⟨v', w', r1, r2, r3⟩ := run_append_arg_grows (P := Try.prog) w 27 ty 41 i0 (.float .f64 0) 1 8 Try.underlying27 hi hz0 hz1 hz2 rfl (by decide) ⟨g, 0, none⟩ n cap ys (by simpa using hown.1) (fun j u hj => hown.cells (g := g) (by simp [Value.ownBlock]) j u hj) ⟨s, 0, none⟩ 1 1 [x] rfl hnews (by omega) (by unfold maxLen; omega) (by omega)
      exact ⟨v', w', r1, mono _ _ _ _ r2, ⟨r3.os, r3.tape, r3.output, r3.size, fun k hk _ => r3.block k hk (by simp)⟩, .inr (newb _ _ n _ r2), fun u k zs hr _ => keep _ r3 u k zs hr⟩

/-- One Nat appended to a row of lists. -/
theorem append_nat (w : World) (lo : Nat) (v : Value) (n : Nat) (vs : List Value) (x : Value) (s : Nat) (ty : TypeId) (hown : w.ownsRow lo 27 1 v n vs) (hx : w.cell? ⟨s, 0, none⟩ = some x) (h1 : x.oneCell' = true)
    (hbig : n + 1 ≤ 1000000) (hlo : lo ≤ w.heap.size) :
    ∃ g cap w', (Builtin.append_ #[36, 36] ty #[v, .slice (some ⟨s, 0, none⟩) 1 1]).run Try.prog w = .ok (.slice (some ⟨g, 0, none⟩) (n + 1) cap) w' ∧ w'.ownsRow lo 27 1 (.slice (some ⟨g, 0, none⟩) (n + 1) cap) (n + 1) (vs ++ [x]) ∧ w.grownBy w' v.ownBlock ∧ Keep w w' := by
  obtain ⟨i0, hi, hz0, hz1, hz2⟩ := info_parts Try.info27
  have hnews : ∀ j u, [x][j]? = some u → w.cell? ((⟨s, 0, none⟩ : Addr).add j) = some u := by
    intro j u hj
    match j, hj with
    | 0, hj => simp at hj; subst hj; simpa [Addr.add] using hx
  have h1' : ∀ u ∈ [x], u.oneCell' = true := by intro u hu; simp at hu; subst hu; exact h1
  obtain ⟨v', w', r1, r2, r3, _, _⟩ := run_append_own_at (P := Try.prog) w lo 36 ty 27 i0 (.slice none 0 0) 1 24 Try.underlying36 hi hz0 hz1 hz2 rfl (by decide) v n vs hown ⟨s, 0, none⟩ 1 1 [x] rfl hnews h1' (by unfold maxLen; omega) (by omega) hlo
  have hk : Keep w w' := by
    intro g cur te ht1 ht2 hg
    rw [r3.block g (Array.getElem?_eq_some_iff.1 hg).1]
    · exact hg
    · intro e
      rcases hown.2 with ⟨rfl, _⟩ | ⟨g2, cap2, cur2, rfl, _, hg2, _⟩
      · simp [Value.ownBlock] at e
      · simp [Value.ownBlock] at e
        subst e
        rw [hg] at hg2
        cases hg2
        exact ht1 rfl
  rcases r2.2 with ⟨_, h0⟩ | ⟨g, cap, cur, rfl, rest⟩
  · omega
  · exact ⟨g, cap, w', r1, r2, r3, hk⟩

/-- The law for the walk, of whatever slices. -/
theorem wpList_append_run2 {w : World} {ops : Array Oper} {rest : List Oper} {o : Oper} {a : Act} {Q : Exit → Act → World → Prop} (hgd : o.guard = none) (s x : Operand) (t : TypeId)
    (ho : o.op = .call { callee := .builtin .append, args := #[s, x], argTypes := #[t, t] }) (v u : Value) (hs : a.eval s = v) (hx : a.eval x = u) (v' : Value) (w' : World)
    (hrun : (Builtin.append_ #[t, t] o.type #[v, u]).run Try.prog w = .ok v' w') (h : wpList Try.prog ops Q rest (a.put o.dst v') w') : wpList Try.prog ops Q (o :: rest) a w := by
  refine wpList_plain hgd fun K hK => ?_
  unfold Oper.wp
  simp [execOp, ho, resolve, invoke, builtin, hs, hx, hrun, Result.andThen]
  exact hK _ _ h

/-- A book of lists at block h. -/
def Bk (lo : Nat) (w : World) (h : Nat) (vs : List Value) : Prop := lo ≤ h ∧ ∃ v, w.heap[h]? = some (.cells #[v] 38 (0, 0)) ∧ w.ownsRow lo 27 1 v vs.length vs

theorem Bk.made (lo : Nat) (w : World) (hlo : lo ≤ w.heap.size) : Bk lo (w.alloc (.cells #[.slice none 0 0] 38)) w.heap.size [] :=
  ⟨hlo, _, heap_alloc_new w _, World.ownsRow_nil _ _ _ _⟩

set_option maxHeartbeats 1000000 in
theorem take_any (lo h : Nat) (vs : List Value) (ao : Option Addr) (n cap : Nat) (w : World) (hB : Bk lo w h vs) (hlen : vs.length ≤ 1000) (hlo : lo ≤ w.heap.size) :
    Calls Try.prog 16 #[.pointer (some ⟨h, 0, none⟩), .slice ao n cap] w fun r w' => r = .returned (.tuple #[]) ∧ Bk lo w' h (vs ++ [.slice ao n cap]) ∧ Keep w w' ∧ Below lo w w' ∧ w.heap.size ≤ w'.heap.size := by
  obtain ⟨hlh, v, hv, hrow⟩ := hB
  have hhl := (Array.getElem?_eq_some_iff.1 hv).1
  have hc : w.cell? ⟨h, 0, none⟩ = some v := by simp [World.cell?, hv]
  have hrow1 : (w.alloc (.cells #[.slice ao n cap] 27)).ownsRow lo 27 1 v vs.length vs := hrow.alloc _
  obtain ⟨g, cap', w', hap, hown, hgrow, hkeep⟩ := append_nat (w.alloc (.cells #[.slice ao n cap] 27)) lo v vs.length vs (.slice ao n cap) w.heap.size 36 hrow1 (by unfold World.cell?; simp only [heap_alloc_new]; rfl) rfl (by omega) (by simp; omega)
  have hvh : v.ownBlock ≠ some h := by
    intro e
    rcases hrow.2 with ⟨rfl, _⟩ | ⟨g2, cap2, cur2, rfl, _, hg2, _⟩
    · simp [Value.ownBlock] at e
    · simp [Value.ownBlock] at e
      subst e
      rw [hv] at hg2
      cases hg2
  have hh' : w'.heap[h]? = some (.cells #[v] 38 (0, 0)) := by
    rw [hgrow.block h (by simp; omega) (fun e => hvh e.symm), Below.heap_alloc _ _ _ hhl]; exact hv
  have hf' : w'.frozen? ⟨h, 0, none⟩ = false := by simp [World.frozen?, hh']
  have hc' : w'.cell? ⟨h, 0, none⟩ = some v := by simp [World.cell?, hh']
  have hgh : g ≠ h := by
    intro e
    subst e
    rcases hown.2 with ⟨e, _⟩ | ⟨g2, cap2, cur2, e, _, hg2, _⟩
    · cases e
    · cases e
      rw [hh'] at hg2
      cases hg2
  have hbel : Below lo w w' := ((Below.refl lo w).alloc hlo _).grown hgrow (by simp; omega) (fun k hk => by
    rcases hrow.2 with ⟨rfl, _⟩ | ⟨g2, cap2, cur2, rfl, hl2, _⟩
    · simp [Value.ownBlock] at hk
    · simp [Value.ownBlock] at hk; omega)
  have hsz : w.heap.size ≤ w'.heap.size := by have := hgrow.size; simp at this; omega
  have HX := (Aside.intro (And.intro hown (And.intro hkeep (And.intro hh' (And.intro hgh (And.intro hbel (And.intro hlh hsz)))))))
  clear hown hkeep hh' hgh hbel hlh hsz hgrow hvh hrow1 hrow hv hhl
  have HAP := hid hap
  clear hap
  go_enter Try.func16, Try.ntmps16
  go_wp2_with (at_builtin; refine wpList_append_run2 rfl (.tmp 8) (.tmp 10) 36 rfl _ _ rfl rfl _ _ HAP.out ?_)
  go_end0
  obtain ⟨hown, hkeep, hh', hgh, hbel, hlh, hsz⟩ := HX.out
  refine ⟨rfl, ⟨hlh, .slice (some ⟨g, 0, none⟩) (vs.length + 1) cap', ?_, ?_⟩, ?_, ?_, by simpa [World.setCell] using hsz⟩
  · simp only [World.setCell, Array.getElem?_modify, hh']
    simp
  · have h1 := row_setOther hown ⟨h, 0, none⟩ (.slice (some ⟨g, 0, none⟩) (vs.length + 1) cap') (by simp [Value.ownBlock]; exact hgh)
    simpa using h1
  · intro b cur te ht1 ht2 hb
    have h1 : (w.alloc (.cells #[.slice ao n cap] 27)).heap[b]? = some (.cells cur te (0, 0)) := by rw [Below.heap_alloc _ _ _ (Array.getElem?_eq_some_iff.1 hb).1]; exact hb
    have h2 := hkeep b cur te ht1 ht2 h1
    rw [Below.heap_setCell _ _ _ _ (fun e => by
      subst e
      rw [hh'] at h2
      cases h2
      exact ht2 rfl)]
    exact h2
  · exact hbel.trans ⟨rfl, rfl, rfl, by simp [World.setCell], fun k hk => Below.heap_setCell _ _ _ _ (by simp; omega)⟩
end Go.Proofs.Ytfocdjfnlbendaa

/- What Sift keeps to, on both sides; the program's Sift. -/
namespace Go.Proofs.Ytfocdjfnlbendaa
open Go.RowKit
open Go.Proofs.Ytfocdjfnlbendaa.B (f64bits f64frombits bw bcell)
set_option linter.unusedVariables false
set_option maxRecDepth 20000
attribute [local go_sem] st_float f64bits f64frombits

/-- The finite ones. -/
def fin (xs : List Nat) : List Nat := xs.filter (fun x => decide (kd x ≤ 2))
theorem fin_append (xs ys : List Nat) : fin (xs ++ ys) = fin xs ++ fin ys := by simp [fin, List.filter_append]
theorem fin_le (xs : List Nat) : (fin xs).length ≤ xs.length := List.length_filter_le _ _
theorem fin_in (xs : List Nat) (i : Nat) (h : i < xs.length) (hk : kd (xs.getD i 0) ≤ 2) : fin (xs.take (i + 1)) = fin (xs.take i) ++ [xs.getD i 0] := by
  rw [take_succ' xs i h, fin_append]; simp [fin]; simpa [List.getD_eq_getElem?_getD] using hk
theorem fin_out (xs : List Nat) (i : Nat) (h : i < xs.length) (hk : ¬ kd (xs.getD i 0) ≤ 2) : fin (xs.take (i + 1)) = fin (xs.take i) := by
  rw [take_succ' xs i h, fin_append]; simp [fin]; simpa [List.getD_eq_getElem?_getD] using hk

def siftE (a b : Int) (xs : List Nat) : Int := if may a b = false then 1 else if 65536 < xs.length then 2 else rf (cn 5 xs : Nat) (cn 3 xs : Nat) (cn 4 xs : Nat) a b
def siftL (a b : Int) (xs : List Nat) : List Nat := if siftE a b xs = 0 then fin xs else []
def siftS (a b : Int) (xs : List Nat) : Value := if siftE a b xs = 0 then .agg #[.int .i64 (cn 5 xs : Nat), .int .i64 (cn 3 xs : Nat), .int .i64 (cn 4 xs : Nat), .int .i64 (cn 1 xs : Nat), .int .i64 (cn 2 xs : Nat), .int .i64 (xs.length : Nat)] else .agg #[.int .i64 0, .int .i64 0, .int .i64 0, .int .i64 0, .int .i64 0, .int .i64 0]
/-- What Sift answers. -/
def SiftAns (w : World) (a b : Int) (xs : List Nat) (r : Ending) (w' : World) : Prop := ∃ v, r = .returned (.tuple #[v, siftS a b xs, .int .i64 (siftE a b xs)]) ∧ Lt w.heap.size w' v (siftL a b xs) ∧ Below w.heap.size w w'

theorem SiftAns.no {w w' : World} {a b : Int} {xs : List Nat} (e : Int) (he : siftE a b xs = e) (h0 : e ≠ 0) (hb : Below w.heap.size w w') : SiftAns w a b xs (.returned (.tuple #[.slice none 0 0, .agg #[.int .i64 0, .int .i64 0, .int .i64 0, .int .i64 0, .int .i64 0, .int .i64 0], .int .i64 e])) w' := by
  subst he
  refine ⟨.slice none 0 0, ?_, ?_, hb⟩
  · unfold siftS; rw [if_neg h0]
  · unfold siftL; rw [if_neg h0]; exact Lt.nil _ _
theorem SiftAns.yes {w w' : World} {a b : Int} {xs : List Nat} {v : Value} (he : siftE a b xs = 0) (hv : Rw w.heap.size w' v (fin xs).length ((fin xs).map U)) (hb : Below w.heap.size w w') :
    SiftAns w a b xs (.returned (.tuple #[v, .agg #[.int .i64 (cn 5 xs : Nat), .int .i64 (cn 3 xs : Nat), .int .i64 (cn 4 xs : Nat), .int .i64 (cn 1 xs : Nat), .int .i64 (cn 2 xs : Nat), .int .i64 (xs.length : Nat)], .int .i64 0])) w' := by
  refine ⟨v, ?_, ?_, hb⟩
  · rw [he]; unfold siftS; rw [if_pos he]
  · unfold siftL; rw [if_pos he]; exact hv

/-- A row in a world in which only other things have changed. -/
theorem Rw.below {lo : Nat} {w w' : World} {v : Value} {n : Nat} {ys : List Value} (h : Rw lo w v n ys) (hb : Below w.heap.size w w') : Rw lo w' v n ys :=
  Keep.row h (Keep.below hb)
theorem Rw.but {lo g : Nat} {w w' : World} {v : Value} {n : Nat} {ys : List Value} (h : Rw lo w v n ys) (hb : But g w w') {cur : Array Value} {e : TypeId} (he : e ≠ 41) (hg : w.heap[g]? = some (.cells cur e (0, 0))) : Rw lo w' v n ys := by
  refine row_other h fun k hk => ?_
  rcases h.2 with ⟨rfl, _⟩ | ⟨g2, cap, c2, rfl, _, hg2, _⟩
  · cases hk
  · cases hk
    refine hb.block _ (Array.getElem?_eq_some_iff.1 hg2).1 (fun e2 => ?_)
    subst e2
    rw [hg] at hg2
    cases hg2
    exact he rfl
theorem Rw.mono {lo lo' : Nat} {w : World} {v : Value} {n : Nat} {ys : List Value} (h : Rw lo w v n ys) (hl : lo' ≤ lo) : Rw lo' w v n ys := by
  refine ⟨h.1, ?_⟩
  rcases h.2 with hn | ⟨g, cap, cur, rfl, hlo, rest⟩
  · exact .inl hn
  · exact .inr ⟨g, cap, cur, rfl, by omega, rest⟩
theorem Rw.low {lo : Nat} {w : World} {v : Value} {n : Nat} {ys : List Value} (h : Rw lo w v n ys) : ∀ b, v.ownBlock = some b → lo ≤ b := by
  intro b hb
  rcases h.2 with ⟨rfl, _⟩ | ⟨g, cap, cur, rfl, hlo, _⟩
  · cases hb
  · cases hb; exact hlo
theorem Rw.form {lo : Nat} {w : World} {v : Value} {n : Nat} {ys : List Value} (h : Rw lo w v n ys) : ∃ ao cap, v = .slice ao n cap := by
  rcases h.2 with ⟨rfl, h0⟩ | ⟨g, cap, cur, rfl, _⟩
  · exact ⟨none, 0, by rw [h0]⟩
  · exact ⟨_, cap, rfl⟩

theorem make_room (n : Nat) (hn : n ≤ 65536) (w : World) :
    (Instr.makeSlice 27 (.int .i64 0) (.int .i64 (n : Nat))).run Try.prog w = .ok (.slice (some ⟨w.heap.size, 0, none⟩) 0 n) (w.alloc (.cells (madeCells #[.float .f64 0] n) 41)) := by
  obtain ⟨i0, hi, hz0, hz1, hz2⟩ := info_parts Try.info41
  have hr := run_make (P := Try.prog) w 27 41 i0 (.float .f64 0) Try.underlying27 hi hz0 .i64 .i64 0 (n : Int) (Int.le_refl _) (by omega) (by rw [hz2]; omega) (by omega)
  rw [hz1, Nat.mul_one] at hr
  simp only [Int.toNat_natCast, Int.toNat_zero] at hr
  exact hr

theorem row_made (lo : Nat) (w : World) (n : Nat) (hn : n ≤ 65536) (hlo : lo ≤ w.heap.size) : Rw lo (w.alloc (.cells (madeCells #[.float .f64 0] n) 41)) (.slice (some ⟨w.heap.size, 0, none⟩) 0 n) 0 [] := by
  refine ⟨rfl, .inr ⟨w.heap.size, n, madeCells #[.float .f64 0] n, rfl, hlo, heap_alloc_new w _, by omega, by unfold maxLen; omega, ?_, ?_⟩⟩
  · have := congrArg List.length (toList_madeCells_one (.float .f64 0) n)
    simpa using this
  · simp

/-- One number more in the row; what lies elsewhere stays. -/
theorem push (lo : Nat) (w : World) (v : Value) (ys : List Nat) (x : Nat) (hrow : Rw lo w v ys.length (ys.map U)) (hn : ys.length ≤ 65536) (hlo : lo ≤ w.heap.size) :
    ∃ v' w', (Builtin.append_ #[27, 27] 27 #[v, .slice (some ⟨w.heap.size, 0, none⟩) 1 1]).run Try.prog (w.alloc (.cells #[.float .f64 x] 41)) = .ok v' w' ∧ Rw lo w' v' (ys ++ [x]).length ((ys ++ [x]).map U) ∧
      Below lo w w' ∧ (∀ (g : Nat) (cur : Array Value) (e : TypeId), e ≠ 41 → w.heap[g]? = some (.cells cur e (0, 0)) → w'.heap[g]? = some (.cells cur e (0, 0))) ∧ w.heap.size ≤ w'.heap.size := by
  obtain ⟨v', w', h1, h2, h3, _, _⟩ := append_word (w.alloc (.cells #[.float .f64 x] 41)) lo v ys.length (ys.map U) (.float .f64 x) w.heap.size 27 (hrow.alloc _) (by unfold World.cell?; simp only [heap_alloc_new]; rfl) rfl (by omega) (by simp; omega)
  refine ⟨v', w', h1, by simpa [U] using h2, ((Below.refl lo w).alloc hlo _).grown h3 (by simp; omega) hrow.low, ?_, by have := h3.size; simp at this; omega⟩
  intro g cur e he hg
  have hgl := (Array.getElem?_eq_some_iff.1 hg).1
  rw [h3.block g (by simp; omega) (fun e2 => ?_), Below.heap_alloc _ _ _ hgl]
  · exact hg
  · rcases hrow.2 with ⟨rfl, _⟩ | ⟨g2, cap, c2, rfl, _, hg2, _⟩
    · cases e2
    · cases e2
      rw [hg] at hg2
      cases hg2
      exact he rfl

/-- What stands while the list is gone through. -/
structure SI (lo sb : Nat) (W1 : World) (xs : List Nat) (i : Nat) (a : Int) (v : Value) (wr : World) : Prop where
  row : Rw lo wr v (fin (xs.take i)).length ((fin (xs.take i)).map U)
  sp : SpT wr sb (xs.take i) a
  bel : Below lo W1 wr
  size : W1.heap.size ≤ wr.heap.size

theorem SI.kind {lo sb : Nat} {W1 : World} {xs : List Nat} {i : Nat} {a : Int} {v : Value} {wr w1 : World} (h : SI lo sb W1 xs i a v wr) (hb : Below wr.heap.size wr w1) (hlo : lo ≤ wr.heap.size) : SI lo sb W1 xs i a v w1 :=
  ⟨h.row.below hb, SpB.below h.sp hb (SpB.lt h.sp), h.bel.trans (hb.mono hlo), Nat.le_trans h.size hb.size⟩

theorem SI.out {lo sb : Nat} {W1 : World} {xs : List Nat} {i : Nat} {a : Int} {v : Value} {wr w2 : World} (h : SI lo sb W1 xs i a v wr) (hi : i < xs.length) (hs : SpT w2 sb (xs.take (i + 1)) a) (hb : But sb wr w2) (hlo : lo ≤ sb) (hl : lo ≤ wr.heap.size) (hk : ¬ kd (xs.getD i 0) ≤ 2) : SI lo sb W1 xs (i + 1) a v w2 :=
  ⟨by rw [fin_out xs i hi hk]; exact h.row.but hb (by decide) h.sp, hs, But.below h.bel hb hl hlo, Nat.le_trans h.size hb.size⟩

theorem SI.row2 {lo sb : Nat} {W1 : World} {xs : List Nat} {i : Nat} {a : Int} {v : Value} {wr w2 : World} (h : SI lo sb W1 xs i a v wr) (hb : But sb wr w2) : Rw lo w2 v (fin (xs.take i)).length ((fin (xs.take i)).map U) := h.row.but hb (by decide) h.sp

theorem SpB.keep {w w' : World} {g : Nat} {n u d m p a : Int} (h : SpB w g n u d m p a) (hk : ∀ (g : Nat) (cur : Array Value) (e : TypeId), e ≠ 41 → w.heap[g]? = some (.cells cur e (0, 0)) → w'.heap[g]? = some (.cells cur e (0, 0))) : SpB w' g n u d m p a :=
  hk _ _ _ (by decide) h

theorem SI.into {lo sb : Nat} {W1 : World} {xs : List Nat} {i : Nat} {a : Int} {v v' : Value} {wr w2 w3 : World} (h : SI lo sb W1 xs i a v wr) (hi : i < xs.length) (hs : SpT w2 sb (xs.take (i + 1)) a) (hb : But sb wr w2) (hlo : lo ≤ sb) (hl : lo ≤ wr.heap.size) (hk : kd (xs.getD i 0) ≤ 2)
    (hrow : Rw lo w3 v' (fin (xs.take i) ++ [xs.getD i 0]).length ((fin (xs.take i) ++ [xs.getD i 0]).map U)) (hb3 : Below lo w2 w3) (hkeep : ∀ (g : Nat) (cur : Array Value) (e : TypeId), e ≠ 41 → w2.heap[g]? = some (.cells cur e (0, 0)) → w3.heap[g]? = some (.cells cur e (0, 0))) (hsz : w2.heap.size ≤ w3.heap.size) : SI lo sb W1 xs (i + 1) a v' w3 :=
  ⟨by rw [fin_in xs i hi hk]; exact hrow, SpB.keep hs hkeep, (But.below h.bel hb hl hlo).trans hb3, Nat.le_trans (Nat.le_trans h.size hb.size) hsz⟩

theorem kp_one (x : Nat) (n u d m p : Nat) : (if kp (kd x) = 0 then ((n : Nat) : Int) + 1 else n) = ((n + one 5 x : Nat) : Int) ∧ (if kp (kd x) = 1 then ((u : Nat) : Int) + 1 else u) = ((u + one 3 x : Nat) : Int) ∧ (if kp (kd x) = 2 then ((d : Nat) : Int) + 1 else d) = ((d + one 4 x : Nat) : Int) ∧
    (if kp (kd x) = 3 then ((m : Nat) : Int) + 1 else m) = ((m + one 1 x : Nat) : Int) ∧ (if kp (kd x) = 4 then ((p : Nat) : Int) + 1 else p) = ((p + one 2 x : Nat) : Int) := by
  have hk := kd_le x
  unfold one
  generalize kd x = k at hk
  obtain rfl | rfl | rfl | rfl | rfl | rfl : k = 0 ∨ k = 1 ∨ k = 2 ∨ k = 3 ∨ k = 4 ∨ k = 5 := by omega
  all_goals simp [kp]
theorem kp_ge (x : Nat) : 3 ≤ kp (kd x) ↔ kd x ≤ 2 := by
  have hk := kd_le x
  generalize kd x = k at hk
  obtain rfl | rfl | rfl | rfl | rfl | rfl : k = 0 ∨ k = 1 ∨ k = 2 ∨ k = 3 ∨ k = 4 ∨ k = 5 := by omega
  all_goals simp [kp]
theorem kp_le (x : Nat) : kp (kd x) ≤ 5 := by unfold kp; (repeat' split) <;> omega
theorem SpT.counted {w w' : World} {sb : Nat} {xs : List Nat} {i : Nat} {a : Int} (hi : i < xs.length)
    (h : SpB w' sb (if kp (kd (xs.getD i 0)) = 0 then ((cn 5 (xs.take i) : Nat) : Int) + 1 else ((cn 5 (xs.take i) : Nat) : Int)) (if kp (kd (xs.getD i 0)) = 1 then ((cn 3 (xs.take i) : Nat) : Int) + 1 else ((cn 3 (xs.take i) : Nat) : Int)) (if kp (kd (xs.getD i 0)) = 2 then ((cn 4 (xs.take i) : Nat) : Int) + 1 else ((cn 4 (xs.take i) : Nat) : Int)) (if kp (kd (xs.getD i 0)) = 3 then ((cn 1 (xs.take i) : Nat) : Int) + 1 else ((cn 1 (xs.take i) : Nat) : Int)) (if kp (kd (xs.getD i 0)) = 4 then ((cn 2 (xs.take i) : Nat) : Int) + 1 else ((cn 2 (xs.take i) : Nat) : Int)) a) :
    SpT w' sb (xs.take (i + 1)) a := by
  obtain ⟨h1, h2, h3, h4, h5⟩ := kp_one (xs.getD i 0) (cn 5 (xs.take i)) (cn 3 (xs.take i)) (cn 4 (xs.take i)) (cn 1 (xs.take i)) (cn 2 (xs.take i))
  rw [h1, h2, h3, h4, h5] at h
  unfold SpT
  rw [cn_succ 5 xs i hi, cn_succ 3 xs i hi, cn_succ 4 xs i hi, cn_succ 1 xs i hi, cn_succ 2 xs i hi]
  exact h
end Go.Proofs.Ytfocdjfnlbendaa

/- The program's Sift. -/
namespace Go.Proofs.Ytfocdjfnlbendaa
open Go.RowKit
open Go.Proofs.Ytfocdjfnlbendaa.B (f64bits f64frombits bw bcell)
set_option linter.unusedVariables false
set_option maxRecDepth 20000
attribute [local go_sem] st_float f64bits f64frombits

set_option maxHeartbeats 4000000 in
theorem Sift_arg (xs : List Nat) (ao : Option Addr) (n cap : Nat) (a b : Int) (w : World) (hm : may a b = false) :
    Calls Try.prog 12 #[.slice ao n cap, .agg #[.int .i64 a, .int .i64 b]] w (SiftAns w a b xs) := by
  have H := hid (May_any a b)
  rw [hm] at H
  have HE : Aside (siftE a b xs = 1) := by unfold siftE; rw [hm]; rfl
  clear hm
  go_enter Try.func12, Try.ntmps12
  go_wp2_with fail
  refine (H.out _).mono ?_
  rintro r w1 ⟨rfl, hb⟩
  have hsz := hb.size
  simp at hsz
  obtain ⟨hc, hf⟩ := bcell hb
  have HB := Aside.intro hb
  clear hb
  go_wp2
  refine bodyPost_ret (v := .tuple #[.slice none 0 0, .agg #[.int .i64 0, .int .i64 0, .int .i64 0, .int .i64 0, .int .i64 0, .int .i64 0], .int .i64 1]) (by simp [results, Try.results12, go_sem, csetm, hc]) rfl (SiftAns.no 1 HE.out (by decide) ?_)
  exact But.below ((((Below.refl _ w).alloc (Nat.le_refl _) _).alloc (by simp) _).trans (HB.out.mono (by simp; omega))) (But.set6 (But.refl (w.heap.size + 1) _) _ _ _ _ _ _) (by omega) (by omega)

set_option maxHeartbeats 4000000 in
theorem Sift_long (xs : List Nat) (ao : Option Addr) (n cap : Nat) (a b : Int) (w : World) (hn : n = xs.length) (hm : may a b = true) (hl : 65536 < n) (hn2 : n ≤ 35184372088832) :
    Calls Try.prog 12 #[.slice ao n cap, .agg #[.int .i64 a, .int .i64 b]] w (SiftAns w a b xs) := by
  have H := hid (May_any a b)
  rw [hm] at H
  have HE : Aside (siftE a b xs = 2) := by unfold siftE; rw [if_neg (by rw [hm]; decide), if_pos (by omega), Aside]
  clear hm hn
  go_enter Try.func12, Try.ntmps12
  go_wp2_with fail
  refine (H.out _).mono ?_
  rintro r w1 ⟨rfl, hb⟩
  have hsz := hb.size
  simp at hsz
  obtain ⟨hc, hf⟩ := bcell hb
  have HB := Aside.intro hb
  clear hb
  go_wp2
  refine bodyPost_ret (v := .tuple #[.slice none 0 0, .agg #[.int .i64 0, .int .i64 0, .int .i64 0, .int .i64 0, .int .i64 0, .int .i64 0], .int .i64 2]) (by simp [results, Try.results12, go_sem, csetm, hc]) rfl (SiftAns.no 2 HE.out (by decide) ?_)
  exact But.below ((((Below.refl _ w).alloc (Nat.le_refl _) _).alloc (by simp) _).trans (HB.out.mono (by simp; omega))) (But.set6 (But.refl (w.heap.size + 1) _) _ _ _ _ _ _) (by omega) (by omega)

set_option maxHeartbeats 8000000 in
set_option maxRecDepth 100000 in
theorem Sift_rest (xs : List Nat) (ao : Option Addr) (n cap B : Nat) (a b : Int) (w : World) (hn : n = xs.length) (hm : may a b = true) (hl : n ≤ 65536) (hx : Wf xs) (hR : Rd B w ao xs) (hB : B ≤ w.heap.size) :
    Calls Try.prog 12 #[.slice ao n cap, .agg #[.int .i64 a, .int .i64 b]] w (SiftAns w a b xs) := by
  have H := hid (May_any a b)
  rw [hm] at H
  have HE : Aside (siftE a b xs = rf (cn 5 xs : Nat) (cn 3 xs : Nat) (cn 4 xs : Nat) a b) := by unfold siftE; rw [if_neg (by rw [hm]; decide), if_neg (by omega), Aside]
  have hmk := make_room n hl
  have HX := (Aside.intro (And.intro hn (And.intro hx (And.intro hR hB))))
  clear hm hn hx hR hB
  go_enter Try.func12, Try.ntmps12
  go_wp2_with fail
  refine (H.out _).mono ?_
  rintro r w1 ⟨rfl, hb⟩
  have hsz := hb.size
  simp at hsz
  obtain ⟨hc, hf⟩ := bcell hb
  have HB := Aside.intro hb
  have HZ : Aside (SpB w1 (w.heap.size + 1) 0 0 0 0 0 0) := by
    have h1 := SpB.made (w.alloc (.cells #[.int .i64 a, .int .i64 b] 23)) 0 0 0 0 0 0
    simp only [World.size_alloc] at h1
    exact h1.below hb (by simp)
  clear hb
  go_wp2
  go_loopg [7, 28] n (fun gk lv cv wr => ∃ (i : Nat), gk + i = n ∧ cv = .int .i64 (i : Nat) ∧ Aside (SI w1.heap.size (w1.heap.size + 1) w1 xs i (n : Nat) lv wr))
  case atStart =>
    refine ⟨0, by omega, rfl, ?_⟩
    have h1 := (row_made w1.heap.size w1 n hl (Nat.le_refl _)).alloc (.cells #[.int .i64 0, .int .i64 0, .int .i64 0, .int .i64 0, .int .i64 0, .int .i64 (n : Nat)] 30)
    have h2 := SpB.made (w1.alloc (.cells (madeCells #[.float .f64 0] n) 41)) 0 0 0 0 0 (n : Nat)
    simp only [World.size_alloc] at h2
    exact ⟨h1, h2, ((Below.refl _ _).alloc (Nat.le_refl _) _).alloc (by simp) _, by simp; omega⟩
  case round =>
    obtain ⟨i, hi, rfl, HA⟩ := hrel
    by_cases hin : i = n
    · obtain rfl : gk = 0 := by omega
      obtain ⟨hn, hx, hR, hB⟩ := HX.out
      have hS := HA.out
      have e : xs.take i = xs := List.take_of_length_le (by omega)
      have hT := hS.sp
      unfold SpT at hT
      rw [e] at hT
      have hc0 := hT.c0
      have hc1 := hT.c1
      have hc2 := hT.c2
      have hc3 := hT.c3
      have hc4 := hT.c4
      have hc5 := hT.c5
      have hlt := hT.lt
      have hcb : ∀ b o, b < w1.heap.size → wr.cell? ⟨b, o, none⟩ = w1.cell? ⟨b, o, none⟩ := fun b o h => hS.bel.cell (p := ⟨b, o, none⟩) h
      have hp0 : wr.cell? ⟨w.heap.size, 0, none⟩ = some (.int .i64 a) := by rw [hcb _ _ (by omega), hc _ _ (by simp; omega)]; simp [go_sem]
      have hp1 : wr.cell? ⟨w.heap.size, 1, none⟩ = some (.int .i64 b) := by rw [hcb _ _ (by omega), hc _ _ (by simp; omega)]; simp [go_sem]
      have hZ : SpB wr (w.heap.size + 1) 0 0 0 0 0 0 := HZ.out.below hS.bel (by omega)
      have hbd := fun k => cn_bd k xs n (by omega) hl
      have HRF := hid (fun w => refusal_any (cn 5 xs : Nat) (cn 3 xs : Nat) (cn 4 xs : Nat) (cn 1 xs : Nat) (cn 2 xs : Nat) (n : Nat) a b w (hbd 3) (hbd 4))
      obtain ⟨ee, hee⟩ : ∃ ee, rf (cn 5 xs : Nat) (cn 3 xs : Nat) (cn 4 xs : Nat) a b = ee := ⟨_, rfl⟩
      have HEE : Aside (siftE a b xs = ee) := by rw [Aside, HE.out, hee]
      rw [hee] at HRF
      obtain ⟨c5, e5⟩ : ∃ c, cn 5 xs = c := ⟨_, rfl⟩
      obtain ⟨c3, e3⟩ : ∃ c, cn 3 xs = c := ⟨_, rfl⟩
      obtain ⟨c4, e4⟩ : ∃ c, cn 4 xs = c := ⟨_, rfl⟩
      obtain ⟨c1, e1⟩ : ∃ c, cn 1 xs = c := ⟨_, rfl⟩
      obtain ⟨c2, e2⟩ : ∃ c, cn 2 xs = c := ⟨_, rfl⟩
      rw [e5, e3, e4, e1, e2] at hT HRF
      rw [e5] at hc0
      rw [e3] at hc1
      rw [e4] at hc2
      rw [e1] at hc3
      rw [e2] at hc4
      have HY := (Aside.intro (And.intro hZ (And.intro hT (And.intro e (And.intro e1 (And.intro e2 (And.intro e3 (And.intro e4 e5))))))))
      have hBs := hS.size
      clear hn hx hR hB hS hT e hcb hbd hee e1 e2 e3 e4 e5 hZ
      subst hin
      go_wp2_with fail
      refine (HRF.out _).mono ?_
      rintro r w5 ⟨rfl, hb5⟩
      obtain ⟨hZ, hT, e, e1, e2, e3, e4, e5⟩ := HY.out
      have hZ5 := hZ.below hb5 hZ.lt
      have hT5 := hT.below hb5 hT.lt
      have hr5 := HA.out.row.below hb5
      have hZf := hZ5.frozen
      have hz0 := hZ5.c0
      have hz1 := hZ5.c1
      have hz2 := hZ5.c2
      have hz3 := hZ5.c3
      have hz4 := hZ5.c4
      have hz5 := hZ5.c5
      have ht0 := hT5.c0
      have ht1 := hT5.c1
      have ht2 := hT5.c2
      have ht3 := hT5.c3
      have ht4 := hT5.c4
      have ht5 := hT5.c5
      have hzl := hZ5.lt
      have hbel5 : Below w.heap.size w w5 := ((((Below.refl _ w).alloc (Nat.le_refl _) _).alloc (by simp) _).trans (HB.out.mono (by simp; omega))).trans ((HA.out.bel.mono (by omega)).trans (hb5.mono (by omega)))
      have HV := (Aside.intro (And.intro hbel5 (And.intro hr5 (And.intro hZ5 (And.intro hT5 (And.intro e (And.intro e1 (And.intro e2 (And.intro e3 (And.intro e4 e5))))))))))
      clear hZ hT e e1 e2 e3 e4 e5 hb5 hZ5 hT5 hr5 hbel5 hc0 hc1 hc2 hc3 hc4 hc5 hp0 hp1 HY
      by_cases h0 : ee = 0
      · subst h0
        go_wp2
        go_region
        all_goals
          go_wp2
          refine bodyPost_ret (v := .tuple #[u7, .agg #[.int .i64 (c5 : Nat), .int .i64 (c3 : Nat), .int .i64 (c4 : Nat), .int .i64 (c1 : Nat), .int .i64 (c2 : Nat), .int .i64 (i : Nat)], .int .i64 0]) (by simp [results, Try.results12, go_sem, csetm, hz0, hz1, hz2, hz3, hz4, hz5]) rfl ?_
          obtain ⟨hbel5, hr5, hZ5, hT5, e, e1, e2, e3, e4, e5⟩ := HV.out
          have hbut : But (w.heap.size + 1) w5 _ := (But.set6 (But.refl (w.heap.size + 1) w5) (.int .i64 (c5 : Nat)) (.int .i64 (c3 : Nat)) (.int .i64 (c4 : Nat)) (.int .i64 (c1 : Nat)) (.int .i64 (c2 : Nat)) (.int .i64 (i : Nat))).drew
          have hR6 := Rw.mono (Rw.but hr5 hbut (by decide) hZ5) (show w.heap.size ≤ w1.heap.size by omega)
          rw [e] at hR6
          have hans := SiftAns.yes HEE.out hR6 (But.below hbel5 hbut (by omega) (by omega))
          rw [← HX.out.1, e1, e2, e3, e4, e5] at hans
          exact hans
      · have h0' : (ee == 0) = false := by rw [beq_eq_false_iff_ne]; exact h0
        go_wp2
        refine bodyPost_ret (v := .tuple #[.slice none 0 0, .agg #[.int .i64 0, .int .i64 0, .int .i64 0, .int .i64 0, .int .i64 0, .int .i64 0], .int .i64 ee]) (by simp [results, Try.results12, go_sem, csetm, hz0, hz1, hz2, hz3, hz4, hz5]) rfl (SiftAns.no ee HEE.out h0 ?_)
        exact But.below HV.out.1 (But.set6 (But.refl (w.heap.size + 1) _) _ _ _ _ _ _) (by omega) (by omega)
    · have hil : i < n := by omega
      obtain ⟨hn, hx, hR, hB⟩ := HX.out
      have hS := HA.out
      have hbw : Below w.heap.size w wr := ((((Below.refl _ w).alloc (Nat.le_refl _) _).alloc (by simp) _).trans (HB.out.mono (by simp; omega))).trans (hS.bel.mono (by omega))
      have hRw : Rd w.heap.size wr ao xs := (hR.mono hB).below hbw
      obtain ⟨bb, off, hlt2, rfl, hcell⟩ := hRw (by intro e; rw [e] at hn; simp at hn; omega)
      have hxc := hcell i (by omega)
      have hxw := hx.get i
      obtain ⟨x, hxx⟩ : ∃ x, xs.getD i 0 = x := ⟨_, rfl⟩
      rw [hxx] at hxc hxw
      have HK := hid (kind_any x hxw)
      have hk5 := kp_le x
      have hk3 := kp_ge x
      obtain ⟨kk, hkk⟩ : ∃ kk, kp (kd x) = kk := ⟨_, rfl⟩
      rw [hkk] at HK hk5 hk3
      have l1 : (xs.take i).length ≤ 65536 := by rw [List.length_take]; omega
      have hbd := fun k => cn_bd k (xs.take i) 65536 l1 (Nat.le_refl _)
      have hwl := hS.size
      have HY := (Aside.intro (And.intro hxx (And.intro hkk (And.intro hk3 (And.intro hbd (And.intro hn hlt2))))))
      clear hn hx hR hB hS hbw hRw hcell hxx hkk hk3 hbd l1 hin
      go_wp2_with fail
      refine (HK.out _).mono ?_
      rintro r w2 ⟨rfl, hb2⟩
      have HS2 := Aside.intro (SI.kind HA.out hb2 hwl)
      have hxc2 : w2.cell? ⟨bb, off + i, none⟩ = some (.float .f64 x) := by rw [hb2.cell (p := ⟨bb, off + i, none⟩) (by have := HY.out.2.2.2.2.2; simp; omega)]; exact hxc
      have hsz2 := hb2.size
      have HC := hid (count_any kk (w1.heap.size + 1) _ _ _ _ _ _ w2 hk5 HS2.out.sp (HY.out.2.2.2.1 5) (HY.out.2.2.2.1 3) (HY.out.2.2.2.1 4) (HY.out.2.2.2.1 1) (HY.out.2.2.2.1 2))
      clear hb2 hxc
      go_wp2_with fail
      refine Calls.mono HC.out ?_
      rintro r w3 ⟨rfl, hs3, hbut3⟩
      obtain ⟨hxx, hkk, hk3, hbd, hn, hlt2⟩ := HY.out
      have hs3' : SpT w3 (w1.heap.size + 1) (xs.take (i + 1)) (n : Nat) := SpT.counted (w := w2) (by omega) (by rw [hxx, hkk]; exact hs3)
      have hsz3 := hbut3.size
      have hxc3 : w3.cell? ⟨bb, off + i, none⟩ = some (.float .f64 x) := by
        have h9 := (But.below (Below.refl w1.heap.size w2) hbut3 (by omega) (by omega)).cell (p := ⟨bb, off + i, none⟩) (by simp; omega)
        rw [h9]; exact hxc2
      by_cases hk2 : kd x ≤ 2
      · have hge : (3 : Int) ≤ (kk : Int) := by have := hk3.2 hk2; omega
        obtain ⟨v', w4, hap, hrow4, hb4, hkeep4, hsz4⟩ := push w1.heap.size w3 u7 (fin (xs.take i)) x (SI.row2 HS2.out hbut3) (by have h1 := fin_le (xs.take i); rw [List.length_take] at h1; omega) (by omega)
        have HI := Aside.intro (SI.into (v' := v') HS2.out (by omega) hs3' hbut3 (by omega) (by omega) (by rw [hxx]; exact hk2) (by rw [hxx]; exact hrow4) hb4 hkeep4 hsz4)
        have HAP := hid hap
        clear hap hrow4 hb4 hkeep4 hsz4 hs3 hs3' hbut3 hxx hkk hk3 hbd hn hlt2 hk2 hxc2
        go_wp2_with (at_builtin; refine wpList_append_run2 rfl (.tmp 40) (.tmp 45) 27 rfl _ _ rfl rfl _ _ HAP.out ?_)
        go_roundg (n - (i + 1))
        case measure => omega
        case rel => exact ⟨i + 1, by omega, by first | go_num | (congr 1; omega), HI⟩
      · have hge : decide ((3 : Int) ≤ (kk : Int)) = false := decide_eq_false (fun h => hk2 (hk3.1 (by omega)))
        have HI := Aside.intro (SI.out HS2.out (by omega) hs3' hbut3 (by omega) (by omega) (by rw [hxx]; exact hk2))
        clear hs3 hs3' hbut3 hxx hkk hk3 hbd hn hlt2 hk2 hxc2
        go_wp2
        go_roundg (n - (i + 1))
        case measure => omega
        case rel => exact ⟨i + 1, by omega, by first | go_num | (congr 1; omega), HI⟩

theorem Sift_any (xs : List Nat) (ao : Option Addr) (n cap B : Nat) (a b : Int) (w : World) (hn : n = xs.length) (hm : n ≤ 35184372088832) (hx : Wf xs) (hR : Rd B w ao xs) (hB : B ≤ w.heap.size) :
    Calls Try.prog 12 #[.slice ao n cap, .agg #[.int .i64 a, .int .i64 b]] w (SiftAns w a b xs) := by
  rcases h : may a b with _ | _
  · exact Sift_arg xs ao n cap a b w h
  · by_cases hl : 65536 < n
    · exact Sift_long xs ao n cap a b w hn h hl hm
    · exact Sift_rest xs ao n cap B a b w hn h (by omega) hx hR hB
end Go.Proofs.Ytfocdjfnlbendaa

/- The document's Sift. -/
namespace Go.Proofs.Ytfocdjfnlbendaa
open Go.RowKit
open Go.Proofs.Ytfocdjfnlbendaa.B (f64bits f64frombits bw bcell)
set_option linter.unusedVariables false
set_option maxRecDepth 20000
attribute [local go_sem] st_float f64bits f64frombits

set_option maxHeartbeats 4000000 in
theorem rSift_arg (xs : List Nat) (ao : Option Addr) (n cap : Nat) (a b : Int) (w : World) (hm : may a b = false) :
    Calls Try.prog 14 #[.slice ao n cap, .agg #[.int .i64 a, .int .i64 b]] w (SiftAns w a b xs) := by
  have H := hid (rMay_any a b)
  rw [hm] at H
  have HE : Aside (siftE a b xs = 1) := by unfold siftE; rw [hm]; rfl
  clear hm
  go_enter Try.func14, Try.ntmps14
  go_wp2_with fail
  refine (H.out _).mono ?_
  rintro r w1 ⟨rfl, hb⟩
  have hsz := hb.size
  simp at hsz
  obtain ⟨hc, hf⟩ := bcell hb
  have HB := Aside.intro hb
  clear hb
  go_wp2
  refine bodyPost_ret (v := .tuple #[.slice none 0 0, .agg #[.int .i64 0, .int .i64 0, .int .i64 0, .int .i64 0, .int .i64 0, .int .i64 0], .int .i64 1]) (by simp [results, Try.results14, go_sem, csetm, hc]) rfl (SiftAns.no 1 HE.out (by decide) ?_)
  exact But.below ((((Below.refl _ w).alloc (Nat.le_refl _) _).alloc (by simp) _).trans (HB.out.mono (by simp; omega))) (But.set6 (But.refl (w.heap.size + 1) _) _ _ _ _ _ _) (by omega) (by omega)

set_option maxHeartbeats 4000000 in
theorem rSift_long (xs : List Nat) (ao : Option Addr) (n cap : Nat) (a b : Int) (w : World) (hn : n = xs.length) (hm : may a b = true) (hl : 65536 < n) (hn2 : n ≤ 35184372088832) :
    Calls Try.prog 14 #[.slice ao n cap, .agg #[.int .i64 a, .int .i64 b]] w (SiftAns w a b xs) := by
  have H := hid (rMay_any a b)
  rw [hm] at H
  have HE : Aside (siftE a b xs = 2) := by unfold siftE; rw [if_neg (by rw [hm]; decide), if_pos (by omega), Aside]
  clear hm hn
  go_enter Try.func14, Try.ntmps14
  go_wp2_with fail
  refine (H.out _).mono ?_
  rintro r w1 ⟨rfl, hb⟩
  have hsz := hb.size
  simp at hsz
  obtain ⟨hc, hf⟩ := bcell hb
  have HB := Aside.intro hb
  clear hb
  go_wp2
  refine bodyPost_ret (v := .tuple #[.slice none 0 0, .agg #[.int .i64 0, .int .i64 0, .int .i64 0, .int .i64 0, .int .i64 0, .int .i64 0], .int .i64 2]) (by simp [results, Try.results14, go_sem, csetm, hc]) rfl (SiftAns.no 2 HE.out (by decide) ?_)
  exact But.below ((((Below.refl _ w).alloc (Nat.le_refl _) _).alloc (by simp) _).trans (HB.out.mono (by simp; omega))) (But.set6 (But.refl (w.heap.size + 1) _) _ _ _ _ _ _) (by omega) (by omega)

set_option maxHeartbeats 8000000 in
set_option maxRecDepth 100000 in
theorem rSift_rest (xs : List Nat) (ao : Option Addr) (n cap B : Nat) (a b : Int) (w : World) (hn : n = xs.length) (hm : may a b = true) (hl : n ≤ 65536) (hx : Wf xs) (hR : Rd B w ao xs) (hB : B ≤ w.heap.size) :
    Calls Try.prog 14 #[.slice ao n cap, .agg #[.int .i64 a, .int .i64 b]] w (SiftAns w a b xs) := by
  have H := hid (rMay_any a b)
  rw [hm] at H
  obtain ⟨ee, hee⟩ : ∃ ee, rf (cn 5 xs : Nat) (cn 3 xs : Nat) (cn 4 xs : Nat) a b = ee := ⟨_, rfl⟩
  have HE : Aside (siftE a b xs = ee) := by unfold siftE; rw [if_neg (by rw [hm]; decide), if_neg (by omega), Aside]; exact hee
  have hbd := fun k => cn_bd k xs n (by omega) hl
  have HRF := hid (fun w => Refused_any (cn 5 xs : Nat) (cn 3 xs : Nat) (cn 4 xs : Nat) (cn 1 xs : Nat) (cn 2 xs : Nat) (n : Nat) a b w (hbd 3) (hbd 4))
  have HOF := hid (fun w B hR hB => Of_any xs ao n cap B w hn hl hx hR hB)
  rw [hee] at HRF
  obtain ⟨c5, e5⟩ : ∃ c, cn 5 xs = c := ⟨_, rfl⟩
  obtain ⟨c3, e3⟩ : ∃ c, cn 3 xs = c := ⟨_, rfl⟩
  obtain ⟨c4, e4⟩ : ∃ c, cn 4 xs = c := ⟨_, rfl⟩
  obtain ⟨c1, e1⟩ : ∃ c, cn 1 xs = c := ⟨_, rfl⟩
  obtain ⟨c2, e2⟩ : ∃ c, cn 2 xs = c := ⟨_, rfl⟩
  rw [e5, e3, e4, e1, e2] at HRF HOF
  have HX := (Aside.intro (And.intro hn (And.intro hx (And.intro hR (And.intro hB (And.intro e1 (And.intro e2 (And.intro e3 (And.intro e4 e5)))))))))
  clear hm hn hx hR hB hbd hee e1 e2 e3 e4 e5
  go_enter Try.func14, Try.ntmps14
  go_wp2_with fail
  refine (H.out _).mono ?_
  rintro r w1 ⟨rfl, hb⟩
  have hsz := hb.size
  simp at hsz
  have hbw1 : Below w.heap.size w w1 := (((Below.refl _ w).alloc (Nat.le_refl _) _).alloc (by simp) _).trans (hb.mono (by simp; omega))
  have hZ1 : SpB w1 (w.heap.size + 1) 0 0 0 0 0 0 := by
    have h1 := SpB.made (w.alloc (.cells #[.int .i64 a, .int .i64 b] 23)) 0 0 0 0 0 0
    simp only [World.size_alloc] at h1
    exact h1.below hb (by simp)
  have hp : w1.heap[w.heap.size]? = some (.cells #[.int .i64 a, .int .i64 b] 23 (0, 0)) := by
    rw [hb.block w.heap.size (by simp; omega), Below.heap_alloc _ _ _ (by simp)]
    exact heap_alloc_new w _
  have HP := (Aside.intro (And.intro hbw1 (And.intro hZ1 hp)))
  have HRW := hid ((HX.out.2.2.1.mono HX.out.2.2.2.1).below hbw1)
  clear hb hbw1 hZ1 hp
  go_wp2_with fail
  refine (HOF.out _ _ HRW.out (by omega)).mono ?_
  rintro r w2 ⟨rfl, hb2⟩
  have hsz2 := hb2.size
  obtain ⟨W3, hW3⟩ : ∃ W, W = w2.alloc (.cells #[.int .i64 (c5 : Nat), .int .i64 (c3 : Nat), .int .i64 (c4 : Nat), .int .i64 (c1 : Nat), .int .i64 (c2 : Nat), .int .i64 (n : Nat)] 30) := ⟨_, rfl⟩
  have hT3 : SpB W3 w2.heap.size (c5 : Nat) (c3 : Nat) (c4 : Nat) (c1 : Nat) (c2 : Nat) (n : Nat) := by rw [hW3]; exact SpB.made _ _ _ _ _ _ _
  have hb3 : Below w1.heap.size w1 W3 := by rw [hW3]; exact hb2.alloc (by omega) _
  have hs3 : W3.heap.size = w2.heap.size + 1 := by rw [hW3]; simp
  have hp3 : W3.heap[w.heap.size]? = some (.cells #[.int .i64 a, .int .i64 b] 23 (0, 0)) := by rw [hb3.block _ (by omega)]; exact HP.out.2.2
  have hq0 : W3.cell? ⟨w.heap.size, 0, none⟩ = some (.int .i64 a) := by simp [World.cell?, hp3]
  have hq1 : W3.cell? ⟨w.heap.size, 1, none⟩ = some (.int .i64 b) := by simp [World.cell?, hp3]
  have hcw0 : w2.cell? ⟨w.heap.size, 0, none⟩ = some (.int .i64 a) := by rw [hb2.cell (p := ⟨w.heap.size, 0, none⟩) (by simp; omega)]; have := HP.out.2.2; simp [World.cell?, this]
  have hcw1 : w2.cell? ⟨w.heap.size, 1, none⟩ = some (.int .i64 b) := by rw [hb2.cell (p := ⟨w.heap.size, 1, none⟩) (by simp; omega)]; have := HP.out.2.2; simp [World.cell?, this]
  have hlt2 : w.heap.size < w2.heap.size := by omega
  have HQ := (Aside.intro (And.intro hT3 (And.intro hb3 hW3)))
  clear hb2 hT3 hb3 hp3 hq0 hq1 hW3
  go_wp2_with fail
  refine (HRF.out _).mono ?_
  rintro r w4 ⟨rfl, hb4⟩
  have hb4' : Below W3.heap.size W3 w4 := by rw [HQ.out.2.2]; exact hb4
  have hT4 := HQ.out.1.below hb4' HQ.out.1.lt
  have hZ4 := (HP.out.2.1.below HQ.out.2.1 HP.out.2.1.lt).below hb4' (by have := HP.out.2.1.lt; omega)
  have hsz4 := hb4'.size
  have hbw4 : Below w.heap.size w w4 := HP.out.1.trans ((HQ.out.2.1.mono (by omega)).trans (hb4'.mono (by omega)))
  have hzf := hZ4.frozen
  have hz0 := hZ4.c0
  have hz1 := hZ4.c1
  have hz2 := hZ4.c2
  have hz3 := hZ4.c3
  have hz4 := hZ4.c4
  have hz5 := hZ4.c5
  have HV := (Aside.intro (And.intro hbw4 (And.intro hT4 hZ4)))
  clear hb4 hb4' hT4 hZ4 hbw4 hcw0 hcw1
  by_cases h0 : ee = 0
  · subst h0
    clear hzf hz0 hz1 hz2 hz3 hz4 hz5
    go_wp2
    go_loopg [10, 11] n (fun gk lv cv wr => ∃ (i : Nat), gk + i = n ∧ cv = .int .i64 (i : Nat) ∧ Aside (Rw w4.heap.size wr lv (fin (xs.take i)).length ((fin (xs.take i)).map U) ∧ Below w4.heap.size w4 wr ∧ w4.heap.size ≤ wr.heap.size))
    case atStart => exact ⟨0, by omega, rfl, World.ownsRow_nil _ _ _ _, Below.refl _ _, Nat.le_refl _⟩
    case round =>
      obtain ⟨i, hi, rfl, HA⟩ := hrel
      obtain ⟨hrow, hbel, hwl⟩ := HA.out
      obtain ⟨hbw4, hT4, hZ4⟩ := HV.out
      obtain ⟨hn, hx, hR, hB, e1, e2, e3, e4, e5⟩ := HX.out
      have hZ5 := hZ4.below hbel hZ4.lt
      have hT5 := hT4.below hbel hT4.lt
      by_cases hin : i = n
      · obtain rfl : gk = 0 := by omega
        have e : xs.take i = xs := List.take_of_length_le (by omega)
        have hZf := hZ5.frozen
        have hz0 := hZ5.c0
        have hz1 := hZ5.c1
        have hz2 := hZ5.c2
        have hz3 := hZ5.c3
        have hz4 := hZ5.c4
        have hz5 := hZ5.c5
        have ht0 := hT5.c0
        have ht1 := hT5.c1
        have ht2 := hT5.c2
        have ht3 := hT5.c3
        have ht4 := hT5.c4
        have ht5 := hT5.c5
        have hzl := hZ5.lt
        have hbel5 : Below w.heap.size w wr := hbw4.trans (hbel.mono (by omega))
        have HV2 := (Aside.intro (And.intro hbel5 (And.intro hrow (And.intro hZ5 e))))
        clear hn hx hR hB hbw4 hT4 hZ4 hrow hbel hZ5 hT5 hbel5 e e1 e2 e3 e4 e5
        subst hin
        go_wp2
        go_region
        all_goals
          go_wp2
          refine bodyPost_ret (v := .tuple #[u10, .agg #[.int .i64 (c5 : Nat), .int .i64 (c3 : Nat), .int .i64 (c4 : Nat), .int .i64 (c1 : Nat), .int .i64 (c2 : Nat), .int .i64 (i : Nat)], .int .i64 0]) (by simp [results, Try.results14, go_sem, csetm, hz0, hz1, hz2, hz3, hz4, hz5]) rfl ?_
          obtain ⟨hbel5, hr5, hZ5, e⟩ := HV2.out
          obtain ⟨hn, hx, hR, hB, e1, e2, e3, e4, e5⟩ := HX.out
          have hbut : But (w.heap.size + 1) wr _ := (But.set6 (But.refl (w.heap.size + 1) wr) (.int .i64 (c5 : Nat)) (.int .i64 (c3 : Nat)) (.int .i64 (c4 : Nat)) (.int .i64 (c1 : Nat)) (.int .i64 (c2 : Nat)) (.int .i64 (i : Nat))).drew
          have hR6 := Rw.mono (Rw.but hr5 hbut (by decide) hZ5) (show w.heap.size ≤ w4.heap.size by omega)
          rw [e] at hR6
          have hans := SiftAns.yes HE.out hR6 (But.below hbel5 hbut (by omega) (by omega))
          rw [← hn, e1, e2, e3, e4, e5] at hans
          exact hans
      · have hil : i < n := by omega
        have hbel5 : Below w.heap.size w wr := hbw4.trans (hbel.mono (by omega))
        have hRw : Rd w.heap.size wr ao xs := (hR.mono hB).below hbel5
        obtain ⟨bb, off, hlt2, rfl, hcell⟩ := hRw (by intro e; rw [e] at hn; simp at hn; omega)
        have hxc := hcell i (by omega)
        have hxw := hx.get i
        obtain ⟨x, hxx⟩ : ∃ x, xs.getD i 0 = x := ⟨_, rfl⟩
        rw [hxx] at hxc hxw
        have HK := hid (Kind_any x hxw)
        obtain ⟨kk, hkk⟩ : ∃ kk, kd x = kk := ⟨_, rfl⟩
        rw [hkk] at HK
        by_cases hk2 : kk ≤ 2
        · have hle : (kk : Int) ≤ 2 := by omega
          obtain ⟨v', w6, hap, hrow6, hb6, hkeep6, hsz6⟩ := push w4.heap.size wr u10 (fin (xs.take i)) x hrow (by have h1 := fin_le (xs.take i); rw [List.length_take] at h1; omega) hwl
          have HI : Aside (Rw w4.heap.size w6 v' (fin (xs.take (i + 1))).length ((fin (xs.take (i + 1))).map U) ∧ Below w4.heap.size w4 w6 ∧ w4.heap.size ≤ w6.heap.size) := by
            rw [fin_in xs i (by omega) (by rw [hxx, hkk]; exact hk2), hxx]
            exact ⟨hrow6, hbel.trans hb6, by omega⟩
          have HAP := hid hap
          clear hn hx hR hB hbw4 hT4 hZ4 hrow hbel hZ5 hT5 hbel5 e1 e2 e3 e4 e5 hRw hcell hxw hxx hkk hap hrow6 hb6 hkeep6 hsz6 hk2 hin
          go_wp2_with fail
          refine (HK.out _).mono ?_
          rintro r w5 ⟨rfl, rfl⟩
          go_wp2_with (at_builtin; refine wpList_append_run2 rfl (.tmp 44) (.tmp 49) 27 rfl _ _ rfl rfl _ _ HAP.out ?_)
          go_roundg (n - (i + 1))
          case measure => omega
          case rel => exact ⟨i + 1, by omega, by first | go_num | (congr 1; omega), HI⟩
        · have hle : decide ((kk : Int) ≤ 2) = false := decide_eq_false (by omega)
          have HI : Aside (Rw w4.heap.size wr u10 (fin (xs.take (i + 1))).length ((fin (xs.take (i + 1))).map U) ∧ Below w4.heap.size w4 wr ∧ w4.heap.size ≤ wr.heap.size) := by
            rw [fin_out xs i (by omega) (by rw [hxx, hkk]; exact hk2)]
            exact ⟨hrow, hbel, hwl⟩
          clear hn hx hR hB hbw4 hT4 hZ4 hrow hbel hZ5 hT5 hbel5 e1 e2 e3 e4 e5 hRw hcell hxw hxx hkk hk2 hin
          go_wp2_with fail
          refine (HK.out _).mono ?_
          rintro r w5 ⟨rfl, rfl⟩
          go_wp2
          go_roundg (n - (i + 1))
          case measure => omega
          case rel => exact ⟨i + 1, by omega, by first | go_num | (congr 1; omega), HI⟩
  · have h0' : (ee == 0) = false := by rw [beq_eq_false_iff_ne]; exact h0
    go_wp2
    refine bodyPost_ret (v := .tuple #[.slice none 0 0, .agg #[.int .i64 0, .int .i64 0, .int .i64 0, .int .i64 0, .int .i64 0, .int .i64 0], .int .i64 ee]) (by simp [results, Try.results14, go_sem, csetm, hz0, hz1, hz2, hz3, hz4, hz5]) rfl (SiftAns.no ee HE.out h0 ?_)
    exact But.below HV.out.1 (But.set6 (But.refl (w.heap.size + 1) _) _ _ _ _ _ _) (by omega) (by omega)

theorem rSift_any (xs : List Nat) (ao : Option Addr) (n cap B : Nat) (a b : Int) (w : World) (hn : n = xs.length) (hm : n ≤ 35184372088832) (hx : Wf xs) (hR : Rd B w ao xs) (hB : B ≤ w.heap.size) :
    Calls Try.prog 14 #[.slice ao n cap, .agg #[.int .i64 a, .int .i64 b]] w (SiftAns w a b xs) := by
  rcases h : may a b with _ | _
  · exact rSift_arg xs ao n cap a b w h
  · by_cases hl : 65536 < n
    · exact rSift_long xs ao n cap a b w hn h hl hm
    · exact rSift_rest xs ao n cap B a b w hn h (by omega) hx hR hB
end Go.Proofs.Ytfocdjfnlbendaa

/- Specials that may be: sound, MayBe. -/
namespace Go.Proofs.Ytfocdjfnlbendaa
open Go.RowKit
open Go.Proofs.Ytfocdjfnlbendaa.B (f64bits f64frombits bw bcell)
set_option linter.unusedVariables false
set_option maxRecDepth 20000
attribute [local go_sem] st_float f64bits f64frombits

/-- May Specials be? -/
def snd (n u d m p a : Int) : Bool := ct n && ct u && ct d && (ct m && ct p && ct a) && decide (n + u + d + m + p ≤ a)
theorem ct_true {n : Int} (h : ct n = true) : 0 ≤ n ∧ n ≤ 1099511627776 := by unfold ct at h; simpa using h

set_option maxHeartbeats 4000000 in
theorem MayBe_any (n u d m p a : Int) (w : World) : Calls Try.prog 37 #[.agg #[.int .i64 n, .int .i64 u, .int .i64 d, .int .i64 m, .int .i64 p, .int .i64 a]] w fun r w' => r = .returned (.bool (snd n u d m p a)) ∧ Below w.heap.size w w' := by
  have below : ∀ o, Below w.heap.size w (w.alloc o) := fun o => (Below.refl _ _).alloc (Nat.le_refl _) _
  unfold snd
  have Hn := hid (within_any n)
  have Hu := hid (within_any u)
  have Hd := hid (within_any d)
  have Hm := hid (within_any m)
  have Hp := hid (within_any p)
  have Ha := hid (within_any a)
  have h1 : (ct n = false) ∨ (ct n = true ∧ ct u = false) ∨ (ct n = true ∧ ct u = true ∧ ct d = false) ∨ (ct n = true ∧ ct u = true ∧ ct d = true) := by cases ct n <;> cases ct u <;> cases ct d <;> simp
  have h2 : (ct m = false) ∨ (ct m = true ∧ ct p = false) ∨ (ct m = true ∧ ct p = true ∧ ct a = false) ∨ (ct m = true ∧ ct p = true ∧ ct a = true) := by cases ct m <;> cases ct p <;> cases ct a <;> simp
  rcases h1 with e1 | ⟨e1, e2⟩ | ⟨e1, e2, e3⟩ | ⟨e1, e2, e3⟩ <;> rcases h2 with g1 | ⟨g1, g2⟩ | ⟨g1, g2, g3⟩ | ⟨g1, g2, g3⟩
  · rw [e1, g1]
    rw [e1] at Hn
    rw [g1] at Hm
    clear e1 g1
    go_enter Try.func37, Try.ntmps37
    go_wp2_with fail
    refine (Hn.out _).mono ?_
    rintro r w1 ⟨rfl, rfl⟩
    go_wp2_with fail
    refine (Hm.out _).mono ?_
    rintro r w1 ⟨rfl, rfl⟩
    go_wp2
    go_ret
    exact ⟨by first | rfl | simp, below _⟩
  · rw [e1, g1, g2]
    rw [e1] at Hn
    rw [g1] at Hm
    rw [g2] at Hp
    clear e1 g1 g2
    go_enter Try.func37, Try.ntmps37
    go_wp2_with fail
    refine (Hn.out _).mono ?_
    rintro r w1 ⟨rfl, rfl⟩
    go_wp2_with fail
    refine (Hm.out _).mono ?_
    rintro r w1 ⟨rfl, rfl⟩
    go_wp2_with fail
    refine (Hp.out _).mono ?_
    rintro r w1 ⟨rfl, rfl⟩
    go_wp2
    go_ret
    exact ⟨by first | rfl | simp, below _⟩
  · rw [e1, g1, g2, g3]
    rw [e1] at Hn
    rw [g1] at Hm
    rw [g2] at Hp
    rw [g3] at Ha
    clear e1 g1 g2 g3
    go_enter Try.func37, Try.ntmps37
    go_wp2_with fail
    refine (Hn.out _).mono ?_
    rintro r w1 ⟨rfl, rfl⟩
    go_wp2_with fail
    refine (Hm.out _).mono ?_
    rintro r w1 ⟨rfl, rfl⟩
    go_wp2_with fail
    refine (Hp.out _).mono ?_
    rintro r w1 ⟨rfl, rfl⟩
    go_wp2_with fail
    refine (Ha.out _).mono ?_
    rintro r w1 ⟨rfl, rfl⟩
    go_wp2
    go_ret
    exact ⟨by first | rfl | simp, below _⟩
  · rw [e1, g1, g2, g3]
    rw [e1] at Hn
    rw [g1] at Hm
    rw [g2] at Hp
    rw [g3] at Ha
    clear e1 g1 g2 g3
    go_enter Try.func37, Try.ntmps37
    go_wp2_with fail
    refine (Hn.out _).mono ?_
    rintro r w1 ⟨rfl, rfl⟩
    go_wp2_with fail
    refine (Hm.out _).mono ?_
    rintro r w1 ⟨rfl, rfl⟩
    go_wp2_with fail
    refine (Hp.out _).mono ?_
    rintro r w1 ⟨rfl, rfl⟩
    go_wp2_with fail
    refine (Ha.out _).mono ?_
    rintro r w1 ⟨rfl, rfl⟩
    go_wp2
    go_ret
    exact ⟨by first | rfl | simp, below _⟩
  · rw [e1, e2, g1]
    rw [e1] at Hn
    rw [e2] at Hu
    rw [g1] at Hm
    clear e1 e2 g1
    go_enter Try.func37, Try.ntmps37
    go_wp2_with fail
    refine (Hn.out _).mono ?_
    rintro r w1 ⟨rfl, rfl⟩
    go_wp2_with fail
    refine (Hu.out _).mono ?_
    rintro r w1 ⟨rfl, rfl⟩
    go_wp2_with fail
    refine (Hm.out _).mono ?_
    rintro r w1 ⟨rfl, rfl⟩
    go_wp2
    go_ret
    exact ⟨by first | rfl | simp, below _⟩
  · rw [e1, e2, g1, g2]
    rw [e1] at Hn
    rw [e2] at Hu
    rw [g1] at Hm
    rw [g2] at Hp
    clear e1 e2 g1 g2
    go_enter Try.func37, Try.ntmps37
    go_wp2_with fail
    refine (Hn.out _).mono ?_
    rintro r w1 ⟨rfl, rfl⟩
    go_wp2_with fail
    refine (Hu.out _).mono ?_
    rintro r w1 ⟨rfl, rfl⟩
    go_wp2_with fail
    refine (Hm.out _).mono ?_
    rintro r w1 ⟨rfl, rfl⟩
    go_wp2_with fail
    refine (Hp.out _).mono ?_
    rintro r w1 ⟨rfl, rfl⟩
    go_wp2
    go_ret
    exact ⟨by first | rfl | simp, below _⟩
  · rw [e1, e2, g1, g2, g3]
    rw [e1] at Hn
    rw [e2] at Hu
    rw [g1] at Hm
    rw [g2] at Hp
    rw [g3] at Ha
    clear e1 e2 g1 g2 g3
    go_enter Try.func37, Try.ntmps37
    go_wp2_with fail
    refine (Hn.out _).mono ?_
    rintro r w1 ⟨rfl, rfl⟩
    go_wp2_with fail
    refine (Hu.out _).mono ?_
    rintro r w1 ⟨rfl, rfl⟩
    go_wp2_with fail
    refine (Hm.out _).mono ?_
    rintro r w1 ⟨rfl, rfl⟩
    go_wp2_with fail
    refine (Hp.out _).mono ?_
    rintro r w1 ⟨rfl, rfl⟩
    go_wp2_with fail
    refine (Ha.out _).mono ?_
    rintro r w1 ⟨rfl, rfl⟩
    go_wp2
    go_ret
    exact ⟨by first | rfl | simp, below _⟩
  · rw [e1, e2, g1, g2, g3]
    rw [e1] at Hn
    rw [e2] at Hu
    rw [g1] at Hm
    rw [g2] at Hp
    rw [g3] at Ha
    clear e1 e2 g1 g2 g3
    go_enter Try.func37, Try.ntmps37
    go_wp2_with fail
    refine (Hn.out _).mono ?_
    rintro r w1 ⟨rfl, rfl⟩
    go_wp2_with fail
    refine (Hu.out _).mono ?_
    rintro r w1 ⟨rfl, rfl⟩
    go_wp2_with fail
    refine (Hm.out _).mono ?_
    rintro r w1 ⟨rfl, rfl⟩
    go_wp2_with fail
    refine (Hp.out _).mono ?_
    rintro r w1 ⟨rfl, rfl⟩
    go_wp2_with fail
    refine (Ha.out _).mono ?_
    rintro r w1 ⟨rfl, rfl⟩
    go_wp2
    go_ret
    exact ⟨by first | rfl | simp, below _⟩
  · rw [e1, e2, e3, g1]
    rw [e1] at Hn
    rw [e2] at Hu
    rw [e3] at Hd
    rw [g1] at Hm
    clear e1 e2 e3 g1
    go_enter Try.func37, Try.ntmps37
    go_wp2_with fail
    refine (Hn.out _).mono ?_
    rintro r w1 ⟨rfl, rfl⟩
    go_wp2_with fail
    refine (Hu.out _).mono ?_
    rintro r w1 ⟨rfl, rfl⟩
    go_wp2_with fail
    refine (Hd.out _).mono ?_
    rintro r w1 ⟨rfl, rfl⟩
    go_wp2_with fail
    refine (Hm.out _).mono ?_
    rintro r w1 ⟨rfl, rfl⟩
    go_wp2
    go_ret
    exact ⟨by first | rfl | simp, below _⟩
  · rw [e1, e2, e3, g1, g2]
    rw [e1] at Hn
    rw [e2] at Hu
    rw [e3] at Hd
    rw [g1] at Hm
    rw [g2] at Hp
    clear e1 e2 e3 g1 g2
    go_enter Try.func37, Try.ntmps37
    go_wp2_with fail
    refine (Hn.out _).mono ?_
    rintro r w1 ⟨rfl, rfl⟩
    go_wp2_with fail
    refine (Hu.out _).mono ?_
    rintro r w1 ⟨rfl, rfl⟩
    go_wp2_with fail
    refine (Hd.out _).mono ?_
    rintro r w1 ⟨rfl, rfl⟩
    go_wp2_with fail
    refine (Hm.out _).mono ?_
    rintro r w1 ⟨rfl, rfl⟩
    go_wp2_with fail
    refine (Hp.out _).mono ?_
    rintro r w1 ⟨rfl, rfl⟩
    go_wp2
    go_ret
    exact ⟨by first | rfl | simp, below _⟩
  · rw [e1, e2, e3, g1, g2, g3]
    rw [e1] at Hn
    rw [e2] at Hu
    rw [e3] at Hd
    rw [g1] at Hm
    rw [g2] at Hp
    rw [g3] at Ha
    clear e1 e2 e3 g1 g2 g3
    go_enter Try.func37, Try.ntmps37
    go_wp2_with fail
    refine (Hn.out _).mono ?_
    rintro r w1 ⟨rfl, rfl⟩
    go_wp2_with fail
    refine (Hu.out _).mono ?_
    rintro r w1 ⟨rfl, rfl⟩
    go_wp2_with fail
    refine (Hd.out _).mono ?_
    rintro r w1 ⟨rfl, rfl⟩
    go_wp2_with fail
    refine (Hm.out _).mono ?_
    rintro r w1 ⟨rfl, rfl⟩
    go_wp2_with fail
    refine (Hp.out _).mono ?_
    rintro r w1 ⟨rfl, rfl⟩
    go_wp2_with fail
    refine (Ha.out _).mono ?_
    rintro r w1 ⟨rfl, rfl⟩
    go_wp2
    go_ret
    exact ⟨by first | rfl | simp, below _⟩
  · rw [e1, e2, e3, g1, g2, g3]
    rw [e1] at Hn
    rw [e2] at Hu
    rw [e3] at Hd
    rw [g1] at Hm
    rw [g2] at Hp
    rw [g3] at Ha
    clear e1 e2 e3 g1 g2 g3
    go_enter Try.func37, Try.ntmps37
    go_wp2_with fail
    refine (Hn.out _).mono ?_
    rintro r w1 ⟨rfl, rfl⟩
    go_wp2_with fail
    refine (Hu.out _).mono ?_
    rintro r w1 ⟨rfl, rfl⟩
    go_wp2_with fail
    refine (Hd.out _).mono ?_
    rintro r w1 ⟨rfl, rfl⟩
    go_wp2_with fail
    refine (Hm.out _).mono ?_
    rintro r w1 ⟨rfl, rfl⟩
    go_wp2_with fail
    refine (Hp.out _).mono ?_
    rintro r w1 ⟨rfl, rfl⟩
    go_wp2_with fail
    refine (Ha.out _).mono ?_
    rintro r w1 ⟨rfl, rfl⟩
    go_wp2
    go_ret
    exact ⟨by first | rfl | simp, below _⟩
  · rw [e1, e2, e3, g1]
    rw [e1] at Hn
    rw [e2] at Hu
    rw [e3] at Hd
    rw [g1] at Hm
    clear e1 e2 e3 g1
    go_enter Try.func37, Try.ntmps37
    go_wp2_with fail
    refine (Hn.out _).mono ?_
    rintro r w1 ⟨rfl, rfl⟩
    go_wp2_with fail
    refine (Hu.out _).mono ?_
    rintro r w1 ⟨rfl, rfl⟩
    go_wp2_with fail
    refine (Hd.out _).mono ?_
    rintro r w1 ⟨rfl, rfl⟩
    go_wp2_with fail
    refine (Hm.out _).mono ?_
    rintro r w1 ⟨rfl, rfl⟩
    go_wp2
    go_ret
    exact ⟨by first | rfl | simp, below _⟩
  · rw [e1, e2, e3, g1, g2]
    rw [e1] at Hn
    rw [e2] at Hu
    rw [e3] at Hd
    rw [g1] at Hm
    rw [g2] at Hp
    clear e1 e2 e3 g1 g2
    go_enter Try.func37, Try.ntmps37
    go_wp2_with fail
    refine (Hn.out _).mono ?_
    rintro r w1 ⟨rfl, rfl⟩
    go_wp2_with fail
    refine (Hu.out _).mono ?_
    rintro r w1 ⟨rfl, rfl⟩
    go_wp2_with fail
    refine (Hd.out _).mono ?_
    rintro r w1 ⟨rfl, rfl⟩
    go_wp2_with fail
    refine (Hm.out _).mono ?_
    rintro r w1 ⟨rfl, rfl⟩
    go_wp2_with fail
    refine (Hp.out _).mono ?_
    rintro r w1 ⟨rfl, rfl⟩
    go_wp2
    go_ret
    exact ⟨by first | rfl | simp, below _⟩
  · rw [e1, e2, e3, g1, g2, g3]
    rw [e1] at Hn
    rw [e2] at Hu
    rw [e3] at Hd
    rw [g1] at Hm
    rw [g2] at Hp
    rw [g3] at Ha
    clear e1 e2 e3 g1 g2 g3
    go_enter Try.func37, Try.ntmps37
    go_wp2_with fail
    refine (Hn.out _).mono ?_
    rintro r w1 ⟨rfl, rfl⟩
    go_wp2_with fail
    refine (Hu.out _).mono ?_
    rintro r w1 ⟨rfl, rfl⟩
    go_wp2_with fail
    refine (Hd.out _).mono ?_
    rintro r w1 ⟨rfl, rfl⟩
    go_wp2_with fail
    refine (Hm.out _).mono ?_
    rintro r w1 ⟨rfl, rfl⟩
    go_wp2_with fail
    refine (Hp.out _).mono ?_
    rintro r w1 ⟨rfl, rfl⟩
    go_wp2_with fail
    refine (Ha.out _).mono ?_
    rintro r w1 ⟨rfl, rfl⟩
    go_wp2
    go_ret
    exact ⟨by first | rfl | simp, below _⟩
  · rw [e1, e2, e3, g1, g2, g3]
    rw [e1] at Hn
    rw [e2] at Hu
    rw [e3] at Hd
    rw [g1] at Hm
    rw [g2] at Hp
    rw [g3] at Ha
    have kn := ct_true e1
    have ku := ct_true e2
    have kd := ct_true e3
    have km := ct_true g1
    have kp := ct_true g2
    have ka := ct_true g3
    clear e1 e2 e3 g1 g2 g3
    go_enter Try.func37, Try.ntmps37
    go_wp2_with fail
    refine (Hn.out _).mono ?_
    rintro r w1 ⟨rfl, rfl⟩
    go_wp2_with fail
    refine (Hu.out _).mono ?_
    rintro r w1 ⟨rfl, rfl⟩
    go_wp2_with fail
    refine (Hd.out _).mono ?_
    rintro r w1 ⟨rfl, rfl⟩
    go_wp2_with fail
    refine (Hm.out _).mono ?_
    rintro r w1 ⟨rfl, rfl⟩
    go_wp2_with fail
    refine (Hp.out _).mono ?_
    rintro r w1 ⟨rfl, rfl⟩
    go_wp2_with fail
    refine (Ha.out _).mono ?_
    rintro r w1 ⟨rfl, rfl⟩
    go_wp2
    go_ret
    exact ⟨by first | rfl | simp, below _⟩

theorem ct_five {n u d m p : Int} (i : Nat) (hi : i < 5) (h : ct ([n, u, d, m, p].getD i 0) = false) (a : Int) : snd n u d m p a = false := by
  unfold snd
  obtain rfl | rfl | rfl | rfl | rfl : i = 0 ∨ i = 1 ∨ i = 2 ∨ i = 3 ∨ i = 4 := by omega
  all_goals (simp at h; simp [h])
def ps (L : List Int) (i : Nat) : Int := (L.take i).sum
theorem ps_succ (L : List Int) (i : Nat) (h : i < L.length) : ps L (i + 1) = ps L i + L.getD i 0 := by
  unfold ps; rw [List.take_succ_eq_append_getElem h, List.sum_append, List.getD_eq_getElem?_getD, List.getElem?_eq_getElem h]; simp

set_option maxHeartbeats 4000000 in
theorem sound_any (n u d m p a : Int) (w : World) : Calls Try.prog 34 #[.agg #[.int .i64 n, .int .i64 u, .int .i64 d, .int .i64 m, .int .i64 p, .int .i64 a]] w fun r w' => r = .returned (.bool (snd n u d m p a)) ∧ Below w.heap.size w w' := by
  obtain ⟨L, hL⟩ : ∃ L : List Int, L = [n, u, d, m, p] := ⟨_, rfl⟩
  have hlen : L.length = 5 := by rw [hL]; rfl
  have HL := (Aside.intro (And.intro hL hlen))
  obtain ⟨W, hW⟩ : ∃ W, W = (w.alloc (.cells #[.int .i64 n, .int .i64 u, .int .i64 d, .int .i64 m, .int .i64 p, .int .i64 a] 30)).alloc (.cells #[.int .i64 n, .int .i64 u, .int .i64 d, .int .i64 m, .int .i64 p] 69) := ⟨_, rfl⟩
  have hcell : ∀ i, i < 5 → W.cell? ⟨w.heap.size + 1, i, none⟩ = some (.int .i64 (L.getD i 0)) := by
    intro i hi
    have h1 := heap_alloc_new (w.alloc (.cells #[.int .i64 n, .int .i64 u, .int .i64 d, .int .i64 m, .int .i64 p, .int .i64 a] 30)) (.cells #[.int .i64 n, .int .i64 u, .int .i64 d, .int .i64 m, .int .i64 p] 69)
    rw [← hW] at h1
    simp only [World.size_alloc] at h1
    subst hL
    simp only [World.cell?, h1]
    obtain rfl | rfl | rfl | rfl | rfl : i = 0 ∨ i = 1 ∨ i = 2 ∨ i = 3 ∨ i = 4 := by omega
    all_goals simp
  have ha5 : W.cell? ⟨w.heap.size, 5, none⟩ = some (.int .i64 a) := by rw [hW]; simp [go_sem]
  have hbel : Below w.heap.size w W := by rw [hW]; exact ((Below.refl _ _).alloc (Nat.le_refl _) _).alloc (by simp) _
  have HC := (Aside.intro (And.intro hcell (And.intro hbel (And.intro hW ha5))))
  clear hL hlen hcell hbel hW ha5
  have HA := hid (countable_any a)
  go_enter Try.func34, Try.ntmps34
  go_wp2
  go_loopg [4, 17] 5 (fun gk sv iv wr => ∃ i : Nat, gk + i = 5 ∧ sv = .int .i64 (ps L i) ∧ iv = .int .i64 (i : Nat) ∧ wr = W ∧ Aside (∀ j, j < i → ct (L.getD j 0) = true) ∧ 0 ≤ ps L i ∧ ps L i ≤ (i : Int) * 1099511627776)
  case atStart => exact ⟨0, rfl, rfl, rfl, by rw [HC.out.2.2.1], fun j hj => absurd hj (by omega), by simp [ps], by simp [ps]⟩
  case round =>
    obtain ⟨i, hi, rfl, rfl, rfl, HT, hp0, hp1⟩ := hrel
    obtain ⟨hcell, hbel, hW, ha5⟩ := HC.out
    by_cases hi5 : i = 5
    · obtain rfl : gk = 0 := by omega
      subst hi5
      have hs : snd n u d m p a = (ct a && decide (ps L 5 ≤ a)) := by
        have h0 := HT.out 0 (by omega)
        have h1 := HT.out 1 (by omega)
        have h2 := HT.out 2 (by omega)
        have h3 := HT.out 3 (by omega)
        have h4 := HT.out 4 (by omega)
        have e := HL.out.1
        subst e
        have e2 : ps [n, u, d, m, p] 5 = n + u + d + m + p := by simp [ps]; omega
        rw [e2]
        simp at h0 h1 h2 h3 h4
        unfold snd
        rw [h0, h1, h2, h3, h4]
        simp
      obtain ⟨q, hq⟩ : ∃ q, ps L 5 = q := ⟨_, rfl⟩
      rw [hq] at hp0 hp1 hs ⊢
      have HS := Aside.intro hs
      clear hcell hW hs hq
      rcases ha : ct a with _ | _
      · rw [ha] at HA HS
        clear ha
        go_wp2_with fail
        refine (HA.out _).mono ?_
        rintro r w1 ⟨rfl, rfl⟩
        go_wp2
        go_ret
        exact ⟨by rw [HS.out]; first | rfl | simp, hbel⟩
      · rw [ha] at HA HS
        clear ha
        go_wp2_with fail
        refine (HA.out _).mono ?_
        rintro r w1 ⟨rfl, rfl⟩
        go_wp2
        go_ret
        exact ⟨by rw [HS.out]; first | rfl | simp, hbel⟩
    · have hil : i < 5 := by omega
      have hci := hcell i hil
      have HK := hid (countable_any (L.getD i 0))
      have hps := ps_succ L i (by rw [HL.out.2]; exact hil)
      obtain ⟨x, hx⟩ : ∃ x, L.getD i 0 = x := ⟨_, rfl⟩
      rw [hx] at hci HK hps
      rcases hc : ct x with _ | _
      · rw [hc] at HK
        have HS : Aside (snd n u d m p a = false) := by
          have h1 := hc
          rw [← hx, HL.out.1] at h1
          exact ct_five i hil h1 a
        have HB := Aside.intro hbel
        clear hcell hbel hW ha5 hps hx hc hi5 HC HL
        go_wp2_with fail
        refine (HK.out _).mono ?_
        rintro r w1 ⟨rfl, rfl⟩
        go_wp2
        go_ret
        exact ⟨by rw [HS.out]; rfl, HB.out⟩
      · rw [hc] at HK
        have hb := ct_true hc
        obtain ⟨q, hq⟩ : ∃ q, ps L i = q := ⟨_, rfl⟩
        obtain ⟨q2, hq2⟩ : ∃ q, ps L (i + 1) = q := ⟨_, rfl⟩
        rw [hq, hq2] at hps
        rw [hq] at hp0 hp1 ⊢
        have hq3 : q + x = q2 := hps.symm
        have hq4 : 0 ≤ q2 ∧ q2 ≤ ((i : Int) + 1) * 1099511627776 := by
          have : ((i : Int) + 1) * 1099511627776 = (i : Int) * 1099511627776 + 1099511627776 := by omega
          omega
        have hq5 : q2 ≤ 9223372036854775807 := by omega
        have hq6 : -9223372036854775808 ≤ q2 := by omega
        have HR := (Aside.intro (And.intro hq2 (And.intro hq4 (And.intro hx (And.intro hc hq3)))))
        clear hcell hbel hW ha5 hps hx hc hi5 HC hq2 hq hp0 hp1 hb hq4
        go_wp2_with fail
        refine (HK.out _).mono ?_
        rintro r w1 ⟨rfl, rfl⟩
        go_wp2
        go_roundg (5 - (i + 1))
        case measure => omega
        case rel =>
          obtain ⟨hq2, hq4, hx, hc, hq3⟩ := HR.out
          refine ⟨i + 1, by omega, ?_, by first | go_num | (congr 1; omega), rfl, ?_, by rw [hq2]; exact hq4.1, by rw [hq2]; have := hq4.2; push_cast; exact this⟩
          · first | (rw [hq2]; done) | (rw [hq2, ← hq3]; done)
          · intro j hj
            by_cases hji : j = i
            · subst hji; rw [hx]; exact hc
            · exact HT.out j (by omega)
/-- The verdict. -/
def vd (ok : Bool) (n u d a b : Int) : Nat × Bool :=
  if ok = false then (0, false) else if 0 < n ∧ a = 0 then (9221120237041090560, true) else if ¬ b = 0 then (0, false)
  else if 0 < u ∧ 0 < d then (9221120237041090560, true) else if 0 < u then (9218868437227405312, true) else if 0 < d then (18442240474082181120, true) else (0, false)
/-- Which nought. -/
def nt (ok : Bool) (n u d m p a mode : Int) : Nat :=
  if ok = false then 0 else if a - n - u - d = 0 then 0 else if m = a - n - u - d then 9223372036854775808 else if p = a - n - u - d then 0 else if mode = 3 then 9223372036854775808 else 0
theorem snd_bd {n u d m p a : Int} (h : snd n u d m p a = true) : (0 ≤ n ∧ n ≤ 1099511627776) ∧ (0 ≤ u ∧ u ≤ 1099511627776) ∧ (0 ≤ d ∧ d ≤ 1099511627776) ∧ (0 ≤ a ∧ a ≤ 1099511627776) := by
  unfold snd at h
  simp only [Bool.and_eq_true] at h
  exact ⟨ct_true h.1.1.1.1, ct_true h.1.1.1.2, ct_true h.1.1.2, ct_true h.1.2.2⟩

end Go.Proofs.Ytfocdjfnlbendaa

