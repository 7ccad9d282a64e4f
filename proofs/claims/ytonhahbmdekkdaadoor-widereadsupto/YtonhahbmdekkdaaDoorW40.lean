/- Rows of words that are kept in a book: what is appended, what stays; the document's Take. -/
import Derived.Test.YtonhahbmdekkdaaDoorW39
import Derived.ArgAppend
import Derived.Maps.AppendAt
import Derived.WalkMore
namespace Go.Proofs.YtonhahbmdekkdaaDoor
open Go.RowKit
set_option linter.unusedVariables false
set_option maxRecDepth 20000

/-- A row of words. -/
abbrev Rw (lo : Nat) (w : World) (v : Value) (n : Nat) (ys : List Value) : Prop := w.ownsRow lo 63 1 v n ys

/-- All rows of words are as they were. -/
def Keep (w w' : World) : Prop := ∀ (g : Nat) (cur : Array Value) (e : TypeId), e ≠ 23 → e ≠ 34 → w.heap[g]? = some (.cells cur e (0, 0)) → w'.heap[g]? = some (.cells cur e (0, 0))

theorem Keep.refl (w : World) : Keep w w := fun _ _ _ _ _ h => h
theorem Keep.trans {a b c : World} (h : Keep a b) (k : Keep b c) : Keep a c := fun g cur t h1 h2 e => k g cur t h1 h2 (h g cur t h1 h2 e)
theorem Keep.row {w w' : World} {lo : Nat} {v : Value} {n : Nat} {ys : List Value} (h : Rw lo w v n ys) (k : Keep w w') : Rw lo w' v n ys := by
  refine ⟨h.1, ?_⟩
  rcases h.2 with hn | ⟨g, cap, cur, rfl, hlo, hg, rest⟩
  · exact .inl hn
  · exact .inr ⟨g, cap, cur, rfl, hlo, k _ _ _ (by decide) (by decide) hg, rest⟩
theorem Keep.below {w w' : World} (h : Below w.heap.size w w') : Keep w w' := fun g cur _ _ _ e => by rw [h.block g (Array.getElem?_eq_some_iff.1 e).1]; exact e

theorem Tryd.info23 : (Tryd.prog.info? 23).map (fun i => (i.zero, i.size, i.bytes)) = some (some (.slice none 0 0), 1, 24) := by kernel_rfl

theorem row_other {w w' : World} {lo e s : Nat} {v : Value} {n : Nat} {ys : List Value} (h : w.ownsRow lo e s v n ys) (hb : ∀ g, v.ownBlock = some g → w'.heap[g]? = w.heap[g]?) : w'.ownsRow lo e s v n ys := by
  refine ⟨h.1, ?_⟩
  rcases h.2 with hn | ⟨g, cap, cur, rfl, hlo, hg, rest⟩
  · exact .inl hn
  · refine .inr ⟨g, cap, cur, rfl, hlo, ?_, rest⟩
    rw [hb g rfl]; exact hg

theorem row_set {w : World} {lo g n cap : Nat} {ys : List Value} (h : Rw lo w (.slice (some ⟨g, 0, none⟩) n cap) n ys) (k : Nat) (hk : k < n) (u : Value) :
    Rw lo (w.setCell ⟨g, k, none⟩ u) (.slice (some ⟨g, 0, none⟩) n cap) n (ys.set k u) := by
  refine ⟨by simpa using h.1, ?_⟩
  rcases h.2 with ⟨e, hn⟩ | ⟨g', cap', cur, e, hlo, hg, hnc, hm, hs, ht⟩
  · omega
  · cases e
    refine .inr ⟨g, cap, cur.set! k u, rfl, hlo, ?_, hnc, hm, by simpa using hs, ?_⟩
    · simp only [World.setCell, Array.getElem?_modify, hg]
      simp
    · rw [← ht]
      simp [List.take_set]

theorem row_setOther {w : World} {lo e s : Nat} {v : Value} {n : Nat} {ys : List Value} (h : w.ownsRow lo e s v n ys) (a : Addr) (u : Value) (ha : v.ownBlock ≠ some a.block) : (w.setCell a u).ownsRow lo e s v n ys :=
  row_other h fun g hg => Below.heap_setCell _ _ _ _ (fun e => ha (by rw [hg, e]))

/-- One word appended to a row of words: what else there is, and what is shorter in the same row, stays. -/
theorem append_word (w : World) (lo : Nat) (v : Value) (n : Nat) (ys : List Value) (x : Value) (s : Nat) (ty : TypeId) (hown : Rw lo w v n ys) (hx : w.cell? ⟨s, 0, none⟩ = some x) (h1 : x.oneCell' = true)
    (hbig : n + 1 ≤ 35184372088832) (hlo : lo ≤ w.heap.size) :
    ∃ v' w', (Builtin.append_ #[23, 23] ty #[v, .slice (some ⟨s, 0, none⟩) 1 1]).run Tryd.prog w = .ok v' w' ∧ Rw lo w' v' (n + 1) (ys ++ [x]) ∧ w.grownBy w' v.ownBlock ∧
      (v'.ownBlock = v.ownBlock ∨ ∃ g, v'.ownBlock = some g ∧ w.heap.size ≤ g) ∧ (∀ (u : Value) (k : Nat) (zs : List Value), Rw lo w u k zs → (u.ownBlock = v.ownBlock → k ≤ n) → Rw lo w' u k zs) := by
  obtain ⟨i0, hi, hz0, hz1, hz2⟩ := info_parts Tryd.info63
  have hnews : ∀ j u, [x][j]? = some u → w.cell? ((⟨s, 0, none⟩ : Addr).add j) = some u := by
    intro j u hj
    match j, hj with
    | 0, hj => simp at hj; subst hj; simpa [Addr.add] using hx
  have h1' : ∀ u ∈ [x], u.oneCell' = true := by intro u hu; simp at hu; subst hu; exact h1
  have keep : ∀ w', w.grownBy w' none → ∀ (u : Value) (k : Nat) (zs : List Value), Rw lo w u k zs → Rw lo w' u k zs := by
    intro w' hg u k zs hr
    rcases hr.2 with hn | ⟨g, cap, cur, rfl, hl, hgb, rest⟩
    · exact ⟨hr.1, .inl hn⟩
    · refine ⟨hr.1, .inr ⟨g, cap, cur, rfl, hl, ?_, rest⟩⟩
      rw [hg.block g (Array.getElem?_eq_some_iff.1 hgb).1 (by simp)]; exact hgb
  have newb : ∀ (v' : Value) (w' : World) (m : Nat) (zs : List Value), w'.ownsRow w.heap.size 63 1 v' (m + 1) zs → ∃ g, v'.ownBlock = some g ∧ w.heap.size ≤ g := by
    intro v' w' m zs h
    rcases h.2 with ⟨_, h0⟩ | ⟨g, cap, cur, rfl, hl, _⟩
    · omega
    · exact ⟨g, rfl, hl⟩
  have mono : ∀ (v' : Value) (w' : World) (m : Nat) (zs : List Value), w'.ownsRow w.heap.size 63 1 v' m zs → Rw lo w' v' m zs := by
    intro v' w' m zs h
    refine ⟨h.1, ?_⟩
    rcases h.2 with hn | ⟨g, cap, cur, rfl, hl, rest⟩
    · exact .inl hn
    · exact .inr ⟨g, cap, cur, rfl, by omega, rest⟩
  rcases hown.2 with ⟨rfl, rfl⟩ | ⟨g, cap, cur, rfl, hlg, hg, hnc, hm, hs, ht⟩
  · obtain ⟨v', w', r1, r2, r3, _, _⟩ := run_append_own_at (P := Tryd.prog) w w.heap.size 23 ty 63 i0 (.int .u32 0) 1 4 Tryd.underlying23 hi hz0 hz1 hz2 rfl (by decide) (.slice none 0 0) 0 [] (World.ownsRow_nil _ _ _ _) ⟨s, 0, none⟩ 1 1 [x] rfl hnews h1' (by unfold maxLen; omega) (by omega) (Nat.le_refl _)
    have hy : ys = [] := List.eq_nil_of_length_eq_zero (by simpa using hown.1)
    subst hy
    exact ⟨v', w', r1, mono _ _ _ _ (by simpa using r2), r3, .inr (newb _ _ 0 _ (by simpa using r2)), fun u k zs hr _ => keep _ r3 u k zs hr⟩
  · by_cases hroom : n + 1 ≤ cap
    · have hr := run_append_room (P := Tryd.prog) w 23 ty 63 i0 Tryd.underlying23 hi g n cap cur hg ⟨s, 0, none⟩ 1 1 [x] (by rw [hz1]; rfl) hnews h1' hroom (by rw [hz1, hs]; simp; omega)
      rw [hz1] at hr
      refine ⟨_, _, hr, ⟨by simpa using hown.1, .inr ⟨g, cap, _, rfl, hlg, setRow_heap w g cur _ 63 _ hg, hroom, hm, ?_, ?_⟩⟩, ⟨rfl, rfl, rfl, by simp, fun k _ hk => setRow_other w g k _ (fun e => hk (by simp [Value.ownBlock, e]))⟩, .inl rfl, ?_⟩
      · simp only [List.size_toArray, List.length_append, List.length_take, List.length_drop, Array.length_toList, List.length_cons, List.length_nil]
        omega
      · rw [ht]
        have hyl : ys.length = n := by simpa using hown.1
        simp only [Nat.mul_one, List.append_assoc]
        rw [← List.append_assoc]
        rw [List.take_append_of_le_length (by simp [hyl])]
        rw [List.take_of_length_le (by simp [hyl])]
      · intro u k zs hr2 hle
        rcases hr2.2 with hn | ⟨g2, cap2, cur2, rfl, hl2, hg2, hnc2, hm2, hs2, ht2⟩
        · exact ⟨hr2.1, .inl hn⟩
        · by_cases he : g2 = g
          · subst he
            rw [hg] at hg2
            cases hg2
            have hk := hle rfl
            refine ⟨hr2.1, .inr ⟨g2, cap2, _, rfl, hl2, setRow_heap w g2 cur _ 63 _ hg, hnc2, hm2, ?_, ?_⟩⟩
            · simp only [List.size_toArray, List.length_append, List.length_take, List.length_drop, Array.length_toList, List.length_cons, List.length_nil]
              omega
            · have hcl : cur.toList.length = cap2 := by simpa using hs2
              rw [← ht2]
              simp only [Nat.mul_one, List.append_assoc]
              rw [List.take_append_of_le_length (by rw [List.length_take]; omega), List.take_take, Nat.min_eq_left hk]
          · refine ⟨hr2.1, .inr ⟨g2, cap2, cur2, rfl, hl2, ?_, hnc2, hm2, hs2, ht2⟩⟩
            rw [setRow_other w g g2 _ he]; exact hg2
    · obtain ⟨v', w', r1, r2, r3⟩ := run_append_arg_grows (P := Tryd.prog) w 23 ty 63 i0 (.int .u32 0) 1 4 Tryd.underlying23 hi hz0 hz1 hz2 rfl (by decide) ⟨g, 0, none⟩ n cap ys (by simpa using hown.1) (fun j u hj => hown.cells (g := g) (by simp [Value.ownBlock]) j u hj) ⟨s, 0, none⟩ 1 1 [x] rfl hnews (by omega) (by unfold maxLen; omega) (by omega)
      exact ⟨v', w', r1, mono _ _ _ _ r2, ⟨r3.os, r3.tape, r3.output, r3.size, fun k hk _ => r3.block k hk (by simp)⟩, .inr (newb _ _ n _ r2), fun u k zs hr _ => keep _ r3 u k zs hr⟩

/-- One Nat appended to a row of Nats. -/
theorem append_nat (w : World) (lo : Nat) (v : Value) (n : Nat) (vs : List Value) (x : Value) (s : Nat) (ty : TypeId) (hown : w.ownsRow lo 23 1 v n vs) (hx : w.cell? ⟨s, 0, none⟩ = some x) (h1 : x.oneCell' = true)
    (hbig : n + 1 ≤ 1000000) (hlo : lo ≤ w.heap.size) :
    ∃ g cap w', (Builtin.append_ #[32, 32] ty #[v, .slice (some ⟨s, 0, none⟩) 1 1]).run Tryd.prog w = .ok (.slice (some ⟨g, 0, none⟩) (n + 1) cap) w' ∧ w'.ownsRow lo 23 1 (.slice (some ⟨g, 0, none⟩) (n + 1) cap) (n + 1) (vs ++ [x]) ∧ w.grownBy w' v.ownBlock ∧ Keep w w' := by
  obtain ⟨i0, hi, hz0, hz1, hz2⟩ := info_parts Tryd.info23
  have hnews : ∀ j u, [x][j]? = some u → w.cell? ((⟨s, 0, none⟩ : Addr).add j) = some u := by
    intro j u hj
    match j, hj with
    | 0, hj => simp at hj; subst hj; simpa [Addr.add] using hx
  have h1' : ∀ u ∈ [x], u.oneCell' = true := by intro u hu; simp at hu; subst hu; exact h1
  obtain ⟨v', w', r1, r2, r3, _, _⟩ := run_append_own_at (P := Tryd.prog) w lo 32 ty 23 i0 (.slice none 0 0) 1 24 Tryd.underlying32 hi hz0 hz1 hz2 rfl (by decide) v n vs hown ⟨s, 0, none⟩ 1 1 [x] rfl hnews h1' (by unfold maxLen; omega) (by omega) hlo
  have hk : Keep w w' := by
    intro g cur te ht1 ht2 hg
    rw [r3.block g (Array.getElem?_eq_some_iff.1 hg).1]
    · exact hg
    · intro e
      rcases hown.2 with ⟨rfl, _⟩ | ⟨g2, cap2, cur2, rfl, _, hg2, _⟩
      · simp [Value.ownBlock] at e
      · simp [Value.ownBlock] at e
        subst e
        rw [hg] at hg2
        cases hg2
        exact ht1 rfl
  rcases r2.2 with ⟨_, h0⟩ | ⟨g, cap, cur, rfl, rest⟩
  · omega
  · exact ⟨g, cap, w', r1, r2, r3, hk⟩

/-- The law for the walk, of whatever slices. -/
theorem wpList_append_run2 {w : World} {ops : Array Oper} {rest : List Oper} {o : Oper} {a : Act} {Q : Exit → Act → World → Prop} (hgd : o.guard = none) (s x : Operand) (t : TypeId)
    (ho : o.op = .call { callee := .builtin .append, args := #[s, x], argTypes := #[t, t] }) (v u : Value) (hs : a.eval s = v) (hx : a.eval x = u) (v' : Value) (w' : World)
    (hrun : (Builtin.append_ #[t, t] o.type #[v, u]).run Tryd.prog w = .ok v' w') (h : wpList Tryd.prog ops Q rest (a.put o.dst v') w') : wpList Tryd.prog ops Q (o :: rest) a w := by
  refine wpList_plain hgd fun K hK => ?_
  unfold Oper.wp
  simp [execOp, ho, resolve, invoke, builtin, hs, hx, hrun, Result.andThen]
  exact hK _ _ h

/-- A book of Nats at block h. -/
def Bk (lo : Nat) (w : World) (h : Nat) (vs : List Value) : Prop := lo ≤ h ∧ ∃ v, w.heap[h]? = some (.cells #[v] 34 (0, 0)) ∧ w.ownsRow lo 23 1 v vs.length vs

theorem Bk.made (lo : Nat) (w : World) (hlo : lo ≤ w.heap.size) : Bk lo (w.alloc (.cells #[.slice none 0 0] 34)) w.heap.size [] :=
  ⟨hlo, _, heap_alloc_new w _, World.ownsRow_nil _ _ _ _⟩

set_option maxHeartbeats 1000000 in
theorem take_any (lo h : Nat) (vs : List Value) (ao : Option Addr) (n cap : Nat) (w : World) (hB : Bk lo w h vs) (hlen : vs.length ≤ 1000) (hlo : lo ≤ w.heap.size) :
    Calls Tryd.prog 17 #[.pointer (some ⟨h, 0, none⟩), .slice ao n cap] w fun r w' => r = .returned (.tuple #[]) ∧ Bk lo w' h (vs ++ [.slice ao n cap]) ∧ Keep w w' ∧ Below lo w w' ∧ w.heap.size ≤ w'.heap.size := by
  obtain ⟨hlh, v, hv, hrow⟩ := hB
  have hhl := (Array.getElem?_eq_some_iff.1 hv).1
  have hc : w.cell? ⟨h, 0, none⟩ = some v := by simp [World.cell?, hv]
  have hrow1 : (w.alloc (.cells #[.slice ao n cap] 23)).ownsRow lo 23 1 v vs.length vs := hrow.alloc _
  obtain ⟨g, cap', w', hap, hown, hgrow, hkeep⟩ := append_nat (w.alloc (.cells #[.slice ao n cap] 23)) lo v vs.length vs (.slice ao n cap) w.heap.size 32 hrow1 (by unfold World.cell?; simp only [heap_alloc_new]; rfl) rfl (by omega) (by simp; omega)
  have hvh : v.ownBlock ≠ some h := by
    intro e
    rcases hrow.2 with ⟨rfl, _⟩ | ⟨g2, cap2, cur2, rfl, _, hg2, _⟩
    · simp [Value.ownBlock] at e
    · simp [Value.ownBlock] at e
      subst e
      rw [hv] at hg2
      cases hg2
  have hh' : w'.heap[h]? = some (.cells #[v] 34 (0, 0)) := by
    rw [hgrow.block h (by simp; omega) (fun e => hvh e.symm), Below.heap_alloc _ _ _ hhl]; exact hv
  have hf' : w'.frozen? ⟨h, 0, none⟩ = false := by simp [World.frozen?, hh']
  have hc' : w'.cell? ⟨h, 0, none⟩ = some v := by simp [World.cell?, hh']
  have hgh : g ≠ h := by
    intro e
    subst e
    rcases hown.2 with ⟨e, _⟩ | ⟨g2, cap2, cur2, e, _, hg2, _⟩
    · cases e
    · cases e
      rw [hh'] at hg2
      cases hg2
  have hbel : Below lo w w' := ((Below.refl lo w).alloc hlo _).grown hgrow (by simp; omega) (fun k hk => by
    rcases hrow.2 with ⟨rfl, _⟩ | ⟨g2, cap2, cur2, rfl, hl2, _⟩
    · simp [Value.ownBlock] at hk
    · simp [Value.ownBlock] at hk; omega)
  have hsz : w.heap.size ≤ w'.heap.size := by have := hgrow.size; simp at this; omega
  have HX := (Aside.intro (And.intro hown (And.intro hkeep (And.intro hh' (And.intro hgh (And.intro hbel (And.intro hlh hsz)))))))
  clear hown hkeep hh' hgh hbel hlh hsz hgrow hvh hrow1 hrow hv hhl
  have HAP := hid hap
  clear hap
  go_enter Tryd.func17, Tryd.ntmps17
  go_wp2_with (at_builtin; refine wpList_append_run2 rfl (.tmp 8) (.tmp 10) 32 rfl _ _ rfl rfl _ _ HAP.out ?_)
  go_end0
  obtain ⟨hown, hkeep, hh', hgh, hbel, hlh, hsz⟩ := HX.out
  refine ⟨rfl, ⟨hlh, .slice (some ⟨g, 0, none⟩) (vs.length + 1) cap', ?_, ?_⟩, ?_, ?_, by simpa [World.setCell] using hsz⟩
  · simp only [World.setCell, Array.getElem?_modify, hh']
    simp
  · have h1 := row_setOther hown ⟨h, 0, none⟩ (.slice (some ⟨g, 0, none⟩) (vs.length + 1) cap') (by simp [Value.ownBlock]; exact hgh)
    simpa using h1
  · intro b cur te ht1 ht2 hb
    have h1 : (w.alloc (.cells #[.slice ao n cap] 23)).heap[b]? = some (.cells cur te (0, 0)) := by rw [Below.heap_alloc _ _ _ (Array.getElem?_eq_some_iff.1 hb).1]; exact hb
    have h2 := hkeep b cur te ht1 ht2 h1
    rw [Below.heap_setCell _ _ _ _ (fun e => by
      subst e
      rw [hh'] at h2
      cases h2
      exact ht2 rfl)]
    exact h2
  · exact hbel.trans ⟨rfl, rfl, rfl, by simp [World.setCell], fun k hk => Below.heap_setCell _ _ _ _ (by simp; omega)⟩
end Go.Proofs.YtonhahbmdekkdaaDoor
