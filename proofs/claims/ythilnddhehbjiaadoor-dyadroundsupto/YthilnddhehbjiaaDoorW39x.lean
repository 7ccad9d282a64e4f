import Derived.Test.YthilnddhehbjiaaDoorW17x
import Derived.BigQuiet
import Derived.ArgAppend
import Derived.Maps.AppendAt
import Derived.WalkMore
/- The document's Lent, AsLent. -/
namespace Go.Proofs.YthilnddhehbjiaaDoor
open Go.RowKit
set_option linter.unusedVariables false
set_option maxRecDepth 20000

theorem But.drewN {g : Nat} {a w : World} (h : But g a w) (n : Nat) : But g a (w.drewN n) := ⟨h.os, h.tape, h.output, h.size, h.block⟩

theorem lent_zeros (xs : List Nat) (n : Nat) (hn : n = xs.length) : xs ++ (List.replicate (n + 2) 0).drop n = xs ++ [0, 0] := by
  rw [List.drop_replicate, show n + 2 - n = 2 by omega]; rfl

theorem lent_marks (xs : List Nat) (n : Nat) (hn : n = xs.length) : ((xs ++ [0, 0]).set n 71).set (n + 1) 72 = xs ++ [71, 72] := by
  subst hn
  simp

set_option maxHeartbeats 1000000 in
theorem lent_any (xs : List Nat) (ao : Option Addr) (n cap B : Nat) (w : World) (hn : n = xs.length) (hc : n ≤ cap) (hm : n ≤ 35184372087808) (hR : Rd B w ao xs) (hB : B ≤ w.heap.size) :
    Calls Tryd.prog 10 #[.slice ao n cap] w fun r w' => r = .returned (.slice (some ⟨w.heap.size, 0, none⟩) n (n + 2)) ∧ Own w' w.heap.size (xs ++ [71, 72]) ∧ Below w.heap.size w w' := by
  have hmk := make_words ((n + 2 : Nat) : Int) (n + 2) rfl (by omega)
  have hmk2 := make_words ((n : Int) + 2) (n + 2) (by omega) (by omega)
  have HO2 : Hid (Own (w.alloc (.cells (madeCells #[.int .u32 0] (n + 2)) 61)) w.heap.size (List.replicate (n + 2) 0)) := Own.made w (n + 2)
  obtain ⟨w2, hcp, hO2, hbut⟩ := copy_words _ w.heap.size (n + 2) (n + 2) ao n cap B 3 (List.replicate (n + 2) 0) xs HO2.out (by simp) hn (hR.below ((Below.refl _ _).alloc hB _)) (by omega)
  rw [lent_zeros xs n hn] at hO2
  have hg1 := hO2.frozen n
  have hg2 := hO2.frozen (n + 1)
  have hc1 := hO2.cell n (by simp; omega)
  have hc2 := hO2.cell (n + 1) (by simp; omega)
  have HX := (Aside.intro (And.intro hO2 (And.intro hbut hn)))
  clear hO2 hbut HO2 hn hR
  go_enter Tryd.func10, Tryd.ntmps10
  go_wp2
  go_ret
  obtain ⟨hO2, hbut, hn⟩ := HX.out
  refine ⟨rfl, ?_, ?_⟩
  · have h1 := (hO2.set n 71).set (n + 1) 72
    rw [lent_marks xs n hn] at h1
    exact h1
  · exact But.below ((Below.refl _ _).alloc (Nat.le_refl _) _) ((hbut.set _ _).set _ _) (by simp) (Nat.le_refl _)

set_option maxHeartbeats 2000000 in
theorem asLent_any (xs : List Nat) (ao : Option Addr) (n cap B g : Nat) (w : World) (hn : n = xs.length) (hc : n ≤ cap) (hm : n ≤ 35184372087808) (hx : Wf xs) (hR : Rd B w ao xs) (hB : B ≤ g) (hO : Own w g (xs ++ [71, 72])) :
    Calls Tryd.prog 12 #[.slice (some ⟨g, 0, none⟩) n (n + 2), .slice ao n cap] w fun r w' => r = .returned (.bool true) ∧ But g w w' := by
  have hgl := hO.lt
  have hc1 := hO.cell n (by simp; omega)
  have hc2 := hO.cell (n + 1) (by simp; omega)
  have e1 : (xs ++ [71, 72]).getD n 0 = 71 := by subst hn; simp
  have e2 : (xs ++ [71, 72]).getD (n + 1) 0 = 72 := by subst hn; simp
  rw [e1] at hc1
  rw [e2] at hc2
  have HX := (Aside.intro (And.intro hR (And.intro hO (And.intro hn (And.intro hB (And.intro hgl hx))))))
  clear hR hO hn hB e1 e2 hgl hx
  go_enter Tryd.func12, Tryd.ntmps12
  go_wp2
  go_loopg [6, 7] (n + 2) (fun gk gv iv wr => ∃ (k : Nat) (M : List Nat), gk + k = n + 2 ∧ gv = .bool true ∧ iv = .int .i64 (k : Nat) ∧ Hid (Own wr g M) ∧
      Aside (M.length = n + 2 ∧ (∀ j, k ≤ j → M.getD j 0 = (xs ++ [71, 72]).getD j 0) ∧ But g w wr))
  case atStart =>
    obtain ⟨hR, hO, hn, hB, hgl, hx⟩ := HX.out
    exact ⟨0, xs ++ [71, 72], by omega, rfl, rfl, hO, by simp; omega, fun _ _ => rfl, But.refl _ _⟩
  case round =>
    obtain ⟨k, M, hk, rfl, rfl, HM, HA⟩ := hrel
    by_cases hk2 : k = n + 2
    · obtain rfl : gk = 0 := by omega
      subst hk2
      go_wp2
      go_ret
      exact ⟨rfl, HA.out.2.2⟩
    · obtain ⟨hl, hM, hbut⟩ := HA.out
      have hgc := HM.out.cell k (by omega)
      have hgf := HM.out.frozen k
      have hklt : k < n + 2 := by omega
      by_cases hkn : k < n
      · obtain ⟨hR, hO, hn, hB, hgl, hx⟩ := HX.out
        obtain ⟨b, off, hlt, rfl, hcell⟩ := (hR.but hbut (by omega) hB) (by intro e; subst e; simp at hn; omega)
        have hxc := hcell k (by omega)
        have e3 : M.getD k 0 = xs.getD k 0 := by
          rw [hM k (Nat.le_refl _)]
          simp [List.getD_eq_getElem?_getD, List.getElem?_append_left (show k < xs.length by omega)]
        rw [e3] at hgc
        obtain ⟨x, hx1⟩ : ∃ x, xs.getD k 0 = x := ⟨_, rfl⟩
        rw [hx1] at hgc hxc
        have hd : decide ((n : Int) ≤ (k : Int)) = false := decide_eq_false (by omega)
        clear hl hM hbut hR hO hn hB hgl hcell e3 hx1 hx
        go_wp2
        go_quiet (fail)
        go_wp2
        go_roundg (gk - 1)
        case measure => omega
        case rel =>
          obtain ⟨hl, hM, hbut⟩ := HA.out
          refine ⟨k + 1, M.set k 83, by omega, by first | rfl | simp, by first | go_num | (congr 1; omega), (HM.out.set k 83).drew, by simp [hl], fun j hj => ?_, ((But.drewN hbut _).set k _)⟩
          rw [getD_set_ne _ _ _ _ (by omega)]
          exact hM j (by omega)
      · have hd : decide ((n : Int) ≤ (k : Int)) = true := decide_eq_true (by omega)
        clear hl hM hbut
        go_wp2
        go_quiet (fail)
        go_wp2
        go_roundg (gk - 1)
        case measure => omega
        case rel =>
          obtain ⟨hl, hM, hbut⟩ := HA.out
          refine ⟨k + 1, M.set k 83, by omega, by first | rfl | simp, by first | go_num | (congr 1; omega), (HM.out.set k 83).drew, by simp [hl], fun j hj => ?_, ((But.drewN hbut _).set k _)⟩
          rw [getD_set_ne _ _ _ _ (by omega)]
          exact hM j (by omega)
end Go.Proofs.YthilnddhehbjiaaDoor

/- Rows of words that are kept in a book: what is appended, what stays; the document's Take. -/
namespace Go.Proofs.YthilnddhehbjiaaDoor
open Go.RowKit
set_option linter.unusedVariables false
set_option maxRecDepth 20000

/-- A row of words. -/
abbrev Rw (lo : Nat) (w : World) (v : Value) (n : Nat) (ys : List Value) : Prop := w.ownsRow lo 61 1 v n ys

/-- All rows of words are as they were. -/
def Keep (w w' : World) : Prop := ∀ (g : Nat) (cur : Array Value) (e : TypeId), e ≠ 23 → e ≠ 34 → w.heap[g]? = some (.cells cur e (0, 0)) → w'.heap[g]? = some (.cells cur e (0, 0))

theorem Keep.refl (w : World) : Keep w w := fun _ _ _ _ _ h => h
theorem Keep.trans {a b c : World} (h : Keep a b) (k : Keep b c) : Keep a c := fun g cur t h1 h2 e => k g cur t h1 h2 (h g cur t h1 h2 e)
theorem Keep.row {w w' : World} {lo : Nat} {v : Value} {n : Nat} {ys : List Value} (h : Rw lo w v n ys) (k : Keep w w') : Rw lo w' v n ys := by
  refine ⟨h.1, ?_⟩
  rcases h.2 with hn | ⟨g, cap, cur, rfl, hlo, hg, rest⟩
  · exact .inl hn
  · exact .inr ⟨g, cap, cur, rfl, hlo, k _ _ _ (by decide) (by decide) hg, rest⟩
theorem Keep.below {w w' : World} (h : Below w.heap.size w w') : Keep w w' := fun g cur _ _ _ e => by rw [h.block g (Array.getElem?_eq_some_iff.1 e).1]; exact e

theorem Tryd.info23 : (Tryd.prog.info? 23).map (fun i => (i.zero, i.size, i.bytes)) = some (some (.slice none 0 0), 1, 24) := by kernel_rfl

theorem row_other {w w' : World} {lo e s : Nat} {v : Value} {n : Nat} {ys : List Value} (h : w.ownsRow lo e s v n ys) (hb : ∀ g, v.ownBlock = some g → w'.heap[g]? = w.heap[g]?) : w'.ownsRow lo e s v n ys := by
  refine ⟨h.1, ?_⟩
  rcases h.2 with hn | ⟨g, cap, cur, rfl, hlo, hg, rest⟩
  · exact .inl hn
  · refine .inr ⟨g, cap, cur, rfl, hlo, ?_, rest⟩
    rw [hb g rfl]; exact hg

theorem row_set {w : World} {lo g n cap : Nat} {ys : List Value} (h : Rw lo w (.slice (some ⟨g, 0, none⟩) n cap) n ys) (k : Nat) (hk : k < n) (u : Value) :
    Rw lo (w.setCell ⟨g, k, none⟩ u) (.slice (some ⟨g, 0, none⟩) n cap) n (ys.set k u) := by
  refine ⟨by simpa using h.1, ?_⟩
  rcases h.2 with ⟨e, hn⟩ | ⟨g', cap', cur, e, hlo, hg, hnc, hm, hs, ht⟩
  · omega
  · cases e
    refine .inr ⟨g, cap, cur.set! k u, rfl, hlo, ?_, hnc, hm, by simpa using hs, ?_⟩
    · simp only [World.setCell, Array.getElem?_modify, hg]
      simp
    · rw [← ht]
      simp [List.take_set]

theorem row_setOther {w : World} {lo e s : Nat} {v : Value} {n : Nat} {ys : List Value} (h : w.ownsRow lo e s v n ys) (a : Addr) (u : Value) (ha : v.ownBlock ≠ some a.block) : (w.setCell a u).ownsRow lo e s v n ys :=
  row_other h fun g hg => Below.heap_setCell _ _ _ _ (fun e => ha (by rw [hg, e]))

/-- One word appended to a row of words: what else there is, and what is shorter in the same row, stays. -/
theorem append_word (w : World) (lo : Nat) (v : Value) (n : Nat) (ys : List Value) (x : Value) (s : Nat) (ty : TypeId) (hown : Rw lo w v n ys) (hx : w.cell? ⟨s, 0, none⟩ = some x) (h1 : x.oneCell' = true)
    (hbig : n + 1 ≤ 35184372088832) (hlo : lo ≤ w.heap.size) :
    ∃ v' w', (Builtin.append_ #[23, 23] ty #[v, .slice (some ⟨s, 0, none⟩) 1 1]).run Tryd.prog w = .ok v' w' ∧ Rw lo w' v' (n + 1) (ys ++ [x]) ∧ w.grownBy w' v.ownBlock ∧
      (v'.ownBlock = v.ownBlock ∨ ∃ g, v'.ownBlock = some g ∧ w.heap.size ≤ g) ∧ (∀ (u : Value) (k : Nat) (zs : List Value), Rw lo w u k zs → (u.ownBlock = v.ownBlock → k ≤ n) → Rw lo w' u k zs) := by
  obtain ⟨i0, hi, hz0, hz1, hz2⟩ := info_parts Tryd.info61
  have hnews : ∀ j u, [x][j]? = some u → w.cell? ((⟨s, 0, none⟩ : Addr).add j) = some u := by
    intro j u hj
    match j, hj with
    | 0, hj => simp at hj; subst hj; simpa [Addr.add] using hx
  have h1' : ∀ u ∈ [x], u.oneCell' = true := by intro u hu; simp at hu; subst hu; exact h1
  have keep : ∀ w', w.grownBy w' none → ∀ (u : Value) (k : Nat) (zs : List Value), Rw lo w u k zs → Rw lo w' u k zs := by
    intro w' hg u k zs hr
    rcases hr.2 with hn | ⟨g, cap, cur, rfl, hl, hgb, rest⟩
    · exact ⟨hr.1, .inl hn⟩
    · refine ⟨hr.1, .inr ⟨g, cap, cur, rfl, hl, ?_, rest⟩⟩
      rw [hg.block g (Array.getElem?_eq_some_iff.1 hgb).1 (by simp)]; exact hgb
  have newb : ∀ (v' : Value) (w' : World) (m : Nat) (zs : List Value), w'.ownsRow w.heap.size 61 1 v' (m + 1) zs → ∃ g, v'.ownBlock = some g ∧ w.heap.size ≤ g := by
    intro v' w' m zs h
    rcases h.2 with ⟨_, h0⟩ | ⟨g, cap, cur, rfl, hl, _⟩
    · omega
    · exact ⟨g, rfl, hl⟩
  have mono : ∀ (v' : Value) (w' : World) (m : Nat) (zs : List Value), w'.ownsRow w.heap.size 61 1 v' m zs → Rw lo w' v' m zs := by
    intro v' w' m zs h
    refine ⟨h.1, ?_⟩
    rcases h.2 with hn | ⟨g, cap, cur, rfl, hl, rest⟩
    · exact .inl hn
    · exact .inr ⟨g, cap, cur, rfl, by omega, rest⟩
  rcases hown.2 with ⟨rfl, rfl⟩ | ⟨g, cap, cur, rfl, hlg, hg, hnc, hm, hs, ht⟩
  · obtain ⟨v', w', r1, r2, r3, _, _⟩ := run_append_own_at (P := Tryd.prog) w w.heap.size 23 ty 61 i0 (.int .u32 0) 1 4 Tryd.underlying23 hi hz0 hz1 hz2 rfl (by decide) (.slice none 0 0) 0 [] (World.ownsRow_nil _ _ _ _) ⟨s, 0, none⟩ 1 1 [x] rfl hnews h1' (by unfold maxLen; omega) (by omega) (Nat.le_refl _)
    have hy : ys = [] := List.eq_nil_of_length_eq_zero (by simpa using hown.1)
    subst hy
    exact ⟨v', w', r1, mono _ _ _ _ (by simpa using r2), r3, .inr (newb _ _ 0 _ (by simpa using r2)), fun u k zs hr _ => keep _ r3 u k zs hr⟩
  · by_cases hroom : n + 1 ≤ cap
    · have hr := run_append_room (P := Tryd.prog) w 23 ty 61 i0 Tryd.underlying23 hi g n cap cur hg ⟨s, 0, none⟩ 1 1 [x] (by rw [hz1]; rfl) hnews h1' hroom (by rw [hz1, hs]; simp; omega)
      rw [hz1] at hr
      refine ⟨_, _, hr, ⟨by simpa using hown.1, .inr ⟨g, cap, _, rfl, hlg, setRow_heap w g cur _ 61 _ hg, hroom, hm, ?_, ?_⟩⟩, ⟨rfl, rfl, rfl, by simp, fun k _ hk => setRow_other w g k _ (fun e => hk (by simp [Value.ownBlock, e]))⟩, .inl rfl, ?_⟩
      · simp only [List.size_toArray, List.length_append, List.length_take, List.length_drop, Array.length_toList, List.length_cons, List.length_nil]
        omega
      · rw [ht]
        have hyl : ys.length = n := by simpa using hown.1
        simp only [Nat.mul_one, List.append_assoc]
        rw [← List.append_assoc]
        rw [List.take_append_of_le_length (by simp [hyl])]
        rw [List.take_of_length_le (by simp [hyl])]
      · intro u k zs hr2 hle
        rcases hr2.2 with hn | ⟨g2, cap2, cur2, rfl, hl2, hg2, hnc2, hm2, hs2, ht2⟩
        · exact ⟨hr2.1, .inl hn⟩
        · by_cases he : g2 = g
          · subst he
            rw [hg] at hg2
            cases hg2
            have hk := hle rfl
            refine ⟨hr2.1, .inr ⟨g2, cap2, _, rfl, hl2, setRow_heap w g2 cur _ 61 _ hg, hnc2, hm2, ?_, ?_⟩⟩
            · simp only [List.size_toArray, List.length_append, List.length_take, List.length_drop, Array.length_toList, List.length_cons, List.length_nil]
              omega
            · have hcl : cur.toList.length = cap2 := by simpa using hs2
              rw [← ht2]
              simp only [Nat.mul_one, List.append_assoc]
              rw [List.take_append_of_le_length (by rw [List.length_take]; omega), List.take_take, Nat.min_eq_left hk]
          · refine ⟨hr2.1, .inr ⟨g2, cap2, cur2, rfl, hl2, ?_, hnc2, hm2, hs2, ht2⟩⟩
            rw [setRow_other w g g2 _ he]; exact hg2
    · obtain ⟨v', w', r1, r2, r3⟩ := run_append_arg_grows (P := Tryd.prog) w 23 ty 61 i0 (.int .u32 0) 1 4 Tryd.underlying23 hi hz0 hz1 hz2 rfl (by decide) ⟨g, 0, none⟩ n cap ys (by simpa using hown.1) (fun j u hj => hown.cells (g := g) (by simp [Value.ownBlock]) j u hj) ⟨s, 0, none⟩ 1 1 [x] rfl hnews (by omega) (by unfold maxLen; omega) (by omega)
      exact ⟨v', w', r1, mono _ _ _ _ r2, ⟨r3.os, r3.tape, r3.output, r3.size, fun k hk _ => r3.block k hk (by simp)⟩, .inr (newb _ _ n _ r2), fun u k zs hr _ => keep _ r3 u k zs hr⟩

/-- One Nat appended to a row of Nats. -/
theorem append_nat (w : World) (lo : Nat) (v : Value) (n : Nat) (vs : List Value) (x : Value) (s : Nat) (ty : TypeId) (hown : w.ownsRow lo 23 1 v n vs) (hx : w.cell? ⟨s, 0, none⟩ = some x) (h1 : x.oneCell' = true)
    (hbig : n + 1 ≤ 1000000) (hlo : lo ≤ w.heap.size) :
    ∃ g cap w', (Builtin.append_ #[32, 32] ty #[v, .slice (some ⟨s, 0, none⟩) 1 1]).run Tryd.prog w = .ok (.slice (some ⟨g, 0, none⟩) (n + 1) cap) w' ∧ w'.ownsRow lo 23 1 (.slice (some ⟨g, 0, none⟩) (n + 1) cap) (n + 1) (vs ++ [x]) ∧ w.grownBy w' v.ownBlock ∧ Keep w w' := by
  obtain ⟨i0, hi, hz0, hz1, hz2⟩ := info_parts Tryd.info23
  have hnews : ∀ j u, [x][j]? = some u → w.cell? ((⟨s, 0, none⟩ : Addr).add j) = some u := by
    intro j u hj
    match j, hj with
    | 0, hj => simp at hj; subst hj; simpa [Addr.add] using hx
  have h1' : ∀ u ∈ [x], u.oneCell' = true := by intro u hu; simp at hu; subst hu; exact h1
  obtain ⟨v', w', r1, r2, r3, _, _⟩ := run_append_own_at (P := Tryd.prog) w lo 32 ty 23 i0 (.slice none 0 0) 1 24 Tryd.underlying32 hi hz0 hz1 hz2 rfl (by decide) v n vs hown ⟨s, 0, none⟩ 1 1 [x] rfl hnews h1' (by unfold maxLen; omega) (by omega) hlo
  have hk : Keep w w' := by
    intro g cur te ht1 ht2 hg
    rw [r3.block g (Array.getElem?_eq_some_iff.1 hg).1]
    · exact hg
    · intro e
      rcases hown.2 with ⟨rfl, _⟩ | ⟨g2, cap2, cur2, rfl, _, hg2, _⟩
      · simp [Value.ownBlock] at e
      · simp [Value.ownBlock] at e
        subst e
        rw [hg] at hg2
        cases hg2
        exact ht1 rfl
  rcases r2.2 with ⟨_, h0⟩ | ⟨g, cap, cur, rfl, rest⟩
  · omega
  · exact ⟨g, cap, w', r1, r2, r3, hk⟩

/-- The law for the walk, of whatever slices. -/
theorem wpList_append_run2 {w : World} {ops : Array Oper} {rest : List Oper} {o : Oper} {a : Act} {Q : Exit → Act → World → Prop} (hgd : o.guard = none) (s x : Operand) (t : TypeId)
    (ho : o.op = .call { callee := .builtin .append, args := #[s, x], argTypes := #[t, t] }) (v u : Value) (hs : a.eval s = v) (hx : a.eval x = u) (v' : Value) (w' : World)
    (hrun : (Builtin.append_ #[t, t] o.type #[v, u]).run Tryd.prog w = .ok v' w') (h : wpList Tryd.prog ops Q rest (a.put o.dst v') w') : wpList Tryd.prog ops Q (o :: rest) a w := by
  refine wpList_plain hgd fun K hK => ?_
  unfold Oper.wp
  simp [execOp, ho, resolve, invoke, builtin, hs, hx, hrun, Result.andThen]
  exact hK _ _ h

/-- A book of Nats at block h. -/
def Bk (lo : Nat) (w : World) (h : Nat) (vs : List Value) : Prop := lo ≤ h ∧ ∃ v, w.heap[h]? = some (.cells #[v] 34 (0, 0)) ∧ w.ownsRow lo 23 1 v vs.length vs

theorem Bk.made (lo : Nat) (w : World) (hlo : lo ≤ w.heap.size) : Bk lo (w.alloc (.cells #[.slice none 0 0] 34)) w.heap.size [] :=
  ⟨hlo, _, heap_alloc_new w _, World.ownsRow_nil _ _ _ _⟩

set_option maxHeartbeats 1000000 in
theorem take_any (lo h : Nat) (vs : List Value) (ao : Option Addr) (n cap : Nat) (w : World) (hB : Bk lo w h vs) (hlen : vs.length ≤ 1000) (hlo : lo ≤ w.heap.size) :
    Calls Tryd.prog 17 #[.pointer (some ⟨h, 0, none⟩), .slice ao n cap] w fun r w' => r = .returned (.tuple #[]) ∧ Bk lo w' h (vs ++ [.slice ao n cap]) ∧ Keep w w' ∧ Below lo w w' ∧ w.heap.size ≤ w'.heap.size := by
  obtain ⟨hlh, v, hv, hrow⟩ := hB
  have hhl := (Array.getElem?_eq_some_iff.1 hv).1
  have hc : w.cell? ⟨h, 0, none⟩ = some v := by simp [World.cell?, hv]
  have hrow1 : (w.alloc (.cells #[.slice ao n cap] 23)).ownsRow lo 23 1 v vs.length vs := hrow.alloc _
  obtain ⟨g, cap', w', hap, hown, hgrow, hkeep⟩ := append_nat (w.alloc (.cells #[.slice ao n cap] 23)) lo v vs.length vs (.slice ao n cap) w.heap.size 32 hrow1 (by unfold World.cell?; simp only [heap_alloc_new]; rfl) rfl (by omega) (by simp; omega)
  have hvh : v.ownBlock ≠ some h := by
    intro e
    rcases hrow.2 with ⟨rfl, _⟩ | ⟨g2, cap2, cur2, rfl, _, hg2, _⟩
    · simp [Value.ownBlock] at e
    · simp [Value.ownBlock] at e
      subst e
      rw [hv] at hg2
      cases hg2
  have hh' : w'.heap[h]? = some (.cells #[v] 34 (0, 0)) := by
    rw [hgrow.block h (by simp; omega) (fun e => hvh e.symm), Below.heap_alloc _ _ _ hhl]; exact hv
  have hf' : w'.frozen? ⟨h, 0, none⟩ = false := by simp [World.frozen?, hh']
  have hc' : w'.cell? ⟨h, 0, none⟩ = some v := by simp [World.cell?, hh']
  have hgh : g ≠ h := by
    intro e
    subst e
    rcases hown.2 with ⟨e, _⟩ | ⟨g2, cap2, cur2, e, _, hg2, _⟩
    · cases e
    · cases e
      rw [hh'] at hg2
      cases hg2
  have hbel : Below lo w w' := ((Below.refl lo w).alloc hlo _).grown hgrow (by simp; omega) (fun k hk => by
    rcases hrow.2 with ⟨rfl, _⟩ | ⟨g2, cap2, cur2, rfl, hl2, _⟩
    · simp [Value.ownBlock] at hk
    · simp [Value.ownBlock] at hk; omega)
  have hsz : w.heap.size ≤ w'.heap.size := by have := hgrow.size; simp at this; omega
  have HX := (Aside.intro (And.intro hown (And.intro hkeep (And.intro hh' (And.intro hgh (And.intro hbel (And.intro hlh hsz)))))))
  clear hown hkeep hh' hgh hbel hlh hsz hgrow hvh hrow1 hrow hv hhl
  have HAP := hid hap
  clear hap
  go_enter Tryd.func17, Tryd.ntmps17
  go_wp2_with (at_builtin; refine wpList_append_run2 rfl (.tmp 8) (.tmp 10) 32 rfl _ _ rfl rfl _ _ HAP.out ?_)
  go_end0
  obtain ⟨hown, hkeep, hh', hgh, hbel, hlh, hsz⟩ := HX.out
  refine ⟨rfl, ⟨hlh, .slice (some ⟨g, 0, none⟩) (vs.length + 1) cap', ?_, ?_⟩, ?_, ?_, by simpa [World.setCell] using hsz⟩
  · simp only [World.setCell, Array.getElem?_modify, hh']
    simp
  · have h1 := row_setOther hown ⟨h, 0, none⟩ (.slice (some ⟨g, 0, none⟩) (vs.length + 1) cap') (by simp [Value.ownBlock]; exact hgh)
    simpa using h1
  · intro b cur te ht1 ht2 hb
    have h1 : (w.alloc (.cells #[.slice ao n cap] 23)).heap[b]? = some (.cells cur te (0, 0)) := by rw [Below.heap_alloc _ _ _ (Array.getElem?_eq_some_iff.1 hb).1]; exact hb
    have h2 := hkeep b cur te ht1 ht2 h1
    rw [Below.heap_setCell _ _ _ _ (fun e => by
      subst e
      rw [hh'] at h2
      cases h2
      exact ht2 rfl)]
    exact h2
  · exact hbel.trans ⟨rfl, rfl, rfl, by simp [World.setCell], fun k hk => Below.heap_setCell _ _ _ _ (by simp; omega)⟩
end Go.Proofs.YthilnddhehbjiaaDoor

/- What Owned keeps to, phase by phase. -/
namespace Go.Proofs.YthilnddhehbjiaaDoor
open Go.RowKit
set_option linter.unusedVariables false
set_option maxRecDepth 20000

def slen : Value → Nat
  | .slice _ n _ => n
  | _ => 0
def nth (vs : List Value) (i : Nat) : Value := vs.getD i (.slice none 0 0)

theorem Rw.len {lo : Nat} {w : World} {v : Value} {n : Nat} {ys : List Value} (h : Rw lo w v n ys) : slen v = n := by
  rcases h.2 with ⟨rfl, h0⟩ | ⟨g, cap, cur, rfl, _⟩
  · exact h0.symm
  · rfl

theorem Rw.lt {lo : Nat} {w : World} {v : Value} {n : Nat} {ys : List Value} (h : Rw lo w v n ys) (b : Nat) (hb : v.ownBlock = some b) : lo ≤ b ∧ b < w.heap.size ∧ ∃ cur, w.heap[b]? = some (.cells cur 61 (0, 0)) := by
  rcases h.2 with ⟨rfl, h0⟩ | ⟨g, cap, cur, rfl, hlo, hg, _⟩
  · cases hb
  · cases hb
    exact ⟨hlo, (Array.getElem?_eq_some_iff.1 hg).1, cur, hg⟩

theorem Rw.noneLen {lo : Nat} {w : World} {v : Value} {n : Nat} {ys : List Value} (h : Rw lo w v n ys) (hb : v.ownBlock = none) : n = 0 := by
  rcases h.2 with ⟨rfl, h0⟩ | ⟨g, cap, cur, rfl, _⟩
  · exact h0
  · cases hb

theorem Rw.alloc' {lo e : Nat} {w : World} {v : Value} {n : Nat} {ys : List Value} (h : w.ownsRow lo e 1 v n ys) (o : Obj) : (w.alloc o).ownsRow lo e 1 v n ys := h.alloc o

theorem Rw.mono' {lo lo' e : Nat} {w : World} {v : Value} {n : Nat} {ys : List Value} (h : w.ownsRow lo e 1 v n ys) (hl : lo' ≤ lo) : w.ownsRow lo' e 1 v n ys := by
  refine ⟨h.1, ?_⟩
  rcases h.2 with hn | ⟨g, cap, cur, rfl, hlo, rest⟩
  · exact .inl hn
  · exact .inr ⟨g, cap, cur, rfl, by omega, rest⟩

/-- Nats of one's own, in rows apart. -/
structure Nice (lo : Nat) (w : World) (vs : List Value) : Prop where
  rows : ∀ i, i < vs.length → ∃ ys, Rw lo w (nth vs i) (slen (nth vs i)) ys
  small : ∀ i, i < vs.length → slen (nth vs i) ≤ 35184372088000
  apart : ∀ i j, i < vs.length → j < vs.length → i ≠ j → ∀ b, (nth vs i).ownBlock = some b → (nth vs j).ownBlock ≠ some b

def mrk (i : Nat) : Value := .int .u32 (1000 + (i : Int))

/-- Phase 1: k words of Nat i are written, and all of the Nats ahead of it. -/
structure P1 (lo h : Nat) (v : Value) (vs : List Value) (w : World) (i k : Nat) (wr : World) : Prop where
  book : wr.heap[h]? = some (.cells #[v] 34 (0, 0))
  list : wr.ownsRow lo 23 1 v vs.length vs
  below : Below lo w wr
  size : wr.heap.size = w.heap.size
  rows : ∀ j, j < vs.length → ∃ ys, Rw lo wr (nth vs j) (slen (nth vs j)) ys ∧ (j < i → ys = List.replicate (slen (nth vs j)) (mrk j)) ∧ (j = i → ys.take k = List.replicate k (mrk i))

theorem P1.start {lo h : Nat} {v : Value} {vs : List Value} {w : World} (hv : w.heap[h]? = some (.cells #[v] 34 (0, 0))) (hl : w.ownsRow lo 23 1 v vs.length vs) (hN : Nice lo w vs) : P1 lo h v vs w 0 0 w :=
  ⟨hv, hl, Below.refl _ _, rfl, fun j hj => by
    obtain ⟨ys, hy⟩ := hN.rows j hj
    exact ⟨ys, hy, fun h => absurd h (by omega), fun _ => by simp⟩⟩

theorem P1.next {lo h : Nat} {v : Value} {vs : List Value} {w wr : World} {i : Nat} (H : P1 lo h v vs w i (slen (nth vs i)) wr) : P1 lo h v vs w (i + 1) 0 wr :=
  ⟨H.book, H.list, H.below, H.size, fun j hj => by
    obtain ⟨ys, hy, a, b⟩ := H.rows j hj
    refine ⟨ys, hy, fun h => ?_, fun _ => by simp⟩
    by_cases e : j = i
    · subst e
      have h1 := b rfl
      have hl : ys.length = slen (nth vs j) := by simpa using hy.1
      rwa [← hl, List.take_length, hl] at h1
    · exact a (by omega)⟩

theorem P1.step {lo h : Nat} {v : Value} {vs : List Value} {w wr : World} {i k g n cap : Nat} (H : P1 lo h v vs w i k wr) (hN : Nice lo w vs) (hi : i < vs.length) (hV : nth vs i = .slice (some ⟨g, 0, none⟩) n cap) (hk : k < n) :
    P1 lo h v vs w i (k + 1) (wr.setCell ⟨g, k, none⟩ (mrk i)) := by
  obtain ⟨ys0, hy0, _, _⟩ := H.rows i hi
  obtain ⟨hlg, _, cur, hcur⟩ := hy0.lt g (by rw [hV]; rfl)
  have hgh : h ≠ g := by intro e; subst e; rw [H.book] at hcur; cases hcur
  have hvg : v.ownBlock ≠ some g := by
    intro e
    rcases H.list.2 with ⟨rfl, _⟩ | ⟨g2, cap2, cur2, rfl, _, hg2, _⟩
    · cases e
    · cases e; rw [hcur] at hg2; cases hg2
  refine ⟨?_, row_setOther H.list _ _ hvg, H.below.trans ⟨rfl, rfl, rfl, by simp [World.setCell], fun b hb => Below.heap_setCell _ _ _ _ (by simp; omega)⟩, by simpa [World.setCell] using H.size, fun j hj => ?_⟩
  · rw [Below.heap_setCell _ _ _ _ hgh]; exact H.book
  · obtain ⟨ys, hy, a, b⟩ := H.rows j hj
    by_cases e : j = i
    · subst e
      rw [hV] at hy ⊢
      have h1 := row_set hy k hk (mrk j)
      have hl : ys.length = n := by simpa [slen] using hy.1
      refine ⟨ys.set k (mrk j), h1, fun h => absurd h (by omega), fun _ => ?_⟩
      rw [List.take_succ_eq_append_getElem (by simp; omega), List.take_set_of_le (Nat.le_refl _), b rfl, List.replicate_succ']
      simp
    · refine ⟨ys, row_setOther hy _ _ (fun e2 => hN.apart i j hi hj (fun e3 => e e3.symm) g (by rw [hV]; rfl) e2), a, fun h => absurd h e⟩

/-- Phase 2, ahead of Nat i: what stands in the list, and what is still to come. -/
structure P2 (lo h : Nat) (v : Value) (vs : List Value) (w : World) (i c d : Nat) (av : Value) (es : List Value) (x : Value) (wr : World) : Prop where
  book : wr.heap[h]? = some (.cells #[v] 34 (0, 0))
  list : wr.ownsRow lo 23 1 v vs.length vs
  below : Below lo w wr
  size : w.heap.size ≤ wr.heap.size
  all : wr.ownsRow w.heap.size 23 1 av es.length es
  len : es.length = 5 * i + d
  come : ∀ j, i < j → j < vs.length → Rw lo wr (nth vs j) (slen (nth vs j)) (List.replicate (slen (nth vs j)) (mrk j))
  old : ∀ j, j < es.length → Rw lo wr (nth es j) (slen (nth es j)) (List.replicate (slen (nth es j)) (mrk (j / 5)))
  row : Rw lo wr x (slen x) (List.replicate (slen x) (mrk i))
  more : slen x = slen (nth vs i) + c
  less : ∀ j, j < es.length → (nth es j).ownBlock = x.ownBlock → slen (nth es j) ≤ slen x
  off : ∀ j, i < j → j < vs.length → ∀ b, (nth vs j).ownBlock = some b → x.ownBlock ≠ some b ∧ ∀ k, k < es.length → (nth es k).ownBlock ≠ some b

/-- Between two Nats. -/
structure P2o (lo h : Nat) (v : Value) (vs : List Value) (w : World) (i : Nat) (av : Value) (es : List Value) (wr : World) : Prop where
  book : wr.heap[h]? = some (.cells #[v] 34 (0, 0))
  list : wr.ownsRow lo 23 1 v vs.length vs
  below : Below lo w wr
  size : w.heap.size ≤ wr.heap.size
  all : wr.ownsRow w.heap.size 23 1 av es.length es
  len : es.length = 5 * i
  come : ∀ j, i ≤ j → j < vs.length → Rw lo wr (nth vs j) (slen (nth vs j)) (List.replicate (slen (nth vs j)) (mrk j))
  old : ∀ j, j < es.length → Rw lo wr (nth es j) (slen (nth es j)) (List.replicate (slen (nth es j)) (mrk (j / 5)))
  off : ∀ j, i ≤ j → j < vs.length → ∀ b, (nth vs j).ownBlock = some b → ∀ k, k < es.length → (nth es k).ownBlock ≠ some b

theorem P2o.start {lo h : Nat} {v : Value} {vs : List Value} {w wr : World} (H : P1 lo h v vs w vs.length 0 wr) : P2o lo h v vs w 0 (.slice none 0 0) [] wr :=
  ⟨H.book, H.list, H.below, by rw [H.size]; exact Nat.le_refl _, World.ownsRow_nil _ _ _ _, rfl, fun j _ hj => by
    obtain ⟨ys, hy, a, _⟩ := H.rows j hj
    rw [← a hj]; exact hy, fun j hj => absurd hj (by simp), fun _ _ _ _ _ k hk => absurd hk (by simp)⟩

theorem P2o.enter {lo h : Nat} {v : Value} {vs : List Value} {w wr : World} {i : Nat} {av : Value} {es : List Value} (H : P2o lo h v vs w i av es wr) (hN : Nice lo w vs) (hi : i < vs.length) :
    P2 lo h v vs w i 0 0 av es (nth vs i) wr :=
  ⟨H.book, H.list, H.below, H.size, H.all, H.len, fun j h1 h2 => H.come j (by omega) h2, H.old, H.come i (Nat.le_refl _) hi, rfl, fun j hj e => by
    rcases hb : (nth vs i).ownBlock with _ | b
    · rw [hb] at e
      have := (H.old j hj).noneLen e
      omega
    · rw [hb] at e
      exact absurd e (H.off i (Nat.le_refl _) hi b hb j hj), fun j h1 h2 b hb => ⟨fun e => hN.apart i j hi h2 (by omega) b e hb, H.off j (by omega) h2 b hb⟩⟩

theorem P2.leave {lo h : Nat} {v : Value} {vs : List Value} {w wr : World} {i : Nat} {av x : Value} {es : List Value} {c : Nat} (H : P2 lo h v vs w i c 5 av es x wr) : P2o lo h v vs w (i + 1) av es wr :=
  ⟨H.book, H.list, H.below, H.size, H.all, by rw [H.len]; omega, fun j h1 h2 => H.come j (by omega) h2, H.old, fun j h1 h2 b hb => (H.off j (by omega) h2 b hb).2⟩

theorem nth_append_lt (es : List Value) (x : Value) (j : Nat) (h : j < es.length) : nth (es ++ [x]) j = nth es j := by
  simp [nth, List.getD_eq_getElem?_getD, List.getElem?_append_left h]
theorem nth_append_eq (es : List Value) (x : Value) : nth (es ++ [x]) es.length = x := by
  simp [nth, List.getD_eq_getElem?_getD]

/-- The list takes the Nat. -/
theorem P2.take {lo h : Nat} {v : Value} {vs : List Value} {w wr w' : World} {i c d : Nat} {av av' x : Value} {es : List Value} (H : P2 lo h v vs w i c d av es x wr) (hd : d < 5) (hlo : lo ≤ w.heap.size) (hh : h < w.heap.size) (hvl : ∀ b, v.ownBlock = some b → b < w.heap.size) (o : Obj)
    (hown : w'.ownsRow w.heap.size 23 1 av' (es.length + 1) (es ++ [x])) (hgrow : (wr.alloc o).grownBy w' av.ownBlock) (hkeep : Keep (wr.alloc o) w') :
    P2 lo h v vs w i c (d + 1) av' (es ++ [x]) x w' := by
  have hs := H.size
  have hav : ∀ b, av.ownBlock = some b → w.heap.size ≤ b := by
    intro b hb
    rcases H.all.2 with ⟨rfl, _⟩ | ⟨g, cap, cur, rfl, hl, _⟩
    · cases hb
    · cases hb; exact hl
  have hblk : ∀ b, b < w.heap.size → w'.heap[b]? = wr.heap[b]? := by
    intro b hb
    rw [hgrow.block b (by simp; omega) (fun e => by have := hav b e.symm; omega), Below.heap_alloc _ _ _ (by omega)]
  have hk : Keep wr w' := Keep.trans (fun g cur _ _ _ e => by rw [Below.heap_alloc _ _ _ (Array.getElem?_eq_some_iff.1 e).1]; exact e) hkeep
  refine ⟨by rw [hblk h hh]; exact H.book, row_other H.list (fun g hg => hblk g (hvl g hg)), ?_, by have := hgrow.size; simp at this; omega, by simpa using hown, by simp [H.len]; omega, fun j h1 h2 => Keep.row (H.come j h1 h2) hk, ?_, Keep.row H.row hk, H.more, ?_, ?_⟩
  · exact ((H.below.alloc (by omega) o).grown hgrow (by simp; omega) (fun k hk => by have := hav k hk; omega))
  · intro j hj
    by_cases e : j = es.length
    · subst e
      rw [nth_append_eq, show es.length / 5 = i by rw [H.len]; omega]
      exact Keep.row H.row hk
    · simp at hj
      rw [nth_append_lt _ _ _ (by omega)]
      exact Keep.row (H.old j (by omega)) hk
  · intro j hj e2
    by_cases e : j = es.length
    · subst e
      rw [nth_append_eq]; exact Nat.le_refl _
    · simp at hj
      rw [nth_append_lt _ _ _ (by omega)] at e2 ⊢
      exact H.less j (by omega) e2
  · intro j h1 h2 b hb
    obtain ⟨a1, a2⟩ := H.off j h1 h2 b hb
    refine ⟨a1, fun k hk2 => ?_⟩
    by_cases e : k = es.length
    · subst e
      rw [nth_append_eq]; exact a1
    · simp at hk2
      rw [nth_append_lt _ _ _ (by omega)]
      exact a2 k (by omega)

/-- The Nat grows by a word. -/
theorem P2.grow {lo h : Nat} {v : Value} {vs : List Value} {w wr w' : World} {i c d : Nat} {av x x' : Value} {es : List Value} (H : P2 lo h v vs w i c d av es x wr) (hlo : lo ≤ w.heap.size) (o : Obj)
    (hown : Rw lo w' x' (slen x + 1) (List.replicate (slen x) (mrk i) ++ [mrk i])) (hgrow : (wr.alloc o).grownBy w' x.ownBlock) (hpl : x'.ownBlock = x.ownBlock ∨ ∃ g, x'.ownBlock = some g ∧ (wr.alloc o).heap.size ≤ g)
    (hkeep : ∀ (u : Value) (k : Nat) (zs : List Value), Rw lo (wr.alloc o) u k zs → (u.ownBlock = x.ownBlock → k ≤ slen x) → Rw lo w' u k zs) :
    P2 lo h v vs w i (c + 1) d av es x' w' := by
  have hs := H.size
  have hl' := hown.len
  have hxb : ∀ b, x.ownBlock = some b → ∃ cur, wr.heap[b]? = some (.cells cur 61 (0, 0)) := fun b hb => (H.row.lt b hb).2.2
  have hblk : ∀ b, b < wr.heap.size → x.ownBlock ≠ some b → w'.heap[b]? = wr.heap[b]? := by
    intro b hb hx
    rw [hgrow.block b (by simp; omega) (fun e => hx e.symm), Below.heap_alloc _ _ _ hb]
  have hnb : ∀ b, wr.heap[b]? = some (.cells #[v] 34 (0, 0)) → x.ownBlock ≠ some b := by
    intro b hb e
    obtain ⟨cur, hc⟩ := hxb b e
    rw [hb] at hc; cases hc
  have hrow24 : ∀ (l : Nat) (u : Value) (n : Nat) (zs : List Value), wr.ownsRow l 23 1 u n zs → w'.ownsRow l 23 1 u n zs := by
    intro l u n zs hr
    refine row_other hr fun g hg => ?_
    rcases hr.2 with ⟨rfl, _⟩ | ⟨g2, cap, cur, rfl, _, hg2, _⟩
    · cases hg
    · cases hg
      refine hblk g2 (Array.getElem?_eq_some_iff.1 hg2).1 (fun e => ?_)
      obtain ⟨cur', hc⟩ := hxb g2 e
      rw [hg2] at hc; cases hc
  have hlow : ∀ b, x.ownBlock = some b → lo ≤ b := fun b hb => (H.row.lt b hb).1
  refine ⟨by rw [hblk h (Array.getElem?_eq_some_iff.1 H.book).1 (hnb h H.book)]; exact H.book, hrow24 _ _ _ _ H.list, ?_, by have := hgrow.size; simp at this; omega, hrow24 _ _ _ _ H.all, H.len, ?_, ?_, ?_, by rw [hl', H.more]; omega, ?_, ?_⟩
  · exact ((H.below.alloc (by omega) o).grown hgrow (by simp; omega) hlow)
  · intro j h1 h2
    refine hkeep _ _ _ ((H.come j h1 h2).alloc o) (fun e => ?_)
    rcases hb : (nth vs j).ownBlock with _ | b
    · have := (H.come j h1 h2).noneLen hb
      omega
    · exact absurd (by rw [← e, hb]) (H.off j h1 h2 b hb).1
  · intro j hj
    exact hkeep _ _ _ ((H.old j hj).alloc o) (fun e => H.less j hj e)
  · rw [hl', List.replicate_succ']
    exact hown
  · intro j hj e
    rw [hl']
    rcases hpl with h1 | ⟨g, h1, h2⟩
    · have := H.less j hj (e.trans h1); omega
    · have := (H.old j hj).lt g (e.trans h1)
      simp at h2
      omega
  · intro j h1 h2 b hb
    obtain ⟨a1, a2⟩ := H.off j h1 h2 b hb
    refine ⟨?_, a2⟩
    rcases hpl with h3 | ⟨g, h3, h4⟩
    · rw [h3]; exact a1
    · rw [h3]
      intro e
      cases e
      have := (H.come j h1 h2).lt _ hb
      simp at h4
      omega
end Go.Proofs.YthilnddhehbjiaaDoor

/- The document's Owned. -/
namespace Go.Proofs.YthilnddhehbjiaaDoor
open Go.RowKit
set_option linter.unusedVariables false
set_option maxRecDepth 20000

theorem list_shape {lo : Nat} {w : World} {v : Value} {vs : List Value} (h : w.ownsRow lo 23 1 v vs.length vs) (hm : 0 < vs.length) :
    ∃ g cap, v = .slice (some ⟨g, 0, none⟩) vs.length cap ∧ vs.length ≤ cap := by
  rcases h.2 with ⟨_, h0⟩ | ⟨g, cap, cur, rfl, _, _, hn, _⟩
  · omega
  · exact ⟨g, cap, rfl, hn⟩

theorem list_cell {lo : Nat} {w : World} {g n cap : Nat} {vs : List Value} (h : w.ownsRow lo 23 1 (.slice (some ⟨g, 0, none⟩) n cap) vs.length vs) (i : Nat) (hi : i < vs.length) : w.cell? ⟨g, i, none⟩ = some (nth vs i) := by
  have h1 := h.cells (g := g) (by simp [Value.ownBlock]) i (nth vs i) (by simp [nth, hi])
  have e : (⟨g, 0, none⟩ : Addr).add i = ⟨g, i, none⟩ := by unfold Addr.add; split <;> simp_all
  rw [e] at h1
  exact h1

theorem Rw.cell {lo : Nat} {w : World} {g n cap : Nat} {ys : List Value} (h : Rw lo w (.slice (some ⟨g, 0, none⟩) n cap) n ys) (k : Nat) (u : Value) (hk : ys[k]? = some u) : w.cell? ⟨g, k, none⟩ = some u := by
  have h1 := h.cells (g := g) (by simp [Value.ownBlock]) k u hk
  have e : (⟨g, 0, none⟩ : Addr).add k = ⟨g, k, none⟩ := by unfold Addr.add; split <;> simp_all
  rw [e] at h1
  exact h1

theorem Rw.frozen {lo : Nat} {w : World} {g n cap : Nat} {ys : List Value} (h : Rw lo w (.slice (some ⟨g, 0, none⟩) n cap) n ys) (k : Nat) : w.frozen? ⟨g, k, none⟩ = false := by
  rcases h.2 with ⟨e, _⟩ | ⟨g2, cap2, cur2, e, _, hg2, _⟩
  · cases e
  · cases e
    simp [World.frozen?, hg2]

theorem Rw.shape {lo : Nat} {w : World} {v : Value} {n : Nat} {ys : List Value} (h : Rw lo w v n ys) : ∃ ao cap, v = .slice ao n cap ∧ n ≤ cap ∧ cap ≤ maxLen ∧ (0 < n → ∃ g, ao = some ⟨g, 0, none⟩) := by
  rcases h.2 with ⟨rfl, h0⟩ | ⟨g, cap, cur, rfl, _, _, hn, hm, _⟩
  · exact ⟨none, 0, by rw [h0], by omega, by unfold maxLen; omega, fun h => absurd h (by omega)⟩
  · exact ⟨_, cap, rfl, hn, hm, fun _ => ⟨g, rfl⟩⟩

set_option maxHeartbeats 4000000 in
set_option maxRecDepth 100000 in
theorem owned_any (lo h : Nat) (vs : List Value) (w : World) (hB : Bk lo w h vs) (hN : Nice lo w vs) (hm : 0 < vs.length) (hm2 : vs.length ≤ 100) (hlo : lo ≤ w.heap.size) :
    Calls Tryd.prog 18 #[.pointer (some ⟨h, 0, none⟩)] w fun r w' => r = .returned (.bool true) ∧ Below lo w w' := by
  obtain ⟨hlh, v, hv, hrow⟩ := hB
  have hhl := (Array.getElem?_eq_some_iff.1 hv).1
  obtain ⟨gv, capv, rfl, hcapv⟩ := list_shape hrow hm
  have hvl : ∀ b, (Value.slice (some ⟨gv, 0, none⟩) vs.length capv).ownBlock = some b → b < w.heap.size := by
    intro b hb
    rcases hrow.2 with ⟨e, _⟩ | ⟨g2, cap2, cur2, e, _, hg2, _⟩
    · cases e
    · cases e; cases hb; exact (Array.getElem?_eq_some_iff.1 hg2).1
  have H0 := P1.start hv hrow hN
  obtain ⟨m, hmm⟩ : ∃ m, vs.length = m := ⟨_, rfl⟩
  have HX := (Aside.intro (And.intro hlh (And.intro hlo (And.intro hhl (And.intro hvl (And.intro hN (And.intro hmm H0)))))))
  rw [hmm] at hm hm2 hcapv
  clear hlh hlo hhl hvl hN hv hrow H0
  go_enter Tryd.func18, Tryd.ntmps18
  go_wp2
  go_loopg [3] m (fun gk iv wr => ∃ (i : Nat), gk + i = m ∧ iv = .int .i64 (i : Nat) ∧ Aside (P1 lo h (.slice (some ⟨gv, 0, none⟩) vs.length capv) vs w i 0 wr))
  case atStart => exact ⟨0, by omega, rfl, HX.out.2.2.2.2.2.2⟩
  case round =>
    obtain ⟨i, hi, rfl, HA⟩ := hrel
    have hcb : wr.cell? ⟨h, 0, none⟩ = some (.slice (some ⟨gv, 0, none⟩) vs.length capv) := by simp [World.cell?, HA.out.book]
    rw [hmm] at hcb
    by_cases him : i = m
    · obtain rfl : gk = 0 := by omega
      have him2 : m = i := him.symm
      have H2 : Aside (P2o lo h (.slice (some ⟨gv, 0, none⟩) vs.length capv) vs w 0 (.slice none 0 0) [] wr) := by
        have h1 := HA.out
        rw [him, ← hmm] at h1
        exact P2o.start h1
      clear HA hi him
      subst him2
      go_wp2
      clear hcb
      go_loopg [5, 6] m (fun gk av iv w2 => ∃ (i : Nat) (es : List Value), gk + i = m ∧ iv = .int .i64 (i : Nat) ∧ Aside (P2o lo h (.slice (some ⟨gv, 0, none⟩) vs.length capv) vs w i av es w2))
      case atStart => exact ⟨0, [], by omega, rfl, H2⟩
      case round =>
        obtain ⟨i, es, hi, rfl, HA⟩ := hrel
        clear H2
        have hcb : wr.cell? ⟨h, 0, none⟩ = some (.slice (some ⟨gv, 0, none⟩) vs.length capv) := by simp [World.cell?, HA.out.book]
        rw [hmm] at hcb
        by_cases him : i = m
        · obtain rfl : gk = 0 := by omega
          have hel : es.length = 5 * m := by rw [HA.out.len, him]
          obtain ⟨ga, capa, hav, hcapa⟩ := list_shape HA.out.all (by omega)
          rw [hel] at hav hcapa
          subst hav
          have HA2 := HA
          have him2 : m = i := him.symm
          clear HA him hi
          subst him2
          obtain ⟨W3, hW3⟩ : ∃ W, W = wr := ⟨_, rfl⟩
          go_wp2
          go_loopg [9] (5 * m) (fun gk jv w3 => ∃ (j : Nat), gk + j = 5 * m ∧ jv = .int .i64 (j : Nat) ∧ w3 = W3)
          case atStart => exact ⟨0, by omega, rfl, hW3.symm⟩
          case round =>
            obtain ⟨j, hj, rfl, rfl⟩ := hrel
            subst hW3
            by_cases hjm : j = 5 * m
            · obtain rfl : gk = 0 := by omega
              have hjm2 : (j : Int) = 5 * (m : Int) := by omega
              go_wp2
              go_ret
              exact ⟨rfl, HA2.out.below⟩
            · have hjl : j < 5 * m := by omega
              have hcj := list_cell HA2.out.all j (by omega)
              have hold := HA2.out.old j (by omega)
              obtain ⟨ao, cap, hsh, hnc, hcm, hg⟩ := hold.shape
              obtain ⟨n, hn⟩ : ∃ n, slen (nth es j) = n := ⟨_, rfl⟩
              obtain ⟨q, hq⟩ : ∃ q, j / 5 = q := ⟨_, rfl⟩
              have hq2 : (j : Int) / 5 = (q : Int) := by omega
              have hq3 : q ≤ 100 := by omega
              rw [hn] at hsh hnc hg hold
              rw [hq] at hold
              rw [hsh] at hcj hold
              have HO := hid hold
              clear hold hsh hn hq
              unfold maxLen at hcm
              go_wp2
              go_loopg [10] n (fun gk kv w3 => ∃ (k : Nat), gk + k = n ∧ kv = .int .i64 (k : Nat) ∧ w3 = wr)
              case atStart => exact ⟨0, by omega, rfl, rfl⟩
              case round =>
                obtain ⟨k, hk, rfl, rfl⟩ := hrel
                by_cases hkn : k = n
                · obtain rfl : gk = 0 := by omega
                  subst hkn
                  go_wp2
                  go_roundg (5 * m - (j + 1))
                  case measure => omega
                  case rel => exact ⟨j + 1, by omega, by first | go_num | (congr 1; omega), rfl⟩
                · have hkl : k < n := by omega
                  obtain ⟨g, rfl⟩ := hg (by omega)
                  have hck := Rw.cell HO.out k (mrk q) (by simp [hkl])
                  unfold mrk at hck
                  go_wp2
                  go_roundg (gk - 1)
                  case measure => omega
                  case rel => exact ⟨k + 1, by omega, by first | go_num | (congr 1; omega), rfl⟩
        · have hil : i < m := by omega
          have hil2 : i < vs.length := by omega
          have hcv := list_cell HA.out.list i hil2
          obtain ⟨hlh, hlo, hhl, hvl, hN, _, _⟩ := HX.out
          obtain ⟨ao, cap, hsh, hnc, hcm, hg⟩ := (HA.out.come i (Nat.le_refl _) hil2).shape
          obtain ⟨n, hn⟩ : ∃ n, slen (nth vs i) = n := ⟨_, rfl⟩
          have HS : Aside (slen (nth vs i) ≤ 35184372088000) := hN.small i hil2
          have HE : Aside (P2 lo h (.slice (some ⟨gv, 0, none⟩) vs.length capv) vs w i 0 0 u5 es (nth vs i) wr) := P2o.enter HA.out hN hil2
          rw [hn] at hsh hnc
          rw [hsh] at hcv
          have hsh2 := Aside.intro hsh
          clear hlh hlo hhl hvl hN hsh hn HA hg
          unfold maxLen at hcm
          go_wp2
          go_loopg [5, 7, 8] 5 (fun gk av xv kv w2 => ∃ (c : Nat) (es : List Value), gk + c = 5 ∧ kv = .int .i64 (c : Nat) ∧ Aside (P2 lo h (.slice (some ⟨gv, 0, none⟩) vs.length capv) vs w i c c av es xv w2))
          case atStart => exact ⟨0, es, by omega, rfl, by rw [← hsh2.out]; exact HE⟩
          case round =>
            obtain ⟨c, es, hc, rfl, HA⟩ := hrel
            clear hcb hcv HE
            by_cases hc5 : c = 5
            · obtain rfl : gk = 0 := by omega
              subst hc5
              have HL := Aside.intro (P2.leave HA.out)
              clear HA
              go_wp2
              go_roundg (m - (i + 1))
              case measure => omega
              case rel => exact ⟨i + 1, _, by omega, by first | go_num | (congr 1; omega), HL⟩
            · have hcl : c < 5 := by omega
              obtain ⟨hlh, hlo, hhl, hvl, hN, _, _⟩ := HX.out
              obtain ⟨ao, cap, hsh, _, _, _⟩ := HA.out.row.shape
              obtain ⟨n, hn⟩ : ∃ n, slen u7 = n := ⟨_, rfl⟩
              have hns : n ≤ 35184372088005 := by have h1 := HA.out.more; have h2 := HS.out; omega
              rw [hn] at hsh
              have H1 := HA.out
              subst hsh
              obtain ⟨ga, capa, w1, hap1, hown1, hgrow1, hkeep1⟩ := append_nat (wr.alloc (.cells #[.slice ao n cap] 23)) w.heap.size u5 es.length es (.slice ao n cap) wr.heap.size 32 (H1.all.alloc _) (by unfold World.cell?; simp only [heap_alloc_new]; rfl) rfl (by have := H1.len; omega) (by have := H1.size; simp; omega)
              have H3 := P2.take H1 hcl hlo hhl hvl _ hown1 hgrow1 hkeep1
              obtain ⟨x', w2, hap2, hown2, hgrow2, hpl2, hkeep2⟩ := append_word (w1.alloc (.cells #[mrk i] 61)) lo (.slice ao n cap) n (List.replicate n (mrk i)) (mrk i) w1.heap.size 23 (H3.row.alloc _) (by unfold World.cell?; simp only [heap_alloc_new]; rfl) rfl (by omega) (by have := H3.size; simp; omega)
              have H4 := Aside.intro (P2.grow H3 hlo _ hown2 hgrow2 hpl2 hkeep2)
              unfold mrk at hap2
              have HAP1 := hid hap1
              have HAP2 := hid hap2
              clear hap1 hap2 hown1 hgrow1 hkeep1 H3 hown2 hgrow2 hpl2 hkeep2 H1 HA hlh hlo hhl hvl hN hc5
              go_wp2_with (first | (at_builtin; refine wpList_append_run2 rfl (.tmp 64) (.tmp 66) 32 rfl _ _ rfl rfl _ _ HAP1.out ?_) | (at_builtin; refine wpList_append_run2 rfl (.tmp 68) (.tmp 72) 23 rfl _ _ rfl rfl _ _ HAP2.out ?_))
              go_roundg (gk - 1)
              case measure => omega
              case rel => exact ⟨c + 1, _, by omega, by first | go_num | (congr 1; omega), H4⟩
    · have hil : i < m := by omega
      have hil2 : i < vs.length := by omega
      obtain ⟨ys, hy, _, _⟩ := HA.out.rows i hil2
      obtain ⟨ao, cap, hsh, hnc, hcm, hg⟩ := hy.shape
      obtain ⟨n, hn⟩ : ∃ n, slen (nth vs i) = n := ⟨_, rfl⟩
      have hns : n ≤ 35184372088000 := hn ▸ HX.out.2.2.2.2.1.small i hil2
      rw [hn] at hsh hnc hg
      clear hy
      go_wp2
      go_loopg [4] n (fun gk2 kv w2 => ∃ (k : Nat), gk2 + k = n ∧ kv = .int .i64 (k : Nat) ∧ Aside (P1 lo h (.slice (some ⟨gv, 0, none⟩) vs.length capv) vs w i k w2))
      case atStart => exact ⟨0, by omega, rfl, HA.out⟩
      case round =>
        obtain ⟨k, hk, rfl, HB⟩ := hrel
        have hcb2 : wr.cell? ⟨h, 0, none⟩ = some (.slice (some ⟨gv, 0, none⟩) vs.length capv) := by simp [World.cell?, HB.out.book]
        have hcv := list_cell HB.out.list i hil2
        rw [hsh] at hcv
        rw [hmm] at hcb2
        by_cases hkn : k = n
        · obtain rfl : gk = 0 := by omega
          have HC : Aside (P1 lo h (.slice (some ⟨gv, 0, none⟩) vs.length capv) vs w (i + 1) 0 wr) := by
            have h1 := HB.out
            rw [hkn, ← hn] at h1
            exact P1.next h1
          clear hn hsh hmm hcb
          subst hkn
          go_wp2
          go_roundg (m - (i + 1))
          case measure => omega
          case rel => exact ⟨i + 1, by omega, by first | go_num | (congr 1; omega), HC⟩
        · have hkl : k < n := by omega
          obtain ⟨g, rfl⟩ := hg (by omega)
          obtain ⟨ys2, hy2, _, _⟩ := HB.out.rows i hil2
          rw [hsh] at hy2
          have hl2 : ys2.length = n := by simpa [slen] using hy2.1
          obtain ⟨yk, hyk⟩ : ∃ y, ys2[k]? = some y := ⟨ys2[k]'(by omega), by simp⟩
          have hgc := Rw.cell hy2 k yk hyk
          have hgf := Rw.frozen hy2 k
          have HC : Aside (P1 lo h (.slice (some ⟨gv, 0, none⟩) vs.length capv) vs w i (k + 1) (wr.setCell ⟨g, k, none⟩ (mrk i))) := P1.step HB.out HX.out.2.2.2.2.1 hil2 hsh hkl
          clear hy2 hyk hn hsh hmm hcb hkn him
          go_wp2
          go_roundg (gk - 1)
          case measure => omega
          case rel =>
            refine ⟨k + 1, by omega, by first | go_num | (congr 1; omega), ?_⟩
            exact HC
end Go.Proofs.YthilnddhehbjiaaDoor

