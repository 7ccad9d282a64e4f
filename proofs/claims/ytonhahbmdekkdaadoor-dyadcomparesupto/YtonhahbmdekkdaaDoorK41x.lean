import Derived.Test.YtonhahbmdekkdaaDoorW39x
/- Owned leaves what is no Nat and no Book as it was: the phases once more. -/
namespace Go.Proofs.YtonhahbmdekkdaaDoor.K
open Go.RowKit
set_option linter.unusedVariables false
set_option maxRecDepth 20000

/-- Blocks of other types stay. -/
def Keep0 (w w' : World) : Prop := ∀ (g : Nat) (cur : Array Value) (e : TypeId), e ≠ 63 → e ≠ 23 → e ≠ 34 → w.heap[g]? = some (.cells cur e (0, 0)) → w'.heap[g]? = some (.cells cur e (0, 0))
theorem Keep0.refl (w : World) : Keep0 w w := fun _ _ _ _ _ _ h => h
theorem Keep0.trans {a b c : World} (h : Keep0 a b) (k : Keep0 b c) : Keep0 a c := fun g cur e h1 h2 h3 h4 => k g cur e h1 h2 h3 (h g cur e h1 h2 h3 h4)

/-- Phase 1: k words of Nat i are written, and all of the Nats ahead of it. -/
structure P1 (lo h : Nat) (v : Value) (vs : List Value) (w : World) (i k : Nat) (wr : World) : Prop where
  book : wr.heap[h]? = some (.cells #[v] 34 (0, 0))
  list : wr.ownsRow lo 23 1 v vs.length vs
  below : Below lo w wr
  size : wr.heap.size = w.heap.size
  rows : ∀ j, j < vs.length → ∃ ys, Rw lo wr (nth vs j) (slen (nth vs j)) ys ∧ (j < i → ys = List.replicate (slen (nth vs j)) (mrk j)) ∧ (j = i → ys.take k = List.replicate k (mrk i))
  oth : Keep0 w wr

theorem P1.start {lo h : Nat} {v : Value} {vs : List Value} {w : World} (hv : w.heap[h]? = some (.cells #[v] 34 (0, 0))) (hl : w.ownsRow lo 23 1 v vs.length vs) (hN : Nice lo w vs) : P1 lo h v vs w 0 0 w :=
  ⟨hv, hl, Below.refl _ _, rfl, fun j hj => by
    obtain ⟨ys, hy⟩ := hN.rows j hj
    exact ⟨ys, hy, fun h => absurd h (by omega), fun _ => by simp⟩, Keep0.refl w⟩

theorem P1.next {lo h : Nat} {v : Value} {vs : List Value} {w wr : World} {i : Nat} (H : P1 lo h v vs w i (slen (nth vs i)) wr) : P1 lo h v vs w (i + 1) 0 wr :=
  ⟨H.book, H.list, H.below, H.size, fun j hj => by
    obtain ⟨ys, hy, a, b⟩ := H.rows j hj
    refine ⟨ys, hy, fun h => ?_, fun _ => by simp⟩
    by_cases e : j = i
    · subst e
      have h1 := b rfl
      have hl : ys.length = slen (nth vs j) := by simpa using hy.1
      rwa [← hl, List.take_length, hl] at h1
    · exact a (by omega), H.oth⟩

theorem P1.step {lo h : Nat} {v : Value} {vs : List Value} {w wr : World} {i k g n cap : Nat} (H : P1 lo h v vs w i k wr) (hN : Nice lo w vs) (hi : i < vs.length) (hV : nth vs i = .slice (some ⟨g, 0, none⟩) n cap) (hk : k < n) :
    P1 lo h v vs w i (k + 1) (wr.setCell ⟨g, k, none⟩ (mrk i)) := by
  obtain ⟨ys0, hy0, _, _⟩ := H.rows i hi
  obtain ⟨hlg, _, cur, hcur⟩ := hy0.lt g (by rw [hV]; rfl)
  have hgh : h ≠ g := by intro e; subst e; rw [H.book] at hcur; cases hcur
  have hvg : v.ownBlock ≠ some g := by
    intro e
    rcases H.list.2 with ⟨rfl, _⟩ | ⟨g2, cap2, cur2, rfl, _, hg2, _⟩
    · cases e
    · cases e; rw [hcur] at hg2; cases hg2
  refine ⟨?_, row_setOther H.list _ _ hvg, H.below.trans ⟨rfl, rfl, rfl, by simp [World.setCell], fun b hb => Below.heap_setCell _ _ _ _ (by simp; omega)⟩, by simpa [World.setCell] using H.size, fun j hj => ?_, fun g' cur' e' k1 k2 k3 hg' => ?_⟩
  · rw [Below.heap_setCell _ _ _ _ hgh]; exact H.book
  · obtain ⟨ys, hy, a, b⟩ := H.rows j hj
    by_cases e : j = i
    · subst e
      rw [hV] at hy ⊢
      have h1 := row_set hy k hk (mrk j)
      have hl : ys.length = n := by simpa [slen] using hy.1
      refine ⟨ys.set k (mrk j), h1, fun h => absurd h (by omega), fun _ => ?_⟩
      rw [List.take_succ_eq_append_getElem (by simp; omega), List.take_set_of_le (Nat.le_refl _), b rfl, List.replicate_succ']
      simp
    · refine ⟨ys, row_setOther hy _ _ (fun e2 => hN.apart i j hi hj (fun e3 => e e3.symm) g (by rw [hV]; rfl) e2), a, fun h => absurd h e⟩
  · have h9 := H.oth g' cur' e' k1 k2 k3 hg'
    rw [Below.heap_setCell _ _ _ _ (fun e9 => by simp at e9; subst e9; rw [h9] at hcur; cases hcur; exact k1 rfl)]
    exact h9

/-- Phase 2, ahead of Nat i: what stands in the list, and what is still to come. -/
structure P2 (lo h : Nat) (v : Value) (vs : List Value) (w : World) (i c d : Nat) (av : Value) (es : List Value) (x : Value) (wr : World) : Prop where
  book : wr.heap[h]? = some (.cells #[v] 34 (0, 0))
  list : wr.ownsRow lo 23 1 v vs.length vs
  below : Below lo w wr
  size : w.heap.size ≤ wr.heap.size
  all : wr.ownsRow w.heap.size 23 1 av es.length es
  len : es.length = 5 * i + d
  come : ∀ j, i < j → j < vs.length → Rw lo wr (nth vs j) (slen (nth vs j)) (List.replicate (slen (nth vs j)) (mrk j))
  old : ∀ j, j < es.length → Rw lo wr (nth es j) (slen (nth es j)) (List.replicate (slen (nth es j)) (mrk (j / 5)))
  row : Rw lo wr x (slen x) (List.replicate (slen x) (mrk i))
  more : slen x = slen (nth vs i) + c
  less : ∀ j, j < es.length → (nth es j).ownBlock = x.ownBlock → slen (nth es j) ≤ slen x
  off : ∀ j, i < j → j < vs.length → ∀ b, (nth vs j).ownBlock = some b → x.ownBlock ≠ some b ∧ ∀ k, k < es.length → (nth es k).ownBlock ≠ some b
  oth : Keep0 w wr

/-- Between two Nats. -/
structure P2o (lo h : Nat) (v : Value) (vs : List Value) (w : World) (i : Nat) (av : Value) (es : List Value) (wr : World) : Prop where
  book : wr.heap[h]? = some (.cells #[v] 34 (0, 0))
  list : wr.ownsRow lo 23 1 v vs.length vs
  below : Below lo w wr
  size : w.heap.size ≤ wr.heap.size
  all : wr.ownsRow w.heap.size 23 1 av es.length es
  len : es.length = 5 * i
  come : ∀ j, i ≤ j → j < vs.length → Rw lo wr (nth vs j) (slen (nth vs j)) (List.replicate (slen (nth vs j)) (mrk j))
  old : ∀ j, j < es.length → Rw lo wr (nth es j) (slen (nth es j)) (List.replicate (slen (nth es j)) (mrk (j / 5)))
  off : ∀ j, i ≤ j → j < vs.length → ∀ b, (nth vs j).ownBlock = some b → ∀ k, k < es.length → (nth es k).ownBlock ≠ some b
  oth : Keep0 w wr

theorem P2o.start {lo h : Nat} {v : Value} {vs : List Value} {w wr : World} (H : P1 lo h v vs w vs.length 0 wr) : P2o lo h v vs w 0 (.slice none 0 0) [] wr :=
  ⟨H.book, H.list, H.below, by rw [H.size]; exact Nat.le_refl _, World.ownsRow_nil _ _ _ _, rfl, fun j _ hj => by
    obtain ⟨ys, hy, a, _⟩ := H.rows j hj
    rw [← a hj]; exact hy, fun j hj => absurd hj (by simp), fun _ _ _ _ _ k hk => absurd hk (by simp), H.oth⟩

theorem P2o.enter {lo h : Nat} {v : Value} {vs : List Value} {w wr : World} {i : Nat} {av : Value} {es : List Value} (H : P2o lo h v vs w i av es wr) (hN : Nice lo w vs) (hi : i < vs.length) :
    P2 lo h v vs w i 0 0 av es (nth vs i) wr :=
  ⟨H.book, H.list, H.below, H.size, H.all, H.len, fun j h1 h2 => H.come j (by omega) h2, H.old, H.come i (Nat.le_refl _) hi, rfl, fun j hj e => by
    rcases hb : (nth vs i).ownBlock with _ | b
    · rw [hb] at e
      have := (H.old j hj).noneLen e
      omega
    · rw [hb] at e
      exact absurd e (H.off i (Nat.le_refl _) hi b hb j hj), fun j h1 h2 b hb => ⟨fun e => hN.apart i j hi h2 (by omega) b e hb, H.off j (by omega) h2 b hb⟩, H.oth⟩

theorem P2.leave {lo h : Nat} {v : Value} {vs : List Value} {w wr : World} {i : Nat} {av x : Value} {es : List Value} {c : Nat} (H : P2 lo h v vs w i c 5 av es x wr) : P2o lo h v vs w (i + 1) av es wr :=
  ⟨H.book, H.list, H.below, H.size, H.all, by rw [H.len]; omega, fun j h1 h2 => H.come j (by omega) h2, H.old, fun j h1 h2 b hb => (H.off j (by omega) h2 b hb).2, H.oth⟩


/-- The list takes the Nat. -/
theorem P2.take {lo h : Nat} {v : Value} {vs : List Value} {w wr w' : World} {i c d : Nat} {av av' x : Value} {es : List Value} (H : P2 lo h v vs w i c d av es x wr) (hd : d < 5) (hlo : lo ≤ w.heap.size) (hh : h < w.heap.size) (hvl : ∀ b, v.ownBlock = some b → b < w.heap.size) (o : Obj)
    (hown : w'.ownsRow w.heap.size 23 1 av' (es.length + 1) (es ++ [x])) (hgrow : (wr.alloc o).grownBy w' av.ownBlock) (hkeep : Keep (wr.alloc o) w') :
    P2 lo h v vs w i c (d + 1) av' (es ++ [x]) x w' := by
  have hs := H.size
  have hav : ∀ b, av.ownBlock = some b → w.heap.size ≤ b := by
    intro b hb
    rcases H.all.2 with ⟨rfl, _⟩ | ⟨g, cap, cur, rfl, hl, _⟩
    · cases hb
    · cases hb; exact hl
  have hblk : ∀ b, b < w.heap.size → w'.heap[b]? = wr.heap[b]? := by
    intro b hb
    rw [hgrow.block b (by simp; omega) (fun e => by have := hav b e.symm; omega), Below.heap_alloc _ _ _ (by omega)]
  have hk : Keep wr w' := Keep.trans (fun g cur _ _ _ e => by rw [Below.heap_alloc _ _ _ (Array.getElem?_eq_some_iff.1 e).1]; exact e) hkeep
  refine ⟨by rw [hblk h hh]; exact H.book, row_other H.list (fun g hg => hblk g (hvl g hg)), ?_, by have := hgrow.size; simp at this; omega, by simpa using hown, by simp [H.len]; omega, fun j h1 h2 => Keep.row (H.come j h1 h2) hk, ?_, Keep.row H.row hk, H.more, ?_, ?_, fun g' cur' e' k1 k2 k3 hg' => hk g' cur' e' k2 k3 (H.oth g' cur' e' k1 k2 k3 hg')⟩
  · exact ((H.below.alloc (by omega) o).grown hgrow (by simp; omega) (fun k hk => by have := hav k hk; omega))
  · intro j hj
    by_cases e : j = es.length
    · subst e
      rw [nth_append_eq, show es.length / 5 = i by rw [H.len]; omega]
      exact Keep.row H.row hk
    · simp at hj
      rw [nth_append_lt _ _ _ (by omega)]
      exact Keep.row (H.old j (by omega)) hk
  · intro j hj e2
    by_cases e : j = es.length
    · subst e
      rw [nth_append_eq]; exact Nat.le_refl _
    · simp at hj
      rw [nth_append_lt _ _ _ (by omega)] at e2 ⊢
      exact H.less j (by omega) e2
  · intro j h1 h2 b hb
    obtain ⟨a1, a2⟩ := H.off j h1 h2 b hb
    refine ⟨a1, fun k hk2 => ?_⟩
    by_cases e : k = es.length
    · subst e
      rw [nth_append_eq]; exact a1
    · simp at hk2
      rw [nth_append_lt _ _ _ (by omega)]
      exact a2 k (by omega)

/-- The Nat grows by a word. -/
theorem P2.grow {lo h : Nat} {v : Value} {vs : List Value} {w wr w' : World} {i c d : Nat} {av x x' : Value} {es : List Value} (H : P2 lo h v vs w i c d av es x wr) (hlo : lo ≤ w.heap.size) (o : Obj)
    (hown : Rw lo w' x' (slen x + 1) (List.replicate (slen x) (mrk i) ++ [mrk i])) (hgrow : (wr.alloc o).grownBy w' x.ownBlock) (hpl : x'.ownBlock = x.ownBlock ∨ ∃ g, x'.ownBlock = some g ∧ (wr.alloc o).heap.size ≤ g)
    (hkeep : ∀ (u : Value) (k : Nat) (zs : List Value), Rw lo (wr.alloc o) u k zs → (u.ownBlock = x.ownBlock → k ≤ slen x) → Rw lo w' u k zs) :
    P2 lo h v vs w i (c + 1) d av es x' w' := by
  have hs := H.size
  have hl' := hown.len
  have hxb : ∀ b, x.ownBlock = some b → ∃ cur, wr.heap[b]? = some (.cells cur 63 (0, 0)) := fun b hb => (H.row.lt b hb).2.2
  have hblk : ∀ b, b < wr.heap.size → x.ownBlock ≠ some b → w'.heap[b]? = wr.heap[b]? := by
    intro b hb hx
    rw [hgrow.block b (by simp; omega) (fun e => hx e.symm), Below.heap_alloc _ _ _ hb]
  have hnb : ∀ b, wr.heap[b]? = some (.cells #[v] 34 (0, 0)) → x.ownBlock ≠ some b := by
    intro b hb e
    obtain ⟨cur, hc⟩ := hxb b e
    rw [hb] at hc; cases hc
  have hrow24 : ∀ (l : Nat) (u : Value) (n : Nat) (zs : List Value), wr.ownsRow l 23 1 u n zs → w'.ownsRow l 23 1 u n zs := by
    intro l u n zs hr
    refine row_other hr fun g hg => ?_
    rcases hr.2 with ⟨rfl, _⟩ | ⟨g2, cap, cur, rfl, _, hg2, _⟩
    · cases hg
    · cases hg
      refine hblk g2 (Array.getElem?_eq_some_iff.1 hg2).1 (fun e => ?_)
      obtain ⟨cur', hc⟩ := hxb g2 e
      rw [hg2] at hc; cases hc
  have hlow : ∀ b, x.ownBlock = some b → lo ≤ b := fun b hb => (H.row.lt b hb).1
  refine ⟨by rw [hblk h (Array.getElem?_eq_some_iff.1 H.book).1 (hnb h H.book)]; exact H.book, hrow24 _ _ _ _ H.list, ?_, by have := hgrow.size; simp at this; omega, hrow24 _ _ _ _ H.all, H.len, ?_, ?_, ?_, by rw [hl', H.more]; omega, ?_, ?_, fun g' cur' e' k1 k2 k3 hg' => ?_⟩
  · exact ((H.below.alloc (by omega) o).grown hgrow (by simp; omega) hlow)
  · intro j h1 h2
    refine hkeep _ _ _ ((H.come j h1 h2).alloc o) (fun e => ?_)
    rcases hb : (nth vs j).ownBlock with _ | b
    · have := (H.come j h1 h2).noneLen hb
      omega
    · exact absurd (by rw [← e, hb]) (H.off j h1 h2 b hb).1
  · intro j hj
    exact hkeep _ _ _ ((H.old j hj).alloc o) (fun e => H.less j hj e)
  · rw [hl', List.replicate_succ']
    exact hown
  · intro j hj e
    rw [hl']
    rcases hpl with h1 | ⟨g, h1, h2⟩
    · have := H.less j hj (e.trans h1); omega
    · have := (H.old j hj).lt g (e.trans h1)
      simp at h2
      omega
  · intro j h1 h2 b hb
    obtain ⟨a1, a2⟩ := H.off j h1 h2 b hb
    refine ⟨?_, a2⟩
    rcases hpl with h3 | ⟨g, h3, h4⟩
    · rw [h3]; exact a1
    · rw [h3]
      intro e
      cases e
      have := (H.come j h1 h2).lt _ hb
      simp at h4
      omega
  · have h9 := H.oth g' cur' e' k1 k2 k3 hg'
    rw [hblk g' (Array.getElem?_eq_some_iff.1 h9).1 (fun e9 => by obtain ⟨c9, h8⟩ := hxb g' e9; rw [h9] at h8; cases h8; exact k1 rfl)]
    exact h9
end Go.Proofs.YtonhahbmdekkdaaDoor.K

/- Owned, and what stays. -/
namespace Go.Proofs.YtonhahbmdekkdaaDoor.K
open Go.RowKit
set_option linter.unusedVariables false
set_option maxRecDepth 20000

set_option maxHeartbeats 4000000 in
set_option maxRecDepth 100000 in
theorem owned_keep (lo h : Nat) (vs : List Value) (w : World) (hB : Bk lo w h vs) (hN : Nice lo w vs) (hm : 0 < vs.length) (hm2 : vs.length ≤ 100) (hlo : lo ≤ w.heap.size) :
    Calls Tryd.prog 18 #[.pointer (some ⟨h, 0, none⟩)] w fun r w' => r = .returned (.bool true) ∧ Below lo w w' ∧ Keep0 w w' := by
  obtain ⟨hlh, v, hv, hrow⟩ := hB
  have hhl := (Array.getElem?_eq_some_iff.1 hv).1
  obtain ⟨gv, capv, rfl, hcapv⟩ := list_shape hrow hm
  have hvl : ∀ b, (Value.slice (some ⟨gv, 0, none⟩) vs.length capv).ownBlock = some b → b < w.heap.size := by
    intro b hb
    rcases hrow.2 with ⟨e, _⟩ | ⟨g2, cap2, cur2, e, _, hg2, _⟩
    · cases e
    · cases e; cases hb; exact (Array.getElem?_eq_some_iff.1 hg2).1
  have H0 := P1.start hv hrow hN
  obtain ⟨m, hmm⟩ : ∃ m, vs.length = m := ⟨_, rfl⟩
  have HX := (Aside.intro (And.intro hlh (And.intro hlo (And.intro hhl (And.intro hvl (And.intro hN (And.intro hmm H0)))))))
  rw [hmm] at hm hm2 hcapv
  clear hlh hlo hhl hvl hN hv hrow H0
  go_enter Tryd.func18, Tryd.ntmps18
  go_wp2
  go_loopg [3] m (fun gk iv wr => ∃ (i : Nat), gk + i = m ∧ iv = .int .i64 (i : Nat) ∧ Aside (P1 lo h (.slice (some ⟨gv, 0, none⟩) vs.length capv) vs w i 0 wr))
  case atStart => exact ⟨0, by omega, rfl, HX.out.2.2.2.2.2.2⟩
  case round =>
    obtain ⟨i, hi, rfl, HA⟩ := hrel
    have hcb : wr.cell? ⟨h, 0, none⟩ = some (.slice (some ⟨gv, 0, none⟩) vs.length capv) := by simp [World.cell?, HA.out.book]
    rw [hmm] at hcb
    by_cases him : i = m
    · obtain rfl : gk = 0 := by omega
      have him2 : m = i := him.symm
      have H2 : Aside (P2o lo h (.slice (some ⟨gv, 0, none⟩) vs.length capv) vs w 0 (.slice none 0 0) [] wr) := by
        have h1 := HA.out
        rw [him, ← hmm] at h1
        exact P2o.start h1
      clear HA hi him
      subst him2
      go_wp2
      clear hcb
      go_loopg [5, 6] m (fun gk av iv w2 => ∃ (i : Nat) (es : List Value), gk + i = m ∧ iv = .int .i64 (i : Nat) ∧ Aside (P2o lo h (.slice (some ⟨gv, 0, none⟩) vs.length capv) vs w i av es w2))
      case atStart => exact ⟨0, [], by omega, rfl, H2⟩
      case round =>
        obtain ⟨i, es, hi, rfl, HA⟩ := hrel
        clear H2
        have hcb : wr.cell? ⟨h, 0, none⟩ = some (.slice (some ⟨gv, 0, none⟩) vs.length capv) := by simp [World.cell?, HA.out.book]
        rw [hmm] at hcb
        by_cases him : i = m
        · obtain rfl : gk = 0 := by omega
          have hel : es.length = 5 * m := by rw [HA.out.len, him]
          obtain ⟨ga, capa, hav, hcapa⟩ := list_shape HA.out.all (by omega)
          rw [hel] at hav hcapa
          subst hav
          have HA2 := HA
          have him2 : m = i := him.symm
          clear HA him hi
          subst him2
          obtain ⟨W3, hW3⟩ : ∃ W, W = wr := ⟨_, rfl⟩
          go_wp2
          go_loopg [9] (5 * m) (fun gk jv w3 => ∃ (j : Nat), gk + j = 5 * m ∧ jv = .int .i64 (j : Nat) ∧ w3 = W3)
          case atStart => exact ⟨0, by omega, rfl, hW3.symm⟩
          case round =>
            obtain ⟨j, hj, rfl, rfl⟩ := hrel
            subst hW3
            by_cases hjm : j = 5 * m
            · obtain rfl : gk = 0 := by omega
              have hjm2 : (j : Int) = 5 * (m : Int) := by omega
              go_wp2
              go_ret
              exact ⟨rfl, HA2.out.below, HA2.out.oth⟩
            · have hjl : j < 5 * m := by omega
              have hcj := list_cell HA2.out.all j (by omega)
              have hold := HA2.out.old j (by omega)
              obtain ⟨ao, cap, hsh, hnc, hcm, hg⟩ := hold.shape
              obtain ⟨n, hn⟩ : ∃ n, slen (nth es j) = n := ⟨_, rfl⟩
              obtain ⟨q, hq⟩ : ∃ q, j / 5 = q := ⟨_, rfl⟩
              have hq2 : (j : Int) / 5 = (q : Int) := by omega
              have hq3 : q ≤ 100 := by omega
              rw [hn] at hsh hnc hg hold
              rw [hq] at hold
              rw [hsh] at hcj hold
              have HO := hid hold
              clear hold hsh hn hq
              unfold maxLen at hcm
              go_wp2
              go_loopg [10] n (fun gk kv w3 => ∃ (k : Nat), gk + k = n ∧ kv = .int .i64 (k : Nat) ∧ w3 = wr)
              case atStart => exact ⟨0, by omega, rfl, rfl⟩
              case round =>
                obtain ⟨k, hk, rfl, rfl⟩ := hrel
                by_cases hkn : k = n
                · obtain rfl : gk = 0 := by omega
                  subst hkn
                  go_wp2
                  go_roundg (5 * m - (j + 1))
                  case measure => omega
                  case rel => exact ⟨j + 1, by omega, by first | go_num | (congr 1; omega), rfl⟩
                · have hkl : k < n := by omega
                  obtain ⟨g, rfl⟩ := hg (by omega)
                  have hck := Rw.cell HO.out k (mrk q) (by simp [hkl])
                  unfold mrk at hck
                  go_wp2
                  go_roundg (gk - 1)
                  case measure => omega
                  case rel => exact ⟨k + 1, by omega, by first | go_num | (congr 1; omega), rfl⟩
        · have hil : i < m := by omega
          have hil2 : i < vs.length := by omega
          have hcv := list_cell HA.out.list i hil2
          obtain ⟨hlh, hlo, hhl, hvl, hN, _, _⟩ := HX.out
          obtain ⟨ao, cap, hsh, hnc, hcm, hg⟩ := (HA.out.come i (Nat.le_refl _) hil2).shape
          obtain ⟨n, hn⟩ : ∃ n, slen (nth vs i) = n := ⟨_, rfl⟩
          have HS : Aside (slen (nth vs i) ≤ 35184372088000) := hN.small i hil2
          have HE : Aside (P2 lo h (.slice (some ⟨gv, 0, none⟩) vs.length capv) vs w i 0 0 u5 es (nth vs i) wr) := P2o.enter HA.out hN hil2
          rw [hn] at hsh hnc
          rw [hsh] at hcv
          have hsh2 := Aside.intro hsh
          clear hlh hlo hhl hvl hN hsh hn HA hg
          unfold maxLen at hcm
          go_wp2
          go_loopg [5, 7, 8] 5 (fun gk av xv kv w2 => ∃ (c : Nat) (es : List Value), gk + c = 5 ∧ kv = .int .i64 (c : Nat) ∧ Aside (P2 lo h (.slice (some ⟨gv, 0, none⟩) vs.length capv) vs w i c c av es xv w2))
          case atStart => exact ⟨0, es, by omega, rfl, by rw [← hsh2.out]; exact HE⟩
          case round =>
            obtain ⟨c, es, hc, rfl, HA⟩ := hrel
            clear hcb hcv HE
            by_cases hc5 : c = 5
            · obtain rfl : gk = 0 := by omega
              subst hc5
              have HL := Aside.intro (P2.leave HA.out)
              clear HA
              go_wp2
              go_roundg (m - (i + 1))
              case measure => omega
              case rel => exact ⟨i + 1, _, by omega, by first | go_num | (congr 1; omega), HL⟩
            · have hcl : c < 5 := by omega
              obtain ⟨hlh, hlo, hhl, hvl, hN, _, _⟩ := HX.out
              obtain ⟨ao, cap, hsh, _, _, _⟩ := HA.out.row.shape
              obtain ⟨n, hn⟩ : ∃ n, slen u7 = n := ⟨_, rfl⟩
              have hns : n ≤ 35184372088005 := by have h1 := HA.out.more; have h2 := HS.out; omega
              rw [hn] at hsh
              have H1 := HA.out
              subst hsh
              obtain ⟨ga, capa, w1, hap1, hown1, hgrow1, hkeep1⟩ := append_nat (wr.alloc (.cells #[.slice ao n cap] 23)) w.heap.size u5 es.length es (.slice ao n cap) wr.heap.size 32 (H1.all.alloc _) (by unfold World.cell?; simp only [heap_alloc_new]; rfl) rfl (by have := H1.len; omega) (by have := H1.size; simp; omega)
              have H3 := P2.take H1 hcl hlo hhl hvl _ hown1 hgrow1 hkeep1
              obtain ⟨x', w2, hap2, hown2, hgrow2, hpl2, hkeep2⟩ := append_word (w1.alloc (.cells #[mrk i] 63)) lo (.slice ao n cap) n (List.replicate n (mrk i)) (mrk i) w1.heap.size 23 (H3.row.alloc _) (by unfold World.cell?; simp only [heap_alloc_new]; rfl) rfl (by omega) (by have := H3.size; simp; omega)
              have H4 := Aside.intro (P2.grow H3 hlo _ hown2 hgrow2 hpl2 hkeep2)
              unfold mrk at hap2
              have HAP1 := hid hap1
              have HAP2 := hid hap2
              clear hap1 hap2 hown1 hgrow1 hkeep1 H3 hown2 hgrow2 hpl2 hkeep2 H1 HA hlh hlo hhl hvl hN hc5
              go_wp2_with (first | (at_builtin; refine wpList_append_run2 rfl (.tmp 64) (.tmp 66) 32 rfl _ _ rfl rfl _ _ HAP1.out ?_) | (at_builtin; refine wpList_append_run2 rfl (.tmp 68) (.tmp 72) 23 rfl _ _ rfl rfl _ _ HAP2.out ?_))
              go_roundg (gk - 1)
              case measure => omega
              case rel => exact ⟨c + 1, _, by omega, by first | go_num | (congr 1; omega), H4⟩
    · have hil : i < m := by omega
      have hil2 : i < vs.length := by omega
      obtain ⟨ys, hy, _, _⟩ := HA.out.rows i hil2
      obtain ⟨ao, cap, hsh, hnc, hcm, hg⟩ := hy.shape
      obtain ⟨n, hn⟩ : ∃ n, slen (nth vs i) = n := ⟨_, rfl⟩
      have hns : n ≤ 35184372088000 := hn ▸ HX.out.2.2.2.2.1.small i hil2
      rw [hn] at hsh hnc hg
      clear hy
      go_wp2
      go_loopg [4] n (fun gk2 kv w2 => ∃ (k : Nat), gk2 + k = n ∧ kv = .int .i64 (k : Nat) ∧ Aside (P1 lo h (.slice (some ⟨gv, 0, none⟩) vs.length capv) vs w i k w2))
      case atStart => exact ⟨0, by omega, rfl, HA.out⟩
      case round =>
        obtain ⟨k, hk, rfl, HB⟩ := hrel
        have hcb2 : wr.cell? ⟨h, 0, none⟩ = some (.slice (some ⟨gv, 0, none⟩) vs.length capv) := by simp [World.cell?, HB.out.book]
        have hcv := list_cell HB.out.list i hil2
        rw [hsh] at hcv
        rw [hmm] at hcb2
        by_cases hkn : k = n
        · obtain rfl : gk = 0 := by omega
          have HC : Aside (P1 lo h (.slice (some ⟨gv, 0, none⟩) vs.length capv) vs w (i + 1) 0 wr) := by
            have h1 := HB.out
            rw [hkn, ← hn] at h1
            exact P1.next h1
          clear hn hsh hmm hcb
          subst hkn
          go_wp2
          go_roundg (m - (i + 1))
          case measure => omega
          case rel => exact ⟨i + 1, by omega, by first | go_num | (congr 1; omega), HC⟩
        · have hkl : k < n := by omega
          obtain ⟨g, rfl⟩ := hg (by omega)
          obtain ⟨ys2, hy2, _, _⟩ := HB.out.rows i hil2
          rw [hsh] at hy2
          have hl2 : ys2.length = n := by simpa [slen] using hy2.1
          obtain ⟨yk, hyk⟩ : ∃ y, ys2[k]? = some y := ⟨ys2[k]'(by omega), by simp⟩
          have hgc := Rw.cell hy2 k yk hyk
          have hgf := Rw.frozen hy2 k
          have HC : Aside (P1 lo h (.slice (some ⟨gv, 0, none⟩) vs.length capv) vs w i (k + 1) (wr.setCell ⟨g, k, none⟩ (mrk i))) := P1.step HB.out HX.out.2.2.2.2.1 hil2 hsh hkl
          clear hy2 hyk hn hsh hmm hcb hkn him
          go_wp2
          go_roundg (gk - 1)
          case measure => omega
          case rel =>
            refine ⟨k + 1, by omega, by first | go_num | (congr 1; omega), ?_⟩
            exact HC
end Go.Proofs.YtonhahbmdekkdaaDoor.K

