/- What Owned keeps to, phase by phase. -/
import Derived.Test.YtonhahbmdekkdaaDoorW40
namespace Go.Proofs.YtonhahbmdekkdaaDoor
open Go.RowKit
set_option linter.unusedVariables false
set_option maxRecDepth 20000

def slen : Value → Nat
  | .slice _ n _ => n
  | _ => 0
def nth (vs : List Value) (i : Nat) : Value := vs.getD i (.slice none 0 0)

theorem Rw.len {lo : Nat} {w : World} {v : Value} {n : Nat} {ys : List Value} (h : Rw lo w v n ys) : slen v = n := by
  rcases h.2 with ⟨rfl, h0⟩ | ⟨g, cap, cur, rfl, _⟩
  · exact h0.symm
  · rfl

theorem Rw.lt {lo : Nat} {w : World} {v : Value} {n : Nat} {ys : List Value} (h : Rw lo w v n ys) (b : Nat) (hb : v.ownBlock = some b) : lo ≤ b ∧ b < w.heap.size ∧ ∃ cur, w.heap[b]? = some (.cells cur 63 (0, 0)) := by
  rcases h.2 with ⟨rfl, h0⟩ | ⟨g, cap, cur, rfl, hlo, hg, _⟩
  · cases hb
  · cases hb
    exact ⟨hlo, (Array.getElem?_eq_some_iff.1 hg).1, cur, hg⟩

theorem Rw.noneLen {lo : Nat} {w : World} {v : Value} {n : Nat} {ys : List Value} (h : Rw lo w v n ys) (hb : v.ownBlock = none) : n = 0 := by
  rcases h.2 with ⟨rfl, h0⟩ | ⟨g, cap, cur, rfl, _⟩
  · exact h0
  · cases hb

theorem Rw.alloc' {lo e : Nat} {w : World} {v : Value} {n : Nat} {ys : List Value} (h : w.ownsRow lo e 1 v n ys) (o : Obj) : (w.alloc o).ownsRow lo e 1 v n ys := h.alloc o

theorem Rw.mono' {lo lo' e : Nat} {w : World} {v : Value} {n : Nat} {ys : List Value} (h : w.ownsRow lo e 1 v n ys) (hl : lo' ≤ lo) : w.ownsRow lo' e 1 v n ys := by
  refine ⟨h.1, ?_⟩
  rcases h.2 with hn | ⟨g, cap, cur, rfl, hlo, rest⟩
  · exact .inl hn
  · exact .inr ⟨g, cap, cur, rfl, by omega, rest⟩

/-- Nats of one's own, in rows apart. -/
structure Nice (lo : Nat) (w : World) (vs : List Value) : Prop where
  rows : ∀ i, i < vs.length → ∃ ys, Rw lo w (nth vs i) (slen (nth vs i)) ys
  small : ∀ i, i < vs.length → slen (nth vs i) ≤ 35184372088000
  apart : ∀ i j, i < vs.length → j < vs.length → i ≠ j → ∀ b, (nth vs i).ownBlock = some b → (nth vs j).ownBlock ≠ some b

def mrk (i : Nat) : Value := .int .u32 (1000 + (i : Int))

/-- Phase 1: k words of Nat i are written, and all of the Nats ahead of it. -/
structure P1 (lo h : Nat) (v : Value) (vs : List Value) (w : World) (i k : Nat) (wr : World) : Prop where
  book : wr.heap[h]? = some (.cells #[v] 34 (0, 0))
  list : wr.ownsRow lo 23 1 v vs.length vs
  below : Below lo w wr
  size : wr.heap.size = w.heap.size
  rows : ∀ j, j < vs.length → ∃ ys, Rw lo wr (nth vs j) (slen (nth vs j)) ys ∧ (j < i → ys = List.replicate (slen (nth vs j)) (mrk j)) ∧ (j = i → ys.take k = List.replicate k (mrk i))

theorem P1.start {lo h : Nat} {v : Value} {vs : List Value} {w : World} (hv : w.heap[h]? = some (.cells #[v] 34 (0, 0))) (hl : w.ownsRow lo 23 1 v vs.length vs) (hN : Nice lo w vs) : P1 lo h v vs w 0 0 w :=
  ⟨hv, hl, Below.refl _ _, rfl, fun j hj => by
    obtain ⟨ys, hy⟩ := hN.rows j hj
    exact ⟨ys, hy, fun h => absurd h (by omega), fun _ => by simp⟩⟩

theorem P1.next {lo h : Nat} {v : Value} {vs : List Value} {w wr : World} {i : Nat} (H : P1 lo h v vs w i (slen (nth vs i)) wr) : P1 lo h v vs w (i + 1) 0 wr :=
  ⟨H.book, H.list, H.below, H.size, fun j hj => by
    obtain ⟨ys, hy, a, b⟩ := H.rows j hj
    refine ⟨ys, hy, fun h => ?_, fun _ => by simp⟩
    by_cases e : j = i
    · subst e
      have h1 := b rfl
      have hl : ys.length = slen (nth vs j) := by simpa using hy.1
      rwa [← hl, List.take_length, hl] at h1
    · exact a (by omega)⟩

theorem P1.step {lo h : Nat} {v : Value} {vs : List Value} {w wr : World} {i k g n cap : Nat} (H : P1 lo h v vs w i k wr) (hN : Nice lo w vs) (hi : i < vs.length) (hV : nth vs i = .slice (some ⟨g, 0, none⟩) n cap) (hk : k < n) :
    P1 lo h v vs w i (k + 1) (wr.setCell ⟨g, k, none⟩ (mrk i)) := by
  obtain ⟨ys0, hy0, _, _⟩ := H.rows i hi
  obtain ⟨hlg, _, cur, hcur⟩ := hy0.lt g (by rw [hV]; rfl)
  have hgh : h ≠ g := by intro e; subst e; rw [H.book] at hcur; cases hcur
  have hvg : v.ownBlock ≠ some g := by
    intro e
    rcases H.list.2 with ⟨rfl, _⟩ | ⟨g2, cap2, cur2, rfl, _, hg2, _⟩
    · cases e
    · cases e; rw [hcur] at hg2; cases hg2
  refine ⟨?_, row_setOther H.list _ _ hvg, H.below.trans ⟨rfl, rfl, rfl, by simp [World.setCell], fun b hb => Below.heap_setCell _ _ _ _ (by simp; omega)⟩, by simpa [World.setCell] using H.size, fun j hj => ?_⟩
  · rw [Below.heap_setCell _ _ _ _ hgh]; exact H.book
  · obtain ⟨ys, hy, a, b⟩ := H.rows j hj
    by_cases e : j = i
    · subst e
      rw [hV] at hy ⊢
      have h1 := row_set hy k hk (mrk j)
      have hl : ys.length = n := by simpa [slen] using hy.1
      refine ⟨ys.set k (mrk j), h1, fun h => absurd h (by omega), fun _ => ?_⟩
      rw [List.take_succ_eq_append_getElem (by simp; omega), List.take_set_of_le (Nat.le_refl _), b rfl, List.replicate_succ']
      simp
    · refine ⟨ys, row_setOther hy _ _ (fun e2 => hN.apart i j hi hj (fun e3 => e e3.symm) g (by rw [hV]; rfl) e2), a, fun h => absurd h e⟩

/-- Phase 2, ahead of Nat i: what stands in the list, and what is still to come. -/
structure P2 (lo h : Nat) (v : Value) (vs : List Value) (w : World) (i c d : Nat) (av : Value) (es : List Value) (x : Value) (wr : World) : Prop where
  book : wr.heap[h]? = some (.cells #[v] 34 (0, 0))
  list : wr.ownsRow lo 23 1 v vs.length vs
  below : Below lo w wr
  size : w.heap.size ≤ wr.heap.size
  all : wr.ownsRow w.heap.size 23 1 av es.length es
  len : es.length = 5 * i + d
  come : ∀ j, i < j → j < vs.length → Rw lo wr (nth vs j) (slen (nth vs j)) (List.replicate (slen (nth vs j)) (mrk j))
  old : ∀ j, j < es.length → Rw lo wr (nth es j) (slen (nth es j)) (List.replicate (slen (nth es j)) (mrk (j / 5)))
  row : Rw lo wr x (slen x) (List.replicate (slen x) (mrk i))
  more : slen x = slen (nth vs i) + c
  less : ∀ j, j < es.length → (nth es j).ownBlock = x.ownBlock → slen (nth es j) ≤ slen x
  off : ∀ j, i < j → j < vs.length → ∀ b, (nth vs j).ownBlock = some b → x.ownBlock ≠ some b ∧ ∀ k, k < es.length → (nth es k).ownBlock ≠ some b

/-- Between two Nats. -/
structure P2o (lo h : Nat) (v : Value) (vs : List Value) (w : World) (i : Nat) (av : Value) (es : List Value) (wr : World) : Prop where
  book : wr.heap[h]? = some (.cells #[v] 34 (0, 0))
  list : wr.ownsRow lo 23 1 v vs.length vs
  below : Below lo w wr
  size : w.heap.size ≤ wr.heap.size
  all : wr.ownsRow w.heap.size 23 1 av es.length es
  len : es.length = 5 * i
  come : ∀ j, i ≤ j → j < vs.length → Rw lo wr (nth vs j) (slen (nth vs j)) (List.replicate (slen (nth vs j)) (mrk j))
  old : ∀ j, j < es.length → Rw lo wr (nth es j) (slen (nth es j)) (List.replicate (slen (nth es j)) (mrk (j / 5)))
  off : ∀ j, i ≤ j → j < vs.length → ∀ b, (nth vs j).ownBlock = some b → ∀ k, k < es.length → (nth es k).ownBlock ≠ some b

theorem P2o.start {lo h : Nat} {v : Value} {vs : List Value} {w wr : World} (H : P1 lo h v vs w vs.length 0 wr) : P2o lo h v vs w 0 (.slice none 0 0) [] wr :=
  ⟨H.book, H.list, H.below, by rw [H.size]; exact Nat.le_refl _, World.ownsRow_nil _ _ _ _, rfl, fun j _ hj => by
    obtain ⟨ys, hy, a, _⟩ := H.rows j hj
    rw [← a hj]; exact hy, fun j hj => absurd hj (by simp), fun _ _ _ _ _ k hk => absurd hk (by simp)⟩

theorem P2o.enter {lo h : Nat} {v : Value} {vs : List Value} {w wr : World} {i : Nat} {av : Value} {es : List Value} (H : P2o lo h v vs w i av es wr) (hN : Nice lo w vs) (hi : i < vs.length) :
    P2 lo h v vs w i 0 0 av es (nth vs i) wr :=
  ⟨H.book, H.list, H.below, H.size, H.all, H.len, fun j h1 h2 => H.come j (by omega) h2, H.old, H.come i (Nat.le_refl _) hi, rfl, fun j hj e => by
    rcases hb : (nth vs i).ownBlock with _ | b
    · rw [hb] at e
      have := (H.old j hj).noneLen e
      omega
    · rw [hb] at e
      exact absurd e (H.off i (Nat.le_refl _) hi b hb j hj), fun j h1 h2 b hb => ⟨fun e => hN.apart i j hi h2 (by omega) b e hb, H.off j (by omega) h2 b hb⟩⟩

theorem P2.leave {lo h : Nat} {v : Value} {vs : List Value} {w wr : World} {i : Nat} {av x : Value} {es : List Value} {c : Nat} (H : P2 lo h v vs w i c 5 av es x wr) : P2o lo h v vs w (i + 1) av es wr :=
  ⟨H.book, H.list, H.below, H.size, H.all, by rw [H.len]; omega, fun j h1 h2 => H.come j (by omega) h2, H.old, fun j h1 h2 b hb => (H.off j (by omega) h2 b hb).2⟩

theorem nth_append_lt (es : List Value) (x : Value) (j : Nat) (h : j < es.length) : nth (es ++ [x]) j = nth es j := by
  simp [nth, List.getD_eq_getElem?_getD, List.getElem?_append_left h]
theorem nth_append_eq (es : List Value) (x : Value) : nth (es ++ [x]) es.length = x := by
  simp [nth, List.getD_eq_getElem?_getD]

/-- The list takes the Nat. -/
theorem P2.take {lo h : Nat} {v : Value} {vs : List Value} {w wr w' : World} {i c d : Nat} {av av' x : Value} {es : List Value} (H : P2 lo h v vs w i c d av es x wr) (hd : d < 5) (hlo : lo ≤ w.heap.size) (hh : h < w.heap.size) (hvl : ∀ b, v.ownBlock = some b → b < w.heap.size) (o : Obj)
    (hown : w'.ownsRow w.heap.size 23 1 av' (es.length + 1) (es ++ [x])) (hgrow : (wr.alloc o).grownBy w' av.ownBlock) (hkeep : Keep (wr.alloc o) w') :
    P2 lo h v vs w i c (d + 1) av' (es ++ [x]) x w' := by
  have hs := H.size
  have hav : ∀ b, av.ownBlock = some b → w.heap.size ≤ b := by
    intro b hb
    rcases H.all.2 with ⟨rfl, _⟩ | ⟨g, cap, cur, rfl, hl, _⟩
    · cases hb
    · cases hb; exact hl
  have hblk : ∀ b, b < w.heap.size → w'.heap[b]? = wr.heap[b]? := by
    intro b hb
    rw [hgrow.block b (by simp; omega) (fun e => by have := hav b e.symm; omega), Below.heap_alloc _ _ _ (by omega)]
  have hk : Keep wr w' := Keep.trans (fun g cur _ _ _ e => by rw [Below.heap_alloc _ _ _ (Array.getElem?_eq_some_iff.1 e).1]; exact e) hkeep
  refine ⟨by rw [hblk h hh]; exact H.book, row_other H.list (fun g hg => hblk g (hvl g hg)), ?_, by have := hgrow.size; simp at this; omega, by simpa using hown, by simp [H.len]; omega, fun j h1 h2 => Keep.row (H.come j h1 h2) hk, ?_, Keep.row H.row hk, H.more, ?_, ?_⟩
  · exact ((H.below.alloc (by omega) o).grown hgrow (by simp; omega) (fun k hk => by have := hav k hk; omega))
  · intro j hj
    by_cases e : j = es.length
    · subst e
      rw [nth_append_eq, show es.length / 5 = i by rw [H.len]; omega]
      exact Keep.row H.row hk
    · simp at hj
      rw [nth_append_lt _ _ _ (by omega)]
      exact Keep.row (H.old j (by omega)) hk
  · intro j hj e2
    by_cases e : j = es.length
    · subst e
      rw [nth_append_eq]; exact Nat.le_refl _
    · simp at hj
      rw [nth_append_lt _ _ _ (by omega)] at e2 ⊢
      exact H.less j (by omega) e2
  · intro j h1 h2 b hb
    obtain ⟨a1, a2⟩ := H.off j h1 h2 b hb
    refine ⟨a1, fun k hk2 => ?_⟩
    by_cases e : k = es.length
    · subst e
      rw [nth_append_eq]; exact a1
    · simp at hk2
      rw [nth_append_lt _ _ _ (by omega)]
      exact a2 k (by omega)

/-- The Nat grows by a word. -/
theorem P2.grow {lo h : Nat} {v : Value} {vs : List Value} {w wr w' : World} {i c d : Nat} {av x x' : Value} {es : List Value} (H : P2 lo h v vs w i c d av es x wr) (hlo : lo ≤ w.heap.size) (o : Obj)
    (hown : Rw lo w' x' (slen x + 1) (List.replicate (slen x) (mrk i) ++ [mrk i])) (hgrow : (wr.alloc o).grownBy w' x.ownBlock) (hpl : x'.ownBlock = x.ownBlock ∨ ∃ g, x'.ownBlock = some g ∧ (wr.alloc o).heap.size ≤ g)
    (hkeep : ∀ (u : Value) (k : Nat) (zs : List Value), Rw lo (wr.alloc o) u k zs → (u.ownBlock = x.ownBlock → k ≤ slen x) → Rw lo w' u k zs) :
    P2 lo h v vs w i (c + 1) d av es x' w' := by
  have hs := H.size
  have hl' := hown.len
  have hxb : ∀ b, x.ownBlock = some b → ∃ cur, wr.heap[b]? = some (.cells cur 63 (0, 0)) := fun b hb => (H.row.lt b hb).2.2
  have hblk : ∀ b, b < wr.heap.size → x.ownBlock ≠ some b → w'.heap[b]? = wr.heap[b]? := by
    intro b hb hx
    rw [hgrow.block b (by simp; omega) (fun e => hx e.symm), Below.heap_alloc _ _ _ hb]
  have hnb : ∀ b, wr.heap[b]? = some (.cells #[v] 34 (0, 0)) → x.ownBlock ≠ some b := by
    intro b hb e
    obtain ⟨cur, hc⟩ := hxb b e
    rw [hb] at hc; cases hc
  have hrow24 : ∀ (l : Nat) (u : Value) (n : Nat) (zs : List Value), wr.ownsRow l 23 1 u n zs → w'.ownsRow l 23 1 u n zs := by
    intro l u n zs hr
    refine row_other hr fun g hg => ?_
    rcases hr.2 with ⟨rfl, _⟩ | ⟨g2, cap, cur, rfl, _, hg2, _⟩
    · cases hg
    · cases hg
      refine hblk g2 (Array.getElem?_eq_some_iff.1 hg2).1 (fun e => ?_)
      obtain ⟨cur', hc⟩ := hxb g2 e
      rw [hg2] at hc; cases hc
  have hlow : ∀ b, x.ownBlock = some b → lo ≤ b := fun b hb => (H.row.lt b hb).1
  refine ⟨by rw [hblk h (Array.getElem?_eq_some_iff.1 H.book).1 (hnb h H.book)]; exact H.book, hrow24 _ _ _ _ H.list, ?_, by have := hgrow.size; simp at this; omega, hrow24 _ _ _ _ H.all, H.len, ?_, ?_, ?_, by rw [hl', H.more]; omega, ?_, ?_⟩
  · exact ((H.below.alloc (by omega) o).grown hgrow (by simp; omega) hlow)
  · intro j h1 h2
    refine hkeep _ _ _ ((H.come j h1 h2).alloc o) (fun e => ?_)
    rcases hb : (nth vs j).ownBlock with _ | b
    · have := (H.come j h1 h2).noneLen hb
      omega
    · exact absurd (by rw [← e, hb]) (H.off j h1 h2 b hb).1
  · intro j hj
    exact hkeep _ _ _ ((H.old j hj).alloc o) (fun e => H.less j hj e)
  · rw [hl', List.replicate_succ']
    exact hown
  · intro j hj e
    rw [hl']
    rcases hpl with h1 | ⟨g, h1, h2⟩
    · have := H.less j hj (e.trans h1); omega
    · have := (H.old j hj).lt g (e.trans h1)
      simp at h2
      omega
  · intro j h1 h2 b hb
    obtain ⟨a1, a2⟩ := H.off j h1 h2 b hb
    refine ⟨?_, a2⟩
    rcases hpl with h3 | ⟨g, h3, h4⟩
    · rw [h3]; exact a1
    · rw [h3]
      intro e
      cases e
      have := (H.come j h1 h2).lt _ hb
      simp at h4
      omega
end Go.Proofs.YtonhahbmdekkdaaDoor
