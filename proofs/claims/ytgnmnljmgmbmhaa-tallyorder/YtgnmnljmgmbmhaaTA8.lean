/- tally: Entries. -/
import Derived.Test.YtgnmnljmgmbmhaaTA7
import Derived.Maps.AppendAt
import Derived.Laws.MakeOwn
namespace Go.Proofs.Ytgnmnljmgmbmhaa
open Go.RowKit Go.Maps
set_option linter.unusedVariables false
set_option maxRecDepth 20000
set_option linter.unusedSimpArgs false
attribute [local go_sem] B.f64bits B.f64frombits st_float

/-- The entries of what was counted. -/
structure IsEnt (L : List Nat) (E : List (Nat × Nat)) : Prop where
  up : E.Pairwise (fun a b => tk a.1 < tk b.1)
  mem : ∀ x c, (x, c) ∈ E ↔ x ∈ L ∧ c = L.count x
theorem IsEnt.nodup {L : List Nat} {E : List (Nat × Nat)} (h : IsEnt L E) : (E.map (·.1)).Nodup := by
  rw [List.Nodup, List.pairwise_map]
  exact h.up.imp (fun hlt e => by rw [e] at hlt; omega)
theorem IsEnt.keys {L : List Nat} {E : List (Nat × Nat)} (h : IsEnt L E) (x : Nat) : x ∈ E.map (·.1) ↔ x ∈ L := by
  rw [List.mem_map]
  constructor
  · rintro ⟨⟨y, c⟩, hp, rfl⟩; exact ((h.mem y c).1 hp).1
  · intro hx; exact ⟨(x, L.count x), (h.mem _ _).2 ⟨hx, rfl⟩, rfl⟩
/-- Of two lists that count alike the entries are the same. -/
theorem IsEnt.uniq {L M : List Nat} {E F : List (Nat × Nat)} (h : IsEnt L E) (k : IsEnt M F) (hp : L.Perm M) : E = F := by
  have hm : ∀ p, p ∈ E ↔ p ∈ F := by
    rintro ⟨x, c⟩
    rw [h.mem, k.mem, hp.mem_iff, hp.count_eq]
  have aux : ∀ (E F : List (Nat × Nat)), E.Pairwise (fun a b => tk a.1 < tk b.1) → F.Pairwise (fun a b => tk a.1 < tk b.1) → (∀ p, p ∈ E ↔ p ∈ F) → E = F := by
    intro E
    induction E with
    | nil => intro F _ _ hm; cases F with | nil => rfl | cons q F => exact absurd ((hm q).2 (List.mem_cons_self ..)) (by simp)
    | cons p E ih =>
      intro F hE hF hm
      cases F with
      | nil => exact absurd ((hm p).1 (List.mem_cons_self ..)) (by simp)
      | cons q F =>
        have hE1 := List.pairwise_cons.1 hE
        have hF1 := List.pairwise_cons.1 hF
        have e : p = q := by
          rcases List.mem_cons.1 ((hm p).1 (List.mem_cons_self ..)) with e | e
          · exact e
          · rcases List.mem_cons.1 ((hm q).2 (List.mem_cons_self ..)) with e2 | e2
            · exact e2.symm
            · have := hF1.1 p e; have := hE1.1 q e2; omega
        subst e
        refine congrArg (p :: ·) (ih F hE1.2 hF1.2 (fun r => ?_))
        constructor
        · intro hr
          rcases List.mem_cons.1 ((hm r).1 (List.mem_cons_of_mem _ hr)) with e | e
          · subst e; have := hE1.1 r hr; omega
          · exact e
        · intro hr
          rcases List.mem_cons.1 ((hm r).2 (List.mem_cons_of_mem _ hr)) with e | e
          · subst e; have := hF1.1 r hr; omega
          · exact e
  exact aux E F h.up k.up hm

theorem Try.info_ent : (Try.prog.info? 50).map (fun i => (i.zero, i.size, i.bytes)) = some (some (.agg #[.float .f64 0, .int .i64 0]), 2, 16) := by kernel_rfl

/-- While the entries are gathered. -/
structure Eg (w wr : World) (b r : Nat) (L : List Nat) (D : DataW Unit) (v : Value) (left : Lit → Bool) (cnt : Nat) (E : List (Nat × Nat)) : Prop where
  rg : wr.ranges Try.prog 56 (plainElem Try.prog 3) b r (Maps.size D) D left cnt
  own : wr.ownsRow w.heap.size 50 2 v E.length (flatE E)
  nn : v ≠ .slice none 0 0
  mem : ∀ x c, (x, c) ∈ E ↔ x ∈ L ∧ left (KL x) = false ∧ c = L.count x
  nd : (E.map (·.1)).Nodup
  bel : Below w.heap.size w wr
  rlt : w.heap.size ≤ r
theorem Eg.blk {w wr : World} {b r : Nat} {L : List Nat} {D : DataW Unit} {v : Value} {left : Lit → Bool} {cnt : Nat} {E : List (Nat × Nat)} (h : Eg w wr b r L D v left cnt E) : ∃ g cap, v = .slice (some ⟨g, 0, none⟩) E.length cap ∧ w.heap.size ≤ g ∧ g < wr.heap.size ∧ g ≠ r ∧ g ≠ b := by
  rcases h.own.2 with ⟨h1, _⟩ | ⟨g, cap, cur, h1, h2, h3, _⟩
  · exact absurd h1 h.nn
  · have hr := h.rg
    obtain ⟨es, clock, since, seen, c0, hb, _, _, _, hr, _⟩ := hr
    exact ⟨g, cap, h1, h2, (Array.getElem?_eq_some_iff.1 h3).1, (by rintro rfl; rw [hr] at h3; cases h3), (by rintro rfl; rw [hb] at h3; cases h3)⟩
theorem Eg.le {w wr : World} {b r : Nat} {L : List Nat} {D : DataW Unit} {v : Value} {left : Lit → Bool} {cnt : Nat} {E : List (Nat × Nat)} (h : Eg w wr b r L D v left cnt E) : E.length ≤ L.length := by
  have := len_sub (E.map (·.1)) L h.nd (fun x hx => by obtain ⟨⟨y, c⟩, hp, rfl⟩ := List.mem_map.1 hx; exact ((h.mem y c).1 hp).1)
  simpa using this

set_option maxHeartbeats 4000000 in
theorem entries18 {w : World} {g b : Nat} {j : Bool} {L : List Nat} (h : Tm w g b j L) (hl : L.length ≤ 1099511627776) :
    Calls Try.prog 13 #[.pointer (some ⟨g, 0, none⟩)] w fun r w' => (∃ v E, r = .returned v ∧ w'.ownsRow w.heap.size 50 2 v E.length (flatE E) ∧ IsEnt L E) ∧ Below w.heap.size w w' := by
  obtain ⟨i0, hi, hz0, hz1, hz2⟩ := info_parts Try.info_ent
  obtain ⟨D, hD, hC, l, l1, l2, l3⟩ := h.mp.keys
  have hll : l.length ≤ 1099511627776 := Nat.le_trans (len_sub l L l1 (fun x hx => List.count_pos_iff.1 ((l2 x).1 hx))) hl
  have hln := h.mp.len l1 l2 3
  obtain ⟨w1, hmk, hmo, hmg⟩ := run_make_own w w.heap.size 45 50 i0 _ 2 Try.underlying45 hi hz0 hz1 .i64 .i64 l.length (by rw [hz2]; omega) (by unfold maxLen; omega) (Nat.le_refl _)
  have c1 := h.tb.c1
  have d1 : w1.cell? ⟨g, 1, none⟩ = some (.map (some b)) := (World.cell?_of_block (a := ⟨g, 1, none⟩) (hmg.block g h.lt (by simp))).trans c1
  have hD1 := hD.kept hmg (by simp)
  have HH := Aside.intro h
  have X := (Aside.intro (And.intro hmo (And.intro hmg (And.intro hC (And.intro hl hD1)))))
  clear h hl hD hC l1 l2 l3 hmo hmg hD1
  go_enter Try.func13, Try.ntmps13
  go_wp2_with (first
    | (at_range; refine wpList_range_own _ rfl _ 62 rfl 56 3 law18 Try.underlying62 _ b _ D rfl X.out.2.2.2.2 ?_; intro w0 hrg0 hg0 hs0)
    | go_in)
  go_frame
  clear hln hmk c1 d1
  go_loopw [3, 17] (fun v _ wr => ∃ (left : Lit → Bool) (cnt : Nat) (E : List (Nat × Nat)), Aside (Eg w wr b w1.heap.size L D v left cnt E)) (fun _ _ wr => wr.rangeLeft b w1.heap.size)
  case atStart =>
    refine ⟨_, _, [], Aside.intro ⟨hrg0, ?_, by simp, fun x c => ?_, List.nodup_nil, ?_, X.out.2.1.size⟩⟩
    · exact X.out.1.kept hg0 (Or.inr (by simp [Value.ownBlock]))
    · constructor
      · intro hx; cases hx
      · rintro ⟨hx, hf, _⟩
        rw [(X.out.2.2.1.to x (List.count_pos_iff.2 hx)).2.1] at hf; cases hf
    · exact ((Below.refl _ w).grown X.out.2.1 (Nat.le_refl _) (fun k e => by cases e)).grown hg0 X.out.2.1.size (fun k e => by cases e)
  case round =>
    obtain ⟨left, cnt, E, HM⟩ := hrel
    clear hrg0 hg0 hs0
    obtain ⟨gE, cap, rfl, hgB, hgl, hgr, hgb⟩ := HM.out.blk
    have hEl := HM.out.le
    go_wp2_with (first
      | (at_next; refine wpList_next_ranges_ii _ rfl _ rfl 56 3 .u64 .i64 law18 Try.underlying56 Try.underlying3 b w1.heap.size _ _ _ _ rfl HM.out.rg ?_ ?_)
      | go_in)
    · intro hc0 hl0
      have HS := hid (sortE HM.out.own (fun p hp => by obtain ⟨x, c⟩ := p; exact (HH.out.v x ((HM.out.mem x c).1 hp).1).1) (by have := X.out.2.2.2.1; omega))
      go_wp2_with (go_at_call 35; refine HS.out.mono ?_; rintro e w' ⟨rfl, E', hp, hup, hO, hch⟩)
      go_ret
      refine ⟨⟨_, E', rfl, by rw [hp.length_eq]; exact hO, ⟨?_, fun x c => ?_⟩⟩, ?_⟩
      · have hnd : (E'.map (·.1)).Nodup := ((hp.map (·.1)).nodup_iff).2 HM.out.nd
        rw [List.Nodup, List.pairwise_map] at hnd
        refine (hup.and hnd).imp_of_mem ?_
        rintro ⟨x, c⟩ ⟨y, d⟩ hx hy ⟨h1, h2⟩
        have vx := HH.out.v x ((HM.out.mem x c).1 (hp.mem_iff.1 hx)).1
        have vy := HH.out.v y ((HM.out.mem y d).1 (hp.mem_iff.1 hy)).1
        have : tk x ≠ tk y := fun e => h2 (tk_inj vx vy e)
        simp only at h1 ⊢
        omega
      · rw [hp.mem_iff, HM.out.mem]
        simp [hl0]
      · exact HM.out.bel.trans (hch.below HM.out.bel.size (fun k e => by rw [e]; exact hgB))
    · intro x c w2 cnt1 hwx hwc hlx hat hrg1 hlt hg1 hs1 hen
      obtain ⟨y, rfl, hy, hyL, rfl⟩ := next_is X.out.2.2.1 hwx hat
      have hO1 := HM.out.own.kept hg1 (Or.inr (by simp [Value.ownBlock]; exact hgr))
      have hB1 := HM.out.bel.grown hg1 HM.out.bel.size (fun k e => by cases e; exact HM.out.rlt)
      obtain ⟨q, hq⟩ : ∃ q, q = L.count y := ⟨_, rfl⟩
      rw [← hq] at hen
      have Z := (Aside.intro (And.intro hO1 (And.intro hB1 (And.intro hq (And.intro hrg1 (And.intro hlt (And.intro hlx (And.intro hyL hy))))))))
      have hEl2 : E.length ≤ 1099511627776 := by have := X.out.2.2.2.1; omega
      clear hO1 hB1 hq hrg1 hlt hlx hyL hy hat hwx hwc hg1 hs1
      go_wp2_with (at_builtin; (refine wpList_append_own_at _ rfl _ _ 45 rfl w.heap.size 50 i0 (.agg #[.float .f64 0, .int .i64 0]) 2 16 Try.underlying45 hi hz0 hz1 hz2 rfl (by decide) _ _ _ rfl (Z.out.1.alloc _) ⟨w2.heap.size, 0, none⟩ 1 1 [.float .f64 y, .int .i64 q] rfl rfl ?qn ?qo ?qm ?qb ?qs ?_))
      case qn =>
        intro k u hk
        match k, hk with
        | 0, hk => simp at hk; subst hk; simp [Addr.add]
        | 1, hk => simp at hk; subst hk; simp [Addr.add]
        | k + 2, hk => simp at hk
      case qo => intro u hu; simp at hu; rcases hu with rfl | rfl <;> rfl
      case qm => unfold maxLen; omega
      case qb => omega
      case qs => have := Z.out.2.1.size; simp; omega
      intro v' w3 hO2 hg2 hn2 hl2
      go_wp2
      go_roundw
      case rel =>
        obtain ⟨hO1, hB1, hq, hrg1, hlt, hlx, hyL, hy⟩ := Z.out
        have hall : w2.grownBy w3 (some gE) := ((World.grownBy_alloc w2 _ none).but (some gE)).andThen hg2 (fun k e => Or.inr e)
        have hrg3 := hrg1.kept hall (by intro e; injection e with e; exact hgb e.symm) (by intro e; injection e with e; exact hgr e.symm)
        have hlf : left (KL y) = true := hlx
        refine ⟨_, _, E ++ [(y, q)], Aside.intro ⟨hrg3, ?_, ?_, fun x c => ?_, ?_, ?_, HM.out.rlt⟩⟩
        · rw [flatE_append, flatE_one, List.length_append]; exact hO2
        · exact hn2
        · rw [List.mem_append, HM.out.mem]
          simp only [List.mem_singleton, Prod.mk.injEq]
          show _ ↔ x ∈ L ∧ (left (KL x) && !(KL x).sameKey (KL y)) = false ∧ c = L.count x
          by_cases e : x = y
          · subst e
            have : (KL x).sameKey (KL x) = true := WideAt.sameKey_self (by trivial)
            simp [hlf, this, hyL, hq]
          · have : (KL x).sameKey (KL y) = false := Maps.sameKey_ne (fun e2 => e (KL_inj e2))
            simp [this, e]
        · rw [List.map_append, List.nodup_append]
          refine ⟨HM.out.nd, by simp, ?_⟩
          intro a ha b hb e
          simp at hb
          subst e; subst hb
          obtain ⟨⟨x, c⟩, hp, e⟩ := List.mem_map.1 ha
          simp only at e
          subst e
          have := ((HM.out.mem x c).1 hp).2.1
          rw [hlf] at this; cases this
        · exact hB1.grown hall hB1.size (fun k e => by injection e with e; rw [← e]; exact hgB)
      case measure =>
        obtain ⟨hO1, hB1, hq, hrg1, hlt, hlx, hyL, hy⟩ := Z.out
        have hall : w2.grownBy w3 (some gE) := ((World.grownBy_alloc w2 _ none).but (some gE)).andThen hg2 (fun k e => Or.inr e)
        have hrg3 := hrg1.kept hall (by intro e; injection e with e; exact hgb e.symm) (by intro e; injection e with e; exact hgr e.symm)
        rw [hrg3.left_eq, HM.out.rg.left_eq]; exact hlt
end Go.Proofs.Ytgnmnljmgmbmhaa
