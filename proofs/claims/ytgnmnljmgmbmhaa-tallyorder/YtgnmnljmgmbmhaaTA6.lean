/- tally: Merge of another one. -/
import Derived.Test.YtgnmnljmgmbmhaaTA5
namespace Go.Proofs.Ytgnmnljmgmbmhaa
open Go.RowKit Go.Maps
set_option linter.unusedVariables false
set_option maxRecDepth 20000
set_option linter.unusedSimpArgs false
attribute [local go_sem] B.f64bits B.f64frombits st_float

/-- What is no longer to come, as it is counted. -/
def gone (M : List Nat) (left : Lit → Bool) : List Nat := M.filter (fun x => !left (KL x))
theorem gone_step {M : List Nat} {left : Lit → Bool} {x : Nat} (hx : left (KL x) = true) : (gone M (fun z => left z && !z.sameKey (KL x))).Perm (gone M left ++ List.replicate (M.count x) x) := by
  rw [List.perm_iff_count]
  intro a
  have hf : ∀ p : Nat → Bool, (M.filter p).count a = if p a then M.count a else 0 := by
    intro p
    by_cases h : p a = true
    · rw [if_pos h, List.count_filter h]
    · rw [if_neg h]
      refine List.count_eq_zero.2 (fun hm => h (List.mem_filter.1 hm).2)
  unfold gone
  rw [List.count_append, hf, hf, List.count_replicate]
  by_cases e : a = x
  · subst e
    rw [hx]
    have : (KL a).sameKey (KL a) = true := WideAt.sameKey_self (by trivial)
    simp [this]
  · have : (KL a).sameKey (KL x) = false := Maps.sameKey_ne (fun e2 => e (KL_inj e2))
    have e2 : (x == a) = false := by simp; exact fun e3 => e e3.symm
    simp only [this, e2]
    simp
theorem gone_start {M : List Nat} {left : Lit → Bool} (h : ∀ x ∈ M, left (KL x) = true) : gone M left = [] := by
  unfold gone
  rw [List.filter_eq_nil_iff]
  intro x hx; simp [h x hx]
theorem gone_end {M : List Nat} {left : Lit → Bool} (h : ∀ k, left k = false) : gone M left = M := by
  unfold gone
  rw [List.filter_eq_self]
  intro x hx; simp [h]
theorem gone_sub (M : List Nat) (left : Lit → Bool) : (gone M left).length ≤ M.length := List.length_filter_le _ _
/-- The entry that comes next. -/
theorem next_is {D : DataW Unit} {M : List Nat} (hC : Cn D (fun x => M.count x)) {x c : Int} (hwx : (Lit.int .u64 x).wf = true) (hat : ∀ zd, D.atKey (.int .u64 x) zd = .lit (.int .i64 c)) : ∃ y : Nat, x = y ∧ y < 18446744073709551616 ∧ y ∈ M ∧ c = (M.count y : Nat) := by
  have hh := Maps.has_true_of_atKey hat
  obtain ⟨y, e, hy⟩ := hC.fro _ hh
  unfold KL at e
  injection e with _ e
  subst e
  have h1 := (hC.to y hy)
  have h2 := (hat (.lit (.int .i64 0))).symm.trans (h1.2.2 _)
  injection h2 with h2
  injection h2 with _ h2
  exact ⟨y, rfl, h1.1, List.count_pos_iff.1 hy, h2⟩

theorem Ch.step {s : Nat → Prop} {w a b : World} {r : Nat} (h : Ch s w a) (hg : a.grownBy b (some r)) (hr : w.heap.size ≤ r) : Ch s w b :=
  ⟨hg.os.trans h.os, hg.tape.trans h.tape, hg.output.trans h.output, Nat.le_trans h.size hg.size, fun i hi hs => (hg.block i (Nat.lt_of_lt_of_le hi h.size) (by intro e; injection e with e; omega)).trans (h.block i hi hs)⟩
theorem grown_of_below {a b : World} (h : Below a.heap.size a b) : a.grownBy b none := ⟨h.os, h.tape, h.output, h.size, fun i hi _ => h.block i hi⟩
theorem grown_drew (a : World) : a.grownBy a.drew none := ⟨rfl, rfl, rfl, Nat.le_refl _, fun i hi _ => rfl⟩
theorem grown_drewN (a : World) (n : Nat) : a.grownBy (a.drewN n) none := ⟨rfl, rfl, rfl, Nat.le_refl _, fun i hi _ => rfl⟩

/-- While one is merged into another. -/
structure Mg (w wr : World) (g b g2 b2 r : Nat) (j j2 : Bool) (L M : List Nat) (D : DataW Unit) (left : Lit → Bool) (cnt : Nat) : Prop where
  rg : wr.ranges Try.prog 56 (plainElem Try.prog 3) b2 r (Maps.size D) D left cnt
  mp : Mf wr b (fun y => (L ++ (gone M left).map (vW j)).count y)
  tb : Tb wr g b j L.length
  tb2 : Tb wr g2 b2 j2 M.length
  ch : Ch (fun k => k = g ∨ k = b) w wr
  rlt : w.heap.size ≤ r

set_option maxHeartbeats 4000000 in
theorem merge18 {w : World} {g b g2 b2 : Nat} {j j2 : Bool} {L M : List Nat} (h : Tm w g b j L) (h2 : Tm w g2 b2 j2 M) (n1 : g ≠ g2) (n2 : g ≠ b2) (n3 : b ≠ g2) (n4 : b ≠ b2) (hl : L.length + M.length ≤ 1099511627776) :
    Calls Try.prog 11 #[.pointer (some ⟨g, 0, none⟩), .pointer (some ⟨g2, 0, none⟩)] w fun r w' => r = .returned (.int .i64 0) ∧ Tm w' g b j (L ++ M.map (vW j)) ∧ Ch (fun k => k = g ∨ k = b) w w' := by
  have HH := Aside.intro h
  have HH2 := Aside.intro h2
  have c2 := h.tb.c2
  have d1 := h2.tb.c1
  have d2 := h2.tb.c2
  obtain ⟨n, hn⟩ : ∃ n, n = L.length := ⟨_, rfl⟩
  obtain ⟨m, hm⟩ : ∃ m, m = M.length := ⟨_, rfl⟩
  rw [← hn] at c2
  rw [← hm] at d2
  have HN := (Aside.intro (And.intro hn hm))
  have hnm : n + m ≤ 1099511627776 := by omega
  have dd : decide ((1099511627776 : Int) < (n : Int) + (m : Int)) = false := by simp; omega
  have NE := (Aside.intro (And.intro n1 (And.intro n2 (And.intro n3 n4))))
  clear h h2 hn hm hl n1 n2 n3 n4
  go_enter Try.func11, Try.ntmps11
  go_wp2_with fail
  go_quiet (fail)
  obtain ⟨W, hW⟩ : ∃ W, W = w.drewN nq := ⟨_, rfl⟩
  have hT : Tm W g b j L := by rw [hW]; exact ⟨HH.out.tb, HH.out.mp.keep rfl, HH.out.ne, HH.out.v⟩
  have hT2 : Tm W g2 b2 j2 M := by rw [hW]; exact ⟨HH2.out.tb, HH2.out.mp.keep rfl, HH2.out.ne, HH2.out.v⟩
  have hCh : Ch (fun k => k = g ∨ k = b) w W := by rw [hW]; exact Ch.of_grown (grown_drewN w _) (fun k e => by cases e)
  have e1 : W.cell? ⟨g2, 1, none⟩ = _ := hT2.tb.c1
  have HT := (Aside.intro (And.intro hT (And.intro hT2 hCh)))
  obtain ⟨D, hD, hC⟩ := hT2.mp
  have HD := (Aside.intro (And.intro hD hC))
  clear hT hT2 hCh c2 d1 d2 hD hC
  rw [← hW]
  clear hW
  go_wp2_with (first
    | (at_range; refine wpList_range_own _ rfl _ 62 rfl 56 3 law18 Try.underlying62 _ b2 _ D rfl HD.out.1 ?_; intro w0 hrg0 hg0 hs0)
    | go_in)
  go_frame
  clear e1
  go_loopw [22] (fun _ wr => ∃ (left : Lit → Bool) (cnt : Nat), Aside (Mg w wr g b g2 b2 W.heap.size j j2 L M D left cnt)) (fun _ wr => wr.rangeLeft b2 W.heap.size)
  case atStart =>
    refine ⟨_, _, Aside.intro ⟨hrg0, ?_, ?_, ?_, HT.out.2.2.trans (Ch.of_grown hg0 (fun k e => by cases e)), HT.out.2.2.size⟩⟩
    · rw [gone_start (fun x hx => (HD.out.2.to x (List.count_pos_iff.2 hx)).2.1)]
      have := HT.out.1.mp.keep (hg0.block b HT.out.1.lt2 (by simp))
      simpa using this
    · have := HT.out.1.tb; unfold Tb at this ⊢; rw [hg0.block g HT.out.1.lt (by simp)]; exact this
    · have := HT.out.2.1.tb; unfold Tb at this ⊢; rw [hg0.block g2 HT.out.2.1.lt (by simp)]; exact this
  case round =>
    obtain ⟨left, cnt, HM⟩ := hrel
    clear hrg0 hg0 hs0
    go_wp2_with (first
      | (at_next; refine wpList_next_ranges_ii _ rfl _ rfl 56 3 .u64 .i64 law18 Try.underlying56 Try.underlying3 b2 W.heap.size _ _ _ _ rfl HM.out.rg ?_ ?_)
      | go_in)
    · intro hc0 hl0
      have k2 := HM.out.tb.c2
      have k3 := HM.out.tb2.c2
      have f2 := HM.out.tb.fz 2
      rw [← HN.out.1] at k2
      rw [← HN.out.2] at k3
      go_wp2
      go_region
      all_goals
        go_wp2
        go_ret
        have hnn := HN.out
        refine ⟨rfl, ⟨?_, ?_, HH.out.ne, ?_⟩, ?_⟩
        · have T3 := HM.out.tb.set (n + m)
          have e : ((n + m : Nat) : Int) = (n : Int) + m := by omega
          rw [List.length_append, List.length_map, ← hnn.1, ← hnn.2]
          unfold Tb at T3 ⊢
          rw [e] at T3 ⊢
          exact T3
        · refine Mf.keep (w := wr) ?_ ?_
          · have := HM.out.mp
            rw [gone_end hl0] at this
            exact this
          · exact (Ch.of_set (s := fun k => k = g) (a := wr) ⟨g, 2, none⟩ _ rfl).block b HM.out.mp.lt (fun e => HH.out.ne e.symm)
        · intro z hz
          rcases List.mem_append.1 hz with hz | hz
          · exact HH.out.v z hz
          · obtain ⟨q, hq, rfl⟩ := List.mem_map.1 hz
            exact vW_isV (HH2.out.v q hq).1
        · exact HM.out.ch.trans ((Ch.of_set (s := fun k => k = g ∨ k = b) (a := wr.drew) ⟨g, 2, none⟩ _ (Or.inl rfl)).undrew)
    · intro x c w1 cnt1 hwx hwc hlx hat hrg1 hlt hg1 hs1 hen
      obtain ⟨y, rfl, hy, hyM, rfl⟩ := next_is HD.out.2 hwx hat
      have hne : W.heap.size ≠ g ∧ W.heap.size ≠ b ∧ W.heap.size ≠ g2 ∧ W.heap.size ≠ b2 := by
        have := HM.out.rlt; have := HH.out.lt; have := HH.out.lt2; have := HH2.out.lt; have := HH2.out.lt2
        omega
      have T1 : Tb w1 g b j L.length := by have := HM.out.tb; unfold Tb at this ⊢; rw [hg1.block g HM.out.tb.lt (by intro e; injection e with e; exact hne.1 e.symm)]; exact this
      have T2 : Tb w1 g2 b2 j2 M.length := by have := HM.out.tb2; unfold Tb at this ⊢; rw [hg1.block g2 HM.out.tb2.lt (by intro e; injection e with e; exact hne.2.2.1 e.symm)]; exact this
      have M1 : Mf w1 b (fun y => (L ++ (gone M left).map (vW j)).count y) := HM.out.mp.keep (hg1.block b HM.out.mp.lt (by intro e; injection e with e; exact hne.2.1 e.symm))
      have HK := hid (key18 (w := w1.drew) hy T1)
      have c1 : Aside (w1.drew.cell? ⟨g, 1, none⟩ = some (.map (some b))) := T1.c1
      have kS := c1
      obtain ⟨z, hz⟩ : ∃ z, z = vW j y := ⟨_, rfl⟩
      have hzl : z < 18446744073709551616 := by rw [hz]; exact vW_lt hy
      rw [← hz] at HK
      obtain ⟨k, hk⟩ : ∃ k, k = M.count y := ⟨_, rfl⟩
      obtain ⟨c0, hc0⟩ : ∃ c0, c0 = (L ++ (gone M left).map (vW j)).count z := ⟨_, rfl⟩
      have hc0l : c0 ≤ 1099511627776 := by
        have h1 : c0 ≤ (L ++ (gone M left).map (vW j)).length := by rw [hc0]; exact List.count_le_length
        have h2 := gone_sub M left
        have := HN.out
        simp only [List.length_append, List.length_map] at h1
        omega
      have hkl : k ≤ 1099511627776 := by
        have h1 : k ≤ M.length := by rw [hk]; exact List.count_le_length
        have := HN.out; omega
      have hk1 : 1 ≤ k := by rw [hk]; exact List.count_pos_iff.2 hyM
      have hw1 : IntKind.i64.wrap ((c0 : Int) + (k : Int)) = (c0 : Int) + (k : Int) := by rw [IntKind.wrap_i64]; omega
      rw [← hk] at hen
      have X := (Aside.intro (And.intro T1 (And.intro T2 (And.intro M1 (And.intro hz (And.intro hk (And.intro hc0 (And.intro hrg1 (And.intro hg1 (And.intro hs1 (And.intro hne (And.intro hlx (And.intro hlt (And.intro hyM hzl))))))))))))))
      clear T1 T2 M1 hz hk hc0 hrg1 hg1 hs1 hne hlx hlt hyM hat hwx hwc c1 hzl hy
      go_wp2_with fail
      go_region_held3 (fun w' => w'.cell? ⟨g, 1, none⟩ = some (.map (some b))) (first | with_reducible exact kS.out | with_reducible exact kU.out) (first
        | (go_at_call 33
           with_reducible refine HK.out.mono ?_
           rintro r v ⟨rfl, hb⟩
           have HB := Aside.intro hb
           have TV := X.out.1.below (w := w1.drew) X.out.1.lt hb
           have kS : Aside (v.cell? ⟨g, 1, none⟩ = some (.map (some b))) := TV.c1
           have MV : Mf v b (fun y => (L ++ (gone M left).map (vW j)).count y) := X.out.2.2.1.keep (hb.block b X.out.2.2.1.lt)
           have hlk := MV.look X.out.2.2.2.2.2.2.2.2.2.2.2.2.2
           simp only [← X.out.2.2.2.2.2.1] at hlk
           obtain ⟨u, hup, hm, hg⟩ := MV.store (L := L ++ M.map (vW j)) (fun q hq => by
              rcases List.mem_append.1 (List.count_pos_iff.1 hq) with h | h
              · exact List.mem_append_left _ h
              · obtain ⟨p, hp, rfl⟩ := List.mem_map.1 h
                exact List.mem_append_right _ (List.mem_map_of_mem (List.mem_filter.1 hp).1)) (by have := HN.out; simp only [List.length_append, List.length_map]; omega) X.out.2.2.2.2.2.2.2.2.2.2.2.2.2 (c := c0 + k) (by omega) (by omega)
           rw [show ((c0 + k : Nat) : Int) = (c0 : Int) + (k : Int) from by omega] at hup
           have HU := (Aside.intro (And.intro hm (And.intro hg TV)))
           have kU : Aside (u.cell? ⟨g, 1, none⟩ = some (.map (some b))) := (World.cell?_of_block (a := ⟨g, 1, none⟩) (hg.block g TV.lt (by intro e; injection e with e; exact HH.out.ne e))).trans TV.c1
           clear hb hm hg TV MV))
      all_goals
        obtain ⟨T1, T2, M1, hz, hk, hc0, hrg1, hg1, hs1, hne, hlx, hlt, hyM, hzl⟩ := X.out
        have gw := grown_of_below (a := w1.drew) HB.out
        have hrg2 := ((hrg1.kept (grown_drew w1) (by simp) (by simp)).kept gw (by simp) (by simp)).kept HU.out.2.1 (by intro e; injection e with e; exact NE.out.2.2.2 e.symm) (by intro e; injection e with e; exact hne.2.1 e)
        go_wp2
        go_roundw
        case rel =>
          refine ⟨_, _, Aside.intro ⟨hrg2, ?_, ?_, ?_, ?_, HM.out.rlt⟩⟩
          · refine HU.out.1.congr fun q => ?_
            have hp := ((gone_step (M := M) hlx).map (vW j)).count_eq q
            show _ = List.count q (L ++ List.map (vW j) (gone M (fun z => left z && !z.sameKey (KL y))))
            have e9 : List.count q (L ++ List.map (vW j) (gone M (fun z => left z && !z.sameKey (KL y)))) = List.count q L + (List.count q (List.map (vW j) (gone M left)) + List.count q (List.replicate k z)) := by
              rw [List.count_append, hp, List.map_append, List.count_append, List.map_replicate, ← hk, ← hz]
            rw [e9, List.count_replicate]
            by_cases e : q = z
            · subst e
              have e8 : c0 = List.count q L + List.count q (List.map (vW j) (gone M left)) := by rw [hc0, List.count_append]
              simp only [if_true, beq_self_eq_true]
              omega
            · have e2 : (z == q) = false := by simp; exact fun e3 => e e3.symm
              rw [if_neg e, e2]
              simp only [List.count_append, Bool.false_eq_true, if_false, Nat.add_zero]
          · have := HU.out.2.2; unfold Tb at this ⊢; rw [HU.out.2.1.block g HU.out.2.2.lt (by intro e; injection e with e; exact HH.out.ne e)]; exact this
          · have h8 := T2.below (w := w1.drew) T2.lt HB.out
            have h7 := h8.lt
            unfold Tb at h8 ⊢; rw [HU.out.2.1.block g2 h7 (by intro e; injection e with e; exact NE.out.2.2.1 e.symm)]; exact h8
          · exact ((HM.out.ch.step hg1 HM.out.rlt).trans (Ch.of_below (a := w1.drew) HB.out).undrew).trans (Ch.of_grown HU.out.2.1 (fun k e => Or.inr (by injection e with e; exact e.symm)))
        case measure => rw [hrg2.left_eq, HM.out.rg.left_eq]; exact hlt
end Go.Proofs.Ytgnmnljmgmbmhaa
