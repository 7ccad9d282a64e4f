/- tally: Count, All, Unlike, Take. -/
import Derived.Test.YtgnmnljmgmbmhaaTA4
namespace Go.Proofs.Ytgnmnljmgmbmhaa
open Go.RowKit Go.Maps
set_option linter.unusedVariables false
set_option maxRecDepth 20000
set_option linter.unusedSimpArgs false
attribute [local go_sem] B.f64bits B.f64frombits st_float

set_option maxHeartbeats 2000000 in
theorem count18 {x : Nat} {w : World} {g b : Nat} {j : Bool} {L : List Nat} (hx : x < 18446744073709551616) (h : Tm w g b j L) :
    Calls Try.prog 18 #[.pointer (some ⟨g, 0, none⟩), .float .f64 x] w fun r w' => r = .returned (.int .i64 (L.count (vW j x) : Nat)) ∧ Below w.heap.size w w' := by
  have HK := hid (key18 hx h.tb)
  have HK2 := hid (key18 hx (Tm.drew h).tb)
  have HH := Aside.intro h
  have c1 := h.tb.c1
  have hgl := h.lt
  have hv := vW_isV (j := j) hx
  generalize vW j x = y at *
  have HV := Aside.intro hv
  clear h hx hv
  have kS : Aside (w.drew.cell? ⟨g, 1, none⟩ = some (.map (some b))) := c1
  clear c1 HK
  go_enter Try.func18, Try.ntmps18
  go_wp2_with fail
  go_region_held3 (fun w' => w'.cell? ⟨g, 1, none⟩ = some (.map (some b))) (with_reducible exact kS.out) (first
        | (go_at_call 33
           with_reducible refine HK2.out.mono ?_
           rintro r v ⟨rfl, hb⟩
           have HT := Aside.intro ((Tm.drew HH.out).below hb)
           have HB := Aside.intro hb
           have kS : Aside (v.cell? ⟨g, 1, none⟩ = some (.map (some b))) := HT.out.tb.c1
           have hlk := HT.out.mp.look HV.out.1
           clear hb))
  all_goals
    go_wp2
    go_ret
    exact ⟨rfl, HB.out.os, HB.out.tape, HB.out.output, HB.out.size, HB.out.block⟩
theorem all18 {w : World} {g b : Nat} {j : Bool} {L : List Nat} (h : Tm w g b j L) :
    Calls Try.prog 15 #[.pointer (some ⟨g, 0, none⟩)] w fun r w' => r = .returned (.int .i64 (L.length : Nat)) ∧ w' = w := by
  have c2 := h.tb.c2
  clear h
  go_enter Try.func15, Try.ntmps15
  go_wp2
  go_ret
  exact ⟨rfl, rfl⟩
theorem unlike18 {w : World} {g b : Nat} {j : Bool} {L : List Nat} (h : Tm w g b j L) {l : List Nat} (l1 : l.Nodup) (l2 : ∀ x, x ∈ l ↔ x ∈ L) :
    Calls Try.prog 19 #[.pointer (some ⟨g, 0, none⟩)] w fun r w' => r = .returned (.int .i64 (l.length : Nat)) ∧ w' = w := by
  have c1 := h.tb.c1
  have hln := h.mp.len l1 (fun x => by rw [l2 x]; exact List.count_pos_iff.symm) 3
  clear h l1 l2
  go_enter Try.func19, Try.ntmps19
  go_wp2
  go_ret
  exact ⟨rfl, rfl⟩
/-- One is counted less. -/
theorem count_erase18 (L : List Nat) (y z : Nat) : (L.erase y).count z = if z = y then L.count y - 1 else L.count z := by
  by_cases e : z = y
  · subst e; rw [if_pos rfl, List.count_erase_self]
  · rw [if_neg e, List.count_erase_of_ne (fun e2 => e (by first | exact e2 | exact e2.symm))]

set_option maxHeartbeats 4000000 in
theorem take18 {x : Nat} {w : World} {g b : Nat} {j : Bool} {L : List Nat} (hx : x < 18446744073709551616) (h : Tm w g b j L) (hl : L.length ≤ 1099511627776) :
    Calls Try.prog 12 #[.pointer (some ⟨g, 0, none⟩), .float .f64 x] w fun r w' => r = .returned (.bool (decide (vW j x ∈ L))) ∧ Tm w' g b j (L.erase (vW j x)) ∧ Ch (fun k => k = g ∨ k = b) w w' := by
  have HK := hid (key18 hx h.tb)
  have HH := Aside.intro h
  have hv := vW_isV (j := j) hx
  generalize vW j x = y at *
  have HV := Aside.intro hv
  obtain ⟨n, hn⟩ : ∃ n, n = L.length := ⟨_, rfl⟩
  have HN := Aside.intro hn
  obtain ⟨c, hc⟩ : ∃ c, c = L.count y := ⟨_, rfl⟩
  have HC := Aside.intro hc
  have hcl : c ≤ 1099511627776 := by rw [hc]; exact Nat.le_trans List.count_le_length hl
  have hnl : n ≤ 1099511627776 := by omega
  clear h hx hv hn hc hl
  by_cases h0 : c = 0
  · have hm : y ∉ L := by have := HC.out; rw [h0] at this; exact fun e => by have := List.count_pos_iff.2 e; omega
    have hd : decide (y ∈ L) = false := by simp [hm]
    rw [hd, List.erase_of_not_mem hm]
    clear hm hd
    subst h0
    go_enter Try.func12, Try.ntmps12
    go_wp2_with fail
    refine HK.out.mono ?_
    rintro r v ⟨rfl, hb⟩
    have HT := Aside.intro (HH.out.below hb)
    have HB := Aside.intro hb
    have c1 := HT.out.tb.c1
    have hlk := HT.out.mp.look HV.out.1
    simp only [← HC.out] at hlk
    clear hb
    go_wp2
    go_ret
    exact ⟨rfl, HT.out, Ch.of_below HB.out⟩
  · have hm : y ∈ L := by have := HC.out; exact List.count_pos_iff.1 (by omega)
    have hd : decide (y ∈ L) = true := by simp [hm]
    rw [hd]
    have HM0 := Aside.intro hm
    have hpos : 1 ≤ n := by have := HN.out; have := List.length_pos_of_mem hm; omega
    have hlen : (L.erase y).length = n - 1 := by have := HN.out; rw [List.length_erase_of_mem hm]; omega
    have HLE := Aside.intro hlen
    clear hm hd hlen
    have q0 : ((c : Int) == 0) = false := by simp; omega
    have d0 : decide ((c : Int) = 0) = false := by simp; omega
    have wn : IntKind.i64.wrap ((n : Int) - 1) = (n : Int) - 1 := by rw [IntKind.wrap_i64]; omega
    by_cases h1 : c = 1
    · subst h1
      go_enter Try.func12, Try.ntmps12
      go_wp2_with fail
      refine HK.out.mono ?_
      rintro r v ⟨rfl, hb⟩
      have HT := Aside.intro (HH.out.below hb)
      have HB := Aside.intro hb
      have c1 := HT.out.tb.c1
      have hlk := HT.out.mp.look HV.out.1
      simp only [← HC.out] at hlk
      obtain ⟨u, hup, hm, hg⟩ := HT.out.mp.drop HV.out.1 0
      have T2 : Tb u g b j n := by
        have := HT.out.tb
        rw [← HN.out] at this
        unfold Tb at this ⊢
        rw [hg.block g HT.out.lt (by intro e; injection e with e; exact HH.out.ne e)]; exact this
      have e2 := T2.c2
      have f2 := T2.fz 2
      have HT2 := Aside.intro T2
      have HM := Aside.intro (And.intro hm hg)
      clear hb hm hg T2
      go_wp2
      go_ret
      have T3 := HT2.out.set (n - 1)
      unfold Tb at T3
      rw [show ((n - 1 : Nat) : Int) = (n : Int) - 1 from by omega] at T3
      refine ⟨rfl, ⟨?_, ?_, HH.out.ne, ?_⟩, ?_⟩
      · rw [HLE.out]; unfold Tb; rw [show ((n - 1 : Nat) : Int) = (n : Int) - 1 from by omega]; exact T3
      · refine Mf.keep (w := u) (HM.out.1.congr fun z => ?_) ?_
        · rw [count_erase18, ← HC.out]
        · exact (Ch.of_set (s := fun k => k = g) ⟨g, 2, none⟩ _ rfl).block b (Nat.lt_of_lt_of_le HT.out.lt2 HM.out.2.size) (fun e => HH.out.ne e.symm)
      · intro z hz; exact HH.out.v z (List.mem_of_mem_erase hz)
      · have h0 : Ch (fun k => k = g ∨ k = b) w v := Ch.of_below HB.out
        exact (h0.trans (Ch.of_grown HM.out.2 (fun k e => Or.inr (by injection e with e; exact e.symm)))).trans (Ch.of_set _ _ (Or.inl rfl))
    · have q1 : ((c : Int) == 1) = false := by simp; omega
      have d1 : decide ((c : Int) = 1) = false := by simp; omega
      have wc : IntKind.i64.wrap ((c : Int) - 1) = (c : Int) - 1 := by rw [IntKind.wrap_i64]; omega
      go_enter Try.func12, Try.ntmps12
      go_wp2_with fail
      refine HK.out.mono ?_
      rintro r v ⟨rfl, hb⟩
      have HT := Aside.intro (HH.out.below hb)
      have HB := Aside.intro hb
      have c1 := HT.out.tb.c1
      have hlk := HT.out.mp.look HV.out.1
      simp only [← HC.out] at hlk
      obtain ⟨u, hup, hm, hg⟩ := HT.out.mp.store (L := L) (fun z hz => List.count_pos_iff.1 hz) (by have := HN.out; omega) HV.out.1 (c := c - 1) (by omega) (by omega)
      rw [show ((c - 1 : Nat) : Int) = (c : Int) - 1 from by omega] at hup
      have T2 : Tb u g b j n := by
        have := HT.out.tb
        rw [← HN.out] at this
        unfold Tb at this ⊢
        rw [hg.block g HT.out.lt (by intro e; injection e with e; exact HH.out.ne e)]; exact this
      have e2 := T2.c2
      have f2 := T2.fz 2
      have HT2 := Aside.intro T2
      have HM := Aside.intro (And.intro hm hg)
      clear hb hm hg T2
      go_wp2
      go_ret
      have T3 := HT2.out.set (n - 1)
      refine ⟨rfl, ⟨?_, ?_, HH.out.ne, ?_⟩, ?_⟩
      · rw [HLE.out]; unfold Tb at T3 ⊢; rw [show ((n - 1 : Nat) : Int) = (n : Int) - 1 from by omega] at T3; rw [show ((n - 1 : Nat) : Int) = (n : Int) - 1 from by omega]; exact T3
      · refine Mf.keep (w := u) (HM.out.1.congr fun z => ?_) ?_
        · rw [count_erase18, ← HC.out]
        · exact (Ch.of_set (s := fun k => k = g) ⟨g, 2, none⟩ _ rfl).block b (Nat.lt_of_lt_of_le HT.out.lt2 HM.out.2.size) (fun e => HH.out.ne e.symm)
      · intro z hz; exact HH.out.v z (List.mem_of_mem_erase hz)
      · have h0 : Ch (fun k => k = g ∨ k = b) w v := Ch.of_below HB.out
        exact (h0.trans (Ch.of_grown HM.out.2 (fun k e => Or.inr (by injection e with e; exact e.symm)))).trans (Ch.of_set _ _ (Or.inl rfl))
end Go.Proofs.Ytgnmnljmgmbmhaa
