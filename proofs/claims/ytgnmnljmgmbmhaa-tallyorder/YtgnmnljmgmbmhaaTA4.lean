/- tally: New, Add. -/
import Derived.Test.YtgnmnljmgmbmhaaTA3
import Derived.Deep.RegionHeld3
import Derived.Deep.QuietTactic
import Derived.BigQuiet
namespace Go.Proofs.Ytgnmnljmgmbmhaa
open Go.RowKit Go.Maps
set_option linter.unusedVariables false
set_option maxRecDepth 20000
set_option linter.unusedSimpArgs false
attribute [local go_sem] B.f64bits B.f64frombits st_float

/-- A Tally in memory, with what it has counted. -/
structure Tm (w : World) (g b : Nat) (j : Bool) (L : List Nat) : Prop where
  tb : Tb w g b j L.length
  mp : Mf w b (fun x => L.count x)
  ne : g ≠ b
  v : ∀ x ∈ L, isV j x
theorem Tm.lt {w : World} {g b : Nat} {j : Bool} {L : List Nat} (h : Tm w g b j L) : g < w.heap.size := h.tb.lt
theorem Tm.lt2 {w : World} {g b : Nat} {j : Bool} {L : List Nat} (h : Tm w g b j L) : b < w.heap.size := h.mp.lt
theorem Tm.keep {s : Nat → Prop} {w w' : World} {g b : Nat} {j : Bool} {L : List Nat} (h : Tm w g b j L) (hc : Ch s w w') (h1 : ¬ s g) (h2 : ¬ s b) : Tm w' g b j L :=
  ⟨by have := h.tb; unfold Tb at this ⊢; rw [hc.block g h.lt h1]; exact this, h.mp.keep (hc.block b h.lt2 h2), h.ne, h.v⟩
theorem Tm.below {w w' : World} {g b : Nat} {j : Bool} {L : List Nat} (h : Tm w g b j L) (hc : Below w.heap.size w w') : Tm w' g b j L := h.keep (Ch.of_below (s := fun _ => False) hc) id id
theorem Tm.drew {w : World} {g b : Nat} {j : Bool} {L : List Nat} (h : Tm w g b j L) : Tm w.drew g b j L := ⟨h.tb, h.mp.keep rfl, h.ne, h.v⟩

theorem new18 (j : Bool) (w : World) :
    Calls Try.prog 9 #[.bool j] w fun r w' => r = .returned (.pointer (some ⟨w.heap.size + 1, 0, none⟩)) ∧ Tm w' (w.heap.size + 1) w.heap.size j [] ∧ Below w.heap.size w w' := by
  have hmm := @run_makeMap Try.prog
  go_enter Try.func9, Try.ntmps9
  go_wp2
  go_ret
  refine ⟨rfl, ⟨?_, (Mf.made w).keep ?_, by omega, fun x hx => by cases hx⟩, ?_⟩
  · unfold Tb
    have := (MapKept.heap_alloc (w.alloc (.map #[] 0)) (.cells #[.bool j, .map (some w.heap.size), .int .i64 0] 64)).1
    simpa using this
  · have := (MapKept.heap_alloc (w.alloc (.map #[] 0)) (.cells #[.bool j, .map (some w.heap.size), .int .i64 0] 64)).2 w.heap.size (by simp)
    exact this
  · exact ((Below.refl _ w).alloc (Nat.le_refl _) _).alloc (by simp) _

set_option maxHeartbeats 2000000 in
theorem add18 {x : Nat} {w : World} {g b : Nat} {j : Bool} {L : List Nat} (hx : x < 18446744073709551616) (h : Tm w g b j L) (hl : L.length < 1099511627776) :
    Calls Try.prog 10 #[.pointer (some ⟨g, 0, none⟩), .float .f64 x] w fun r w' => r = .returned (.int .i64 0) ∧ Tm w' g b j (vW j x :: L) ∧ Ch (fun k => k = g ∨ k = b) w w' := by
  have HK := hid (key18 hx (Tm.drew h).tb)
  have HH := Aside.intro h
  have c1 := (Tm.drew h).tb.c1
  have c2 := h.tb.c2
  have hgl := h.lt
  have hv := vW_isV (j := j) hx
  obtain ⟨y, hy⟩ : ∃ y, y = vW j x := ⟨_, rfl⟩
  rw [← hy] at HK hv ⊢
  have HV := Aside.intro hv
  have d1 : decide ((1099511627776 : Int) ≤ (L.length : Int)) = false := by simp; omega
  obtain ⟨n, hn⟩ : ∃ n, n = L.length := ⟨_, rfl⟩
  have HN := Aside.intro hn
  rw [← hn] at d1 c2 hl
  obtain ⟨c, hc⟩ : ∃ c, c = L.count y := ⟨_, rfl⟩
  have hcl : c < 1099511627776 := by rw [hc]; exact Nat.lt_of_le_of_lt List.count_le_length (by omega)
  have HC := Aside.intro hc
  have kS : Aside (w.drew.cell? ⟨g, 1, none⟩ = some (.map (some b))) := c1
  clear h hx hy hv hn hc c1
  go_enter Try.func10, Try.ntmps10
  go_wp2_with fail
  go_region_held3 (fun w' => w'.cell? ⟨g, 1, none⟩ = some (.map (some b))) (first | with_reducible exact kS.out | with_reducible exact kU.out) (first
        | (go_at_call 33
           with_reducible refine HK.out.mono ?_
           rintro r v ⟨rfl, hb⟩
           have HT := Aside.intro ((Tm.drew HH.out).below hb)
           have HB := Aside.intro hb
           have kS : Aside (v.cell? ⟨g, 1, none⟩ = some (.map (some b))) := HT.out.tb.c1
           have hlk := HT.out.mp.look HV.out.1
           simp only [← HC.out] at hlk
           obtain ⟨u, hup, hm, hg⟩ := HT.out.mp.store (L := L) (fun z hz => List.count_pos_iff.1 hz) (by have := HN.out; omega) HV.out.1 (c := c + 1) (by omega) (by omega)
           rw [show ((c + 1 : Nat) : Int) = (c : Int) + 1 from by omega] at hup
           have hw1 : IntKind.i64.wrap ((c : Int) + 1) = (c : Int) + 1 := by rw [IntKind.wrap_i64]; omega
           have HM := Aside.intro (And.intro hm hg)
           have kU : Aside (u.cell? ⟨g, 1, none⟩ = some (.map (some b))) := (World.cell?_of_block (a := ⟨g, 1, none⟩) (hg.block g HT.out.lt (by intro e; injection e with e; exact HH.out.ne e))).trans HT.out.tb.c1
           clear hb hm hg))
  all_goals
    have T2 : Tb u g b j n := by
      have := HT.out.tb
      rw [← HN.out] at this
      unfold Tb at this ⊢
      rw [HM.out.2.block g HT.out.lt (by intro e; injection e with e; exact HH.out.ne e)]; exact this
    have e2 := T2.c2
    have f2 := T2.fz 2
    have HT2 := Aside.intro T2
    clear T2 kU
    go_wp2
    go_ret
    have T3 := HT2.out.set (n + 1)
    have hnl := HN.out
    have hcc := HC.out
    refine ⟨rfl, ⟨?_, ?_, HH.out.ne, ?_⟩, ?_⟩
    · rw [List.length_cons, ← hnl]; exact T3
    · refine Mf.keep (w := u) (HM.out.1.congr fun z => ?_) ?_
      · by_cases e : z = y
        · subst e; rw [if_pos rfl, List.count_cons_self, ← hcc]
        · rw [if_neg e, List.count_cons_of_ne (fun e2 => e e2.symm)]
      · exact (Ch.of_set (s := fun k => k = g) ⟨g, 2, none⟩ _ rfl).block b (Nat.lt_of_lt_of_le HT.out.lt2 HM.out.2.size) (fun e => HH.out.ne e.symm)
    · intro z hz
      rcases List.mem_cons.1 hz with rfl | hz
      · exact HV.out
      · exact HH.out.v z hz
    · have h0 : Ch (fun k => k = g ∨ k = b) w v := (Ch.of_below (a := w.drew) HB.out).undrew
      exact (h0.trans (Ch.of_grown HM.out.2 (fun k e => Or.inr (by injection e with e; exact e.symm)))).trans (Ch.of_set _ _ (Or.inl rfl))
end Go.Proofs.Ytgnmnljmgmbmhaa
