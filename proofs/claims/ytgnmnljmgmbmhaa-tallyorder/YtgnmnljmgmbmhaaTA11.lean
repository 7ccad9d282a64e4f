/- tally: the chapter's first example, in part (awake). -/
import Derived.Test.YtgnmnljmgmbmhaaTA10
namespace Go.Proofs.Ytgnmnljmgmbmhaa
open Go.RowKit
set_option linter.unusedVariables false
set_option maxRecDepth 20000
set_option linter.unusedSimpArgs false
attribute [local go_sem] B.f64bits B.f64frombits st_float

/-- What is counted of a list that is added from the front on. -/
def addL (j : Bool) (xs : List Nat) (k : Nat) : List Nat := ((xs.take k).map (vW j)).reverse
theorem addL_zero (j : Bool) (xs : List Nat) : addL j xs 0 = [] := by simp [addL]
theorem addL_step {j : Bool} {xs : List Nat} {k : Nat} (hk : k < xs.length) : addL j xs (k + 1) = vW j (xs.getD k 0) :: addL j xs k := by
  unfold addL
  rw [List.take_add_one, List.map_append, List.reverse_append, List.getElem?_eq_getElem hk, List.getD_eq_getElem?_getD, List.getElem?_eq_getElem hk]
  rfl
theorem addL_len (j : Bool) (xs : List Nat) (k : Nat) : (addL j xs k).length ≤ k := by unfold addL; simp; omega

theorem rOf18 (n : Nat) (w : World) : Calls Try.prog 20 #[.int .u64 n] w fun r w' => r = .returned (.float .f64 n) ∧ w' = w := by
  go_enter Try.func20, Try.ntmps20
  go_wp2
  go_ret
  exact ⟨by simp, rfl⟩

def awL : List Nat := [4611686018427387904, 9223372036854775808, 0, 4611686018427387904]
theorem awL1 : addL false awL 4 = [4611686018427387904, 0, 9223372036854775808, 4611686018427387904] := by decide
theorem awL2 : addL true awL 4 = [4611686018427387904, 0, 0, 4611686018427387904] := by decide
theorem ent1 {E : List (Nat × Nat)} (h : IsEnt (addL false awL 4) E) : E = [(9223372036854775808, 1), (0, 1), (4611686018427387904, 2)] := by
  rw [awL1] at h
  refine h.uniq (M := [4611686018427387904, 0, 9223372036854775808, 4611686018427387904]) ⟨by decide, fun x c => ?_⟩ (List.Perm.refl _)
  have h1 : List.count 4611686018427387904 [4611686018427387904, 0, 9223372036854775808, 4611686018427387904] = 2 := by decide
  have h2 : List.count 0 [4611686018427387904, 0, 9223372036854775808, 4611686018427387904] = 1 := by decide
  have h3 : List.count 9223372036854775808 [4611686018427387904, 0, 9223372036854775808, 4611686018427387904] = 1 := by decide
  simp only [List.mem_cons, Prod.mk.injEq, List.not_mem_nil, or_false]
  constructor
  · rintro (⟨rfl, rfl⟩ | ⟨rfl, rfl⟩ | ⟨rfl, rfl⟩)
    · exact ⟨by simp, h3.symm⟩
    · exact ⟨by simp, h2.symm⟩
    · exact ⟨by simp, h1.symm⟩
  · rintro ⟨rfl | rfl | rfl | rfl, rfl⟩
    · exact Or.inr (Or.inr ⟨rfl, h1⟩)
    · exact Or.inr (Or.inl ⟨rfl, h2⟩)
    · exact Or.inl ⟨rfl, h3⟩
    · exact Or.inr (Or.inr ⟨rfl, h1⟩)
theorem ent2 {E : List (Nat × Nat)} (h : IsEnt (addL true awL 4) E) : E = [(0, 2), (4611686018427387904, 2)] := by
  rw [awL2] at h
  refine h.uniq (M := [4611686018427387904, 0, 0, 4611686018427387904]) ⟨by decide, fun x c => ?_⟩ (List.Perm.refl _)
  have h1 : List.count 4611686018427387904 [4611686018427387904, 0, 0, 4611686018427387904] = 2 := by decide
  have h2 : List.count 0 [4611686018427387904, 0, 0, 4611686018427387904] = 2 := by decide
  simp only [List.mem_cons, Prod.mk.injEq, List.not_mem_nil, or_false]
  constructor
  · rintro (⟨rfl, rfl⟩ | ⟨rfl, rfl⟩)
    · exact ⟨by simp, h2.symm⟩
    · exact ⟨by simp, h1.symm⟩
  · rintro ⟨rfl | rfl | rfl | rfl, rfl⟩
    · exact Or.inr ⟨rfl, h1⟩
    · exact Or.inl ⟨rfl, h2⟩
    · exact Or.inl ⟨rfl, h2⟩
    · exact Or.inr ⟨rfl, h1⟩

/-- Two Tallies and a list. -/
structure Aw (w wr : World) (g b g2 b2 gl : Nat) (L M : List Nat) : Prop where
  t : Tm wr g b false L
  u : Tm wr g2 b2 true M
  n : g ≠ g2 ∧ g ≠ b2 ∧ b ≠ g2 ∧ b ≠ b2 ∧ gl ≠ g ∧ gl ≠ b ∧ gl ≠ g2 ∧ gl ≠ b2
  ge : w.heap.size ≤ g ∧ w.heap.size ≤ b ∧ w.heap.size ≤ g2 ∧ w.heap.size ≤ b2
  l : gl < wr.heap.size ∧ ∀ i, i < 4 → wr.cell? ⟨gl, i, none⟩ = some (.float .f64 (awL.getD i 0))
  bel : Below w.heap.size w wr
theorem Aw.t1 {w wr v : World} {g b g2 b2 gl : Nat} {L M L' : List Nat} (h : Aw w wr g b g2 b2 gl L M) (ht : Tm v g b false L') (hc : Ch (fun k => k = g ∨ k = b) wr v) : Aw w v g b g2 b2 gl L' M :=
  ⟨ht, h.u.keep hc (by have := h.n; omega) (by have := h.n; omega), h.n, h.ge, ⟨Nat.lt_of_lt_of_le h.l.1 hc.size, fun i hi => (World.cell?_of_block (a := ⟨gl, i, none⟩) (hc.block gl h.l.1 (by have := h.n; omega))).trans (h.l.2 i hi)⟩, h.bel.trans (hc.below h.bel.size (fun k e => by have := h.ge; omega))⟩
theorem Aw.t2 {w wr v : World} {g b g2 b2 gl : Nat} {L M M' : List Nat} (h : Aw w wr g b g2 b2 gl L M) (ht : Tm v g2 b2 true M') (hc : Ch (fun k => k = g2 ∨ k = b2) wr v) : Aw w v g b g2 b2 gl L M' :=
  ⟨h.t.keep hc (by have := h.n; omega) (by have := h.n; omega), ht, h.n, h.ge, ⟨Nat.lt_of_lt_of_le h.l.1 hc.size, fun i hi => (World.cell?_of_block (a := ⟨gl, i, none⟩) (hc.block gl h.l.1 (by have := h.n; omega))).trans (h.l.2 i hi)⟩, h.bel.trans (hc.below h.bel.size (fun k e => by have := h.ge; omega))⟩
theorem Aw.below {w wr v : World} {g b g2 b2 gl : Nat} {L M : List Nat} (h : Aw w wr g b g2 b2 gl L M) (hb : Below wr.heap.size wr v) : Aw w v g b g2 b2 gl L M :=
  h.t1 (h.t.below hb) (Ch.of_below hb)

set_option maxHeartbeats 4000000 in
theorem awake18 (w : World) : Calls Try.prog 5 #[] w fun r w' => r = .returned (.bool true) ∧ Below w.heap.size w w' := by
  have HO := hid (fun w => rOf18 9223372036854775808 w)
  go_enter Try.func5, Try.ntmps5
  go_wp2_with (go_at_call 9; refine (new18 false w).mono ?_; rintro r w1 ⟨rfl, h1, hb1⟩)
  obtain ⟨g, hg⟩ : ∃ g, g = w.heap.size + 1 := ⟨_, rfl⟩
  obtain ⟨b, hb⟩ : ∃ b, b = w.heap.size := ⟨_, rfl⟩
  rw [← hg, ← hb] at h1
  rw [← hg]
  have X1 := (Aside.intro (And.intro h1 (And.intro hb1 (And.intro hg hb))))
  clear h1 hb1 hg hb
  go_wp2_with fail
  refine (new18 true w1).mono ?_
  rintro r w2 ⟨rfl, h2, hb2⟩
  obtain ⟨g2, hg2⟩ : ∃ g2, g2 = w1.heap.size + 1 := ⟨_, rfl⟩
  obtain ⟨b2, hbb2⟩ : ∃ b2, b2 = w1.heap.size := ⟨_, rfl⟩
  rw [← hg2, ← hbb2] at h2
  rw [← hg2]
  have X2 := (Aside.intro (And.intro h2 (And.intro hb2 (And.intro hg2 hbb2))))
  clear h2 hb2 hg2 hbb2
  go_wp2_with (go_at_call 20; refine (HO.out _).mono ?_; rintro r w3 ⟨rfl, rfl⟩)
  obtain ⟨gl, hgl⟩ : ∃ gl, gl = w3.heap.size := ⟨_, rfl⟩
  have A0 : Aside (Aw w (w3.alloc (.cells #[.float .f64 4611686018427387904, .float .f64 9223372036854775808, .float .f64 0, .float .f64 4611686018427387904] 30)) g b g2 b2 gl (addL false awL 0) (addL true awL 0)) := by
    have e1 := X1.out.1.lt
    have e2 := X1.out.1.lt2
    have e3 := X2.out.1.lt
    have e4 := X2.out.1.lt2
    have e5 := X1.out.2.2.1
    have e6 := X1.out.2.2.2
    have e7 := X2.out.2.2.1
    have e8 := X2.out.2.2.2
    have e9 := X1.out.2.1.size
    have e10 := X2.out.2.1.size
    have hA : Ch (fun _ => False) w3 (w3.alloc (.cells #[.float .f64 4611686018427387904, .float .f64 9223372036854775808, .float .f64 0, .float .f64 4611686018427387904] 30)) := Ch.alloc _ _
    rw [addL_zero, addL_zero]
    refine ⟨(X1.out.1.below X2.out.2.1).keep hA id id, X2.out.1.keep hA id id, by omega, by omega, ⟨by rw [hgl]; simp, fun i hi => ?_⟩, ?_⟩
    · rw [hgl]
      match i, hi with
      | 0, _ => simp [awL]
      | 1, _ => simp [awL]
      | 2, _ => simp [awL]
      | 3, _ => simp [awL]
    · exact (X1.out.2.1.trans (Ch.below (Ch.of_below (s := fun _ => False) X2.out.2.1) X1.out.2.1.size (fun k e => e.elim))).trans (hA.below (by omega) (fun k e => e.elim))
  rw [← hgl]
  clear X1 X2 hgl
  generalize w3.alloc _ = w6 at *
  go_loopw [4, 44] (fun i _ wr => ∃ k : Nat, k ≤ 4 ∧ i = .int .i64 k ∧ Aside (Aw w wr g b g2 b2 gl (addL false awL k) (addL true awL k))) (fun i _ _ => 4 - (intOf i).toNat)
  case atStart => exact ⟨0, by omega, rfl, A0⟩
  case round =>
    obtain ⟨k, hk, rfl, HR⟩ := hrel
    clear A0
    by_cases hkn : k < 4
    · have d1 : decide ((k : Int) < 4) = true := by simp; omega
      have b0 : (0 : Int) ≤ (k : Int) := by omega
      have b1 : (k : Int) < 4 := by omega
      have c0 := HR.out.l.2 k hkn
      have hxl : awL.getD k 0 < 18446744073709551616 := by
        match k, hkn with
        | 0, _ => decide
        | 1, _ => decide
        | 2, _ => decide
        | 3, _ => decide
      have hst1 := addL_step (j := false) (xs := awL) (k := k) hkn
      have hst2 := addL_step (j := true) (xs := awL) (k := k) hkn
      have hl1 := addL_len false awL k
      have hl2 := addL_len true awL k
      obtain ⟨x, hx⟩ : ∃ x, x = awL.getD k 0 := ⟨_, rfl⟩
      rw [← hx] at c0 hxl hst1 hst2
      have Y := (Aside.intro (And.intro hst1 (And.intro hst2 (And.intro hl1 (And.intro hl2 (And.intro hxl hx))))))
      clear hst1 hst2 hx
      have C1 := hid (add18 hxl HR.out.t (by omega))
      clear hl1 hl2
      go_wp2_with fail
      refine C1.out.mono ?_
      rintro r w4 ⟨rfl, t4, ch4⟩
      have HR4 := Aside.intro (HR.out.t1 t4 ch4)
      have c4 := HR4.out.l.2 k hkn
      rw [← Y.out.2.2.2.2.2] at c4
      have C2 := hid (add18 Y.out.2.2.2.2.1 HR4.out.u (by have := Y.out.2.2.2.1; omega))
      clear t4 ch4 C1 c0
      go_wp2_with fail
      refine C2.out.mono ?_
      rintro r w5 ⟨rfl, t5, ch5⟩
      have HR5 := Aside.intro (HR4.out.t2 t5 ch5)
      clear t5 ch5 C2 c4
      go_wp2
      go_roundw
      case rel => exact ⟨k + 1, by omega, by first | rfl | simp, Aside.intro (by rw [Y.out.1, Y.out.2.1]; exact HR5.out)⟩
      case measure => first | (simp [intOf]; omega) | omega
    · have d1 : decide ((k : Int) < 4) = false := by simp; omega
      obtain rfl : k = 4 := by omega
      have C1 := hid (entries18 HR.out.t (by rw [awL1]; decide))
      go_wp2_with fail
      refine C1.out.mono ?_
      rintro r v1 ⟨⟨a1, E, rfl, hO1, hE1⟩, hb1⟩
      obtain ⟨a, cap, rfl, hcap, her⟩ := Er.of hO1
      have HR1 := Aside.intro (HR.out.below hb1)
      rw [ent1 hE1] at hcap ⊢
      clear hO1 hE1 hb1 her C1
      have C2 := hid (entries18 HR1.out.u (by rw [awL2]; decide))
      go_wp2_with fail
      refine C2.out.mono ?_
      rintro r v2 ⟨⟨a2, E2, rfl, hO2, hE2⟩, hb2⟩
      obtain ⟨a', cap', rfl, hcap', her2⟩ := Er.of hO2
      have HR2 := Aside.intro (HR1.out.below hb2)
      rw [ent2 hE2] at hcap' her2 ⊢
      obtain ⟨gb, rfl, hgb, hcb⟩ := her2 (by simp)
      have hq := (hcb 0 (by simp)).2
      have hq2 : v2.cell? ⟨gb, 1, none⟩ = some (.int .i64 2) := hq
      have HQ := (Aside.intro (And.intro hq2 hgb))
      clear hO2 hE2 hb2 her2 C2 hcb hq hq2 hgb
      have C3 := hid (often18 HR2.out.t (by rw [awL1]; decide))
      go_wp2_with fail
      refine C3.out.mono ?_
      rintro r v3 ⟨⟨E3, hE3, rfl⟩, hb3⟩
      have HR3 := Aside.intro (HR2.out.below hb3)
      rw [ent1 hE3]
      have hq3 : v3.cell? ⟨gb, 1, none⟩ = some (.int .i64 2) := (hb3.cell (p := ⟨gb, 1, none⟩) HQ.out.2).trans HQ.out.1
      have hgb3 : gb < v3.heap.size := Nat.lt_of_lt_of_le HQ.out.2 hb3.size
      have hmo : mostE [(9223372036854775808, 1), (0, 1), (4611686018427387904, 2)] = (4611686018427387904, 2) := by decide
      rw [hmo]
      have hne3 : gb ≠ v3.heap.size := by omega
      have hn9 : (addL false awL 4).length = 4 := by rw [awL1]; rfl
      obtain ⟨W, hW⟩ : ∃ W, W = v3.alloc (.cells #[.float .f64 4611686018427387904, .int .i64 2] 50) := ⟨_, rfl⟩
      have HR4 : Aside (Aw w W g b g2 b2 gl (addL false awL 4) (addL true awL 4)) := by rw [hW]; exact HR3.out.t1 (HR3.out.t.keep (Ch.alloc (s := fun _ => False) _ _) id id) (Ch.alloc _ _)
      have C4 := hid (all18 HR4.out.t)
      have C5 := hid (unlike18 HR4.out.t (l := [9223372036854775808, 0, 4611686018427387904]) (by decide) (fun x => by rw [awL1]; simp only [List.mem_cons, List.not_mem_nil, or_false]; exact ⟨by rintro (h | h | h) <;> simp [h], by rintro (h | h | h | h) <;> simp [h]⟩))
      have C6 := hid (count18 (x := 9223372036854775808) (by decide) HR4.out.u)
      have hn8 : (List.count (vW true 9223372036854775808) (addL true awL 4)) = 2 := by rw [awL2]; decide
      rw [hn9] at C4
      rw [hn8] at C6
      clear hE3 hb3 C3 HQ
      go_wp2_with fail
      rw [← hW]
      clear hW
      refine C4.out.mono ?_
      rintro r W1 ⟨rfl, hW1⟩
      subst hW1
      go_wp2_with fail
      refine C5.out.mono ?_
      rintro r W2 ⟨rfl, hW2⟩
      subst hW2
      go_wp2_with fail
      refine (HO.out _).mono ?_
      rintro r W3 ⟨rfl, hW3⟩
      subst hW3
      go_wp2_with fail
      refine C6.out.mono ?_
      rintro r W4 ⟨rfl, hb4⟩
      go_wp2
      go_ret
      exact ⟨rfl, HR4.out.bel.trans (Ch.below (Ch.of_below (s := fun _ => False) hb4) HR4.out.bel.size (fun k e => e.elim))⟩
end Go.Proofs.Ytgnmnljmgmbmhaa
