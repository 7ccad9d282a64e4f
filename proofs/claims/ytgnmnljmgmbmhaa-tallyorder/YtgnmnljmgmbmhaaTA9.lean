/- tally: rows of entries that are read; Often; are two rows the same. -/
import Derived.Test.YtgnmnljmgmbmhaaTA8
namespace Go.Proofs.Ytgnmnljmgmbmhaa
open Go.RowKit
set_option linter.unusedVariables false
set_option maxRecDepth 20000
set_option linter.unusedSimpArgs false
attribute [local go_sem] B.f64bits B.f64frombits st_float

/-- A row of entries in memory. -/
def Er (w : World) (a : Option Addr) (E : List (Nat × Nat)) : Prop :=
  E ≠ [] → ∃ g, a = some ⟨g, 0, none⟩ ∧ g < w.heap.size ∧ ∀ i, i < E.length → w.cell? ⟨g, i * 2, none⟩ = some (.float .f64 (E.getD i (0, 0)).1) ∧ w.cell? ⟨g, i * 2 + 1, none⟩ = some (.int .i64 (E.getD i (0, 0)).2)
theorem Er.of {w : World} {B : Nat} {v : Value} {E : List (Nat × Nat)} (h : w.ownsRow B 50 2 v E.length (flatE E)) : ∃ a cap, v = .slice a E.length cap ∧ E.length ≤ cap ∧ Er w a E := by
  rcases h.2 with ⟨rfl, hn⟩ | ⟨g, cap, cur, rfl, hb, hg, hn, hm, hs, ht⟩
  · exact ⟨none, 0, by rw [hn], by omega, fun hne => absurd (List.eq_nil_of_length_eq_zero hn) hne⟩
  · refine ⟨some ⟨g, 0, none⟩, cap, rfl, hn, fun _ => ⟨g, rfl, (Array.getElem?_eq_some_iff.1 hg).1, fun i hi => ⟨?_, ?_⟩⟩⟩
    · rw [World.ownsRow.cellAt h (i * 2) (by omega), flatE_fst E i hi]
    · rw [World.ownsRow.cellAt h (i * 2 + 1) (by omega), flatE_snd E i hi]
theorem Er.below {w w' : World} {a : Option Addr} {E : List (Nat × Nat)} (h : Er w a E) (hb : Below w.heap.size w w') : Er w' a E := by
  intro hne
  obtain ⟨g, h1, h2, h3⟩ := h hne
  exact ⟨g, h1, Nat.lt_of_lt_of_le h2 hb.size, fun i hi => ⟨(hb.cell (p := ⟨g, i * 2, none⟩) h2).trans (h3 i hi).1, (hb.cell (p := ⟨g, i * 2 + 1, none⟩) h2).trans (h3 i hi).2⟩⟩
theorem Er.drewN {w : World} {a : Option Addr} {E : List (Nat × Nat)} (h : Er w a E) (n : Nat) : Er (w.drewN n) a E := h

theorem alike18 (x y : Nat) (w : World) : Calls Try.prog 29 #[.float .f64 x, .float .f64 y] w fun r w' => r = .returned (.bool (decide (x = y))) ∧ w' = w := by
  have e : ((x : Int) == (y : Int)) = decide (x = y) := by
    by_cases h : x = y
    · subst h; simp
    · have : ¬ ((x : Int) = (y : Int)) := by omega
      simp [h, this]
  go_enter Try.func29, Try.ntmps29
  go_wp2
  go_ret
  first | exact ⟨rfl, rfl⟩ | exact ⟨by rw [← e], rfl⟩ | (refine ⟨?_, rfl⟩; congr 2; simp)

set_option maxHeartbeats 2000000 in
theorem same18 {E : List (Nat × Nat)} {w : World} {a b : Option Addr} {c d : Nat} (ha : Er w a E) (hb : Er w b E) (hl : E.length ≤ 1099511627776) :
    Calls Try.prog 14 #[.slice a E.length c, .slice b E.length d] w fun r w' => r = .returned (.bool true) ∧ Below w.heap.size w w' := by
  obtain ⟨n, hn⟩ : ∃ n, n = E.length := ⟨_, rfl⟩
  rw [← hn] at hl ⊢
  have X := (Aside.intro (And.intro ha (And.intro hb hn)))
  have C := hid (fun (x : Nat) (w : World) => alike18 x x w)
  clear ha hb hn
  go_enter Try.func14, Try.ntmps14
  go_wp2
  go_loopw [5, 41] (fun i _ wr => ∃ k : Nat, k ≤ n ∧ i = .int .i64 k ∧ Aside (Er wr a E ∧ Er wr b E ∧ Below w.heap.size w wr)) (fun i _ _ => n - (intOf i).toNat)
  case atStart => exact ⟨0, Nat.zero_le _, rfl, Aside.intro ⟨X.out.1, X.out.2.1, Below.refl _ _⟩⟩
  case round =>
    obtain ⟨k, hk, rfl, HR⟩ := hrel
    by_cases hkn : k < n
    · have d1 : decide ((k : Int) < (n : Int)) = true := by simp; omega
      have hne : E ≠ [] := by have := X.out.2.2; rintro rfl; simp at this; omega
      obtain ⟨g, rfl, hg, hc⟩ := HR.out.1 hne
      obtain ⟨g2, rfl, hg2, hc2⟩ := HR.out.2.1 hne
      have hki : k < E.length := by have := X.out.2.2; omega
      obtain ⟨c0, c1⟩ := hc k hki
      obtain ⟨e0, e1⟩ := hc2 k hki
      generalize (E.getD k (0, 0)).1 = x at *
      generalize (E.getD k (0, 0)).2 = y at *
      have b0 : (0 : Int) ≤ (k : Int) := by omega
      have b1 : (k : Int) < (n : Int) := by omega
      have dq : decide ((y : Int) ≠ (y : Int)) = false := by simp
      have dq2 : ((y : Int) != (y : Int)) = false := by simp
      clear hc hc2
      go_wp2_with fail
      go_quiet (first | (go_at_call 29; exact Calls.quiet_of_same (C.out _ _)))
      go_wp2
      go_roundw
      case rel => exact ⟨k + 1, by omega, by first | rfl | simp, Aside.intro ⟨HR.out.1.drewN _, HR.out.2.1.drewN _, ⟨HR.out.2.2.os, HR.out.2.2.tape, HR.out.2.2.output, HR.out.2.2.size, HR.out.2.2.block⟩⟩⟩
      case measure => first | (simp [intOf]; omega) | omega
    · have d1 : decide ((k : Int) < (n : Int)) = false := by simp; omega
      go_wp2
      go_ret
      exact ⟨rfl, HR.out.2.2⟩
end Go.Proofs.Ytgnmnljmgmbmhaa
