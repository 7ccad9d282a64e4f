/- The document's Parse, at every text. -/
import Derived.Test.YtonhahbmdekkdaaDoorR1
namespace Go.Proofs.YtonhahbmdekkdaaDoor
open Go.RowKit
set_option linter.unusedVariables false
set_option maxRecDepth 20000

set_option maxHeartbeats 1000000 in
theorem rparse_lead (s : ByteArray) (w : World) (h2 : ¬ s.toList = []) (h3 : 0 < s.size) (h4 : s.toList.isEmpty = false) (h5 : (((s[0]'h3).toNat : Int) == 48) = true) (h6 : 1 < s.size) :
    Calls Tryd.prog 14 #[.string s] w fun r w' => r = .returned (.tuple #[.slice none 0 0, .int .i64 5]) ∧ w' = w := by
  have h7 : (1 : Int) < (s.size : Int) := by omega
  have h3i : (0 : Int) < (s.size : Int) := by omega
  go_enter Tryd.func14, Tryd.ntmps14
  go_wp2
  all_goals (
    try rw [Exit.noGoto_ret]
    go_ret2
    exact ⟨rfl, rfl⟩)

set_option maxHeartbeats 1000000 in
theorem rparse_nil (w : World) : Calls Tryd.prog 14 #[.string ⟨#[]⟩] w fun r w' => r = .returned (.tuple #[.slice none 0 0, .int .i64 5]) ∧ w' = w := by
  go_enter Tryd.func14, Tryd.ntmps14
  go_wp2
  all_goals (
    try rw [Exit.noGoto_ret]
    go_ret2
    exact ⟨rfl, rfl⟩)

theorem rParse_any (s : ByteArray) (w : World) (hbig : s.size ≤ 2000000) :
    Calls Tryd.prog 14 #[.string s] w fun r w' => One w.heap.size w' r (parseS (ltr s)) ∧ Below w.heap.size w w' := by
  by_cases hb : s.data.toList = []
  · have := ba_eq hb
    subst this
    refine (rparse_nil w).mono ?_
    rintro r w' ⟨rfl, rfl⟩
    have e : parseS (ltr ⟨([] : List UInt8).toArray⟩) = (0, 5) := by unfold parseS; rw [if_pos (.inl rfl)]
    rw [e]
    exact ⟨⟨_, rfl, Nt.nil _ _⟩, Below.refl _ _⟩
  · have h3 : 0 < s.size := by
      rcases Nat.eq_zero_or_pos s.size with h | h
      · exfalso; apply hb; apply List.length_eq_zero_iff.1; rw [Array.length_toList]; exact h
      · exact h
    have h2 : ¬ s.toList = [] := by rw [ba_toList]; exact hb
    have h4 : s.toList.isEmpty = false := by simpa using h2
    by_cases h5 : (((s[0]'h3).toNat : Int) == 48) = true
    · by_cases h6 : s.size = 1
      · exact rparse_b s w h2 h3 h4 h5 h6 hbig
      · refine (rparse_lead s w h2 h3 h4 h5 (by omega)).mono ?_
        rintro r w' ⟨rfl, rfl⟩
        have hv : (ltr s).getD 0 0 = 48 := by
          rw [ltr_get s 0 h3]
          have : ((s[0]'h3).toNat : Int) = 48 := by simpa using h5
          omega
        have e : parseS (ltr s) = (0, 5) := by unfold parseS; rw [if_pos (.inr (.inl ⟨hv, by rw [ltr_len]; omega⟩))]
        rw [e]
        exact ⟨⟨_, rfl, Nt.nil _ _⟩, Below.refl _ _⟩
    · exact rparse_a s w h2 h3 h4 (by simpa using h5) hbig
end Go.Proofs.YtonhahbmdekkdaaDoor
