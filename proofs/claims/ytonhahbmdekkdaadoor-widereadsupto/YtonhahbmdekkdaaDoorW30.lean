/- Parse, at every text. -/
import Derived.Test.YtonhahbmdekkdaaDoorW29
namespace Go.Proofs.YtonhahbmdekkdaaDoor
open Go.RowKit
set_option linter.unusedVariables false
set_option maxRecDepth 20000

theorem ba_eq {s : ByteArray} {l : List UInt8} (h : s.data.toList = l) : s = ⟨l.toArray⟩ := by
  cases s with
  | mk d => simp at h; subst h; simp

set_option maxHeartbeats 1000000 in
theorem parse_lead (s : ByteArray) (w : World) (h1 : (s.toList == [48]) = false) (h2 : ¬ s.toList = []) (h3 : 0 < s.size) (h4 : s.toList.isEmpty = false) (h5 : (((s[0]'h3).toNat : Int) == 48) = true) :
    Calls Tryd.prog 13 #[.string s] w fun r w' => r = .returned (.tuple #[.slice none 0 0, .int .i64 5]) ∧ w' = w := by
  go_enter Tryd.func13, Tryd.ntmps13
  go_wp2
  go_step3
  go_wp2
  all_goals (
    try rw [Exit.noGoto_ret]
    go_ret2
    exact ⟨rfl, rfl⟩)

set_option maxHeartbeats 1000000 in
theorem parse_zero (w : World) : Calls Tryd.prog 13 #[.string ⟨#[48]⟩] w fun r w' => r = .returned (.tuple #[.slice none 0 0, .int .i64 0]) ∧ w' = w := by
  go_enter Tryd.func13, Tryd.ntmps13
  go_wp2
  go_step3
  go_wp2
  all_goals (
    try rw [Exit.noGoto_ret]
    go_ret2
    exact ⟨rfl, rfl⟩)

set_option maxHeartbeats 1000000 in
theorem parse_nil (w : World) : Calls Tryd.prog 13 #[.string ⟨#[]⟩] w fun r w' => r = .returned (.tuple #[.slice none 0 0, .int .i64 5]) ∧ w' = w := by
  go_enter Tryd.func13, Tryd.ntmps13
  go_wp2
  go_step3
  go_wp2
  all_goals (
    try rw [Exit.noGoto_ret]
    go_ret2
    exact ⟨rfl, rfl⟩)

theorem Parse_any (s : ByteArray) (w : World) (hbig : s.size ≤ 9223372036854775807) :
    Calls Tryd.prog 13 #[.string s] w fun r w' => One w.heap.size w' r (parseS (ltr s)) ∧ Below w.heap.size w w' := by
  by_cases ha : s.data.toList = [48]
  · have := ba_eq ha
    subst this
    refine (parse_zero w).mono ?_
    rintro r w' ⟨rfl, rfl⟩
    have e : parseS (ltr ⟨([48] : List UInt8).toArray⟩) = (0, 0) := by
      unfold parseS
      rw [if_neg (by decide), if_neg]
      · rfl
      · have : pn (ltr ⟨([48] : List UInt8).toArray⟩) (ltr ⟨([48] : List UInt8).toArray⟩).length = 0 := by decide
        rw [this]; unfold LG; rw [ws_zero]; simp
    rw [e]
    exact ⟨⟨_, rfl, Nt.nil _ _⟩, Below.refl _ _⟩
  · by_cases hb : s.data.toList = []
    · have := ba_eq hb
      subst this
      refine (parse_nil w).mono ?_
      rintro r w' ⟨rfl, rfl⟩
      have e : parseS (ltr ⟨([] : List UInt8).toArray⟩) = (0, 5) := by unfold parseS; rw [if_pos (.inl rfl)]
      rw [e]
      exact ⟨⟨_, rfl, Nt.nil _ _⟩, Below.refl _ _⟩
    · have h3 : 0 < s.size := by
        rcases Nat.eq_zero_or_pos s.size with h | h
        · exfalso; apply hb; apply List.length_eq_zero_iff.1; rw [Array.length_toList]; exact h
        · exact h
      have h1 : (s.toList == [48]) = false := by rw [ba_toList]; simp [ha]
      have h2 : ¬ s.toList = [] := by rw [ba_toList]; exact hb
      have h4 : s.toList.isEmpty = false := by simpa using h2
      by_cases h5 : (((s[0]'h3).toNat : Int) == 48) = true
      · refine (parse_lead s w h1 h2 h3 h4 h5).mono ?_
        rintro r w' ⟨rfl, rfl⟩
        have hv : (ltr s).getD 0 0 = 48 := by rw [ltr_get s 0 h3]; have : ((s[0]'h3).toNat : Int) = 48 := by simpa using h5
                                              omega
        have hl : 1 < (ltr s).length := by
          rw [ltr_len]
          by_cases hs : s.size = 1
          · exfalso
            apply ha
            have hd : s.data.toList.length = 1 := by rw [Array.length_toList]; exact hs
            obtain ⟨x, hx⟩ := List.length_eq_one_iff.1 hd
            rw [hx]
            unfold ltr at hv
            rw [hx] at hv
            simp at hv
            have : x = 48 := UInt8.toNat_inj.1 (by simpa using hv)
            rw [this]
          · omega
        have e : parseS (ltr s) = (0, 5) := by unfold parseS; rw [if_pos (.inr (.inl ⟨hv, hl⟩))]
        rw [e]
        exact ⟨⟨_, rfl, Nt.nil _ _⟩, Below.refl _ _⟩
      · exact parse_core s w h1 h2 h3 h4 (by simpa using h5) hbig
end Go.Proofs.YtonhahbmdekkdaaDoor
