/- The walk of BitsNarrows: at any number and any mode it returns true and changes nothing that was there. -/
import Derived.Test.YtedknjiipmppgabW7
import Derived.Test.YtedknjiipmppgabRN5
namespace Go.Proofs.Ytedknjiipmppgab
open Go.RowKit
attribute [local go_sem] f64bits f64frombits f32bits f32frombits

set_option maxHeartbeats 2000000 in
theorem narrows_core (X Z : Nat) (k c : Int)
    (H1 : Hid (∀ w, Calls Try.prog 12 #[.float .f64 X, .int .i64 k] w fun r w' => r = .returned (.tuple #[.float .f32 Z, .int .i64 c]) ∧ Below w.heap.size w w'))
    (H2 : Hid (∀ w, Calls Try.prog 13 #[.float .f64 X, .int .i64 k] w fun r w' => r = .returned (.tuple #[.float .f32 Z, .int .i64 c]) ∧ Below w.heap.size w w')) (w : World) :
    Calls Try.prog 5 #[.float .f64 X, .int .i64 k] w fun r w' => r = .returned (.bool true) ∧ Below w.heap.size w w' := by
  go_enter Try.func5, Try.ntmps5
  go_wp2_with fail
  refine (live_any _).mono ?_
  rintro r w1 ⟨rfl, b1⟩
  go_wp2_with fail
  refine (H1.out _).mono ?_
  rintro r w2 ⟨rfl, b2⟩
  replace b2 := b1.trans (b2.mono b1.size); clear b1
  go_wp2_with fail
  refine (H2.out _).mono ?_
  rintro r w3 ⟨rfl, b3⟩
  replace b3 := b2.trans (b3.mono b2.size); clear b2
  go_wp2_with fail
  go_ret
  exact ⟨rfl, b3⟩

theorem same_below {P : Program} {f : FuncId} {args : Array Value} {v : Value} (h : ∀ w, Calls P f args w fun r w' => r = .returned v ∧ w' = w) : ∀ w, Calls P f args w fun r w' => r = .returned v ∧ Below w.heap.size w w' :=
  fun w => (h w).mono fun _ _ ⟨h1, h2⟩ => ⟨h1, h2 ▸ Below.refl _ _⟩

theorem narrows_alike (s : Bool) (e f : Nat) (k : Int) (he : e < 2048) (hf : f < 4503599627370496) : ∃ (Z : Nat) (c : Int),
    (∀ w, Calls Try.prog 12 #[.float .f64 (bw s e f), .int .i64 k] w fun r w' => r = .returned (.tuple #[.float .f32 Z, .int .i64 c]) ∧ Below w.heap.size w w') ∧
    (∀ w, Calls Try.prog 13 #[.float .f64 (bw s e f), .int .i64 k] w fun r w' => r = .returned (.tuple #[.float .f32 Z, .int .i64 c]) ∧ Below w.heap.size w w') := by
  by_cases h1 : k < 0
  · exact ⟨0, 1, same_below (narrow_err _ k (Or.inl h1)), same_below (rnw_low _ k h1)⟩
  · by_cases h2 : 4 < k
    · exact ⟨0, 1, same_below (narrow_err _ k (Or.inr h2)), same_below (rnw_high _ k h1 h2)⟩
    · have k0 : 0 ≤ k := by omega
      have k4 : k ≤ 4 := by omega
      cases ho : odd e f
      · have hno := not_odd e f ho
        by_cases h7 : e = 2047
        · have hf0 : f = 0 := by omega
          subst h7 hf0
          refine ⟨_, _, narrow_end s k k0 k4, ?_⟩
          cases s
          · exact rnw_end_f _ k k0 k4 0 0 (rSplit_end false)
          · exact rnw_end_t _ k k0 k4 0 0 (rSplit_end true)
        · by_cases hz : e * 4503599627370496 + f = 0
          · have he0 : e = 0 := by omega
            have hf0 : f = 0 := by omega
            subst he0 hf0
            refine ⟨_, _, narrow_zero s k k0 k4, ?_⟩
            have hs : ∀ w, Calls Try.prog 35 #[.float .f64 (bw s 0 0)] w fun r w' => r = .returned (.agg #[.bool s, .int .i64 0, .int .i64 (-1074), .int .u64 0]) ∧ Below w.heap.size w w' := by
              intro w; rw [← splitV_nought s 0 0 rfl (by simp)]; exact rSplit_any s 0 0 (by omega) (by omega) w
            cases s
            · exact rnw_zero_f _ k k0 k4 (-1074) 0 hs
            · exact rnw_zero_t _ k k0 k4 (-1074) 0 hs
          · have hc : (cls e f == 4) = false ∧ (cls e f == 3) = false ∧ (cls e f == 0) = false := by
              unfold cls
              rw [if_neg h7]
              by_cases h : e = 0
              · rw [if_pos h, if_neg (by omega)]; exact ⟨rfl, rfl, rfl⟩
              · rw [if_neg h]; exact ⟨rfl, rfl, rfl⟩
            have hx : -1074 ≤ xp e ∧ xp e ≤ 971 := by
              unfold xp; rw [if_neg h7]; split <;> omega
            have hg : 0 < fr e f ∧ fr e f < 9007199254740992 := by
              unfold fr; rw [if_neg h7]; split <;> omega
            obtain ⟨gn, hgn⟩ := Int.eq_ofNat_of_zero_le (Int.le_of_lt hg.1)
            have H0 := rSplit_fin s e f (by omega) hf
            rw [hgn] at H0 hg
            have hV : val Ieee.double (e * 4503599627370496 + f) = gn * 2 ^ (xp e + 1074).toNat := by
              have hgn2 := hgn
              unfold fr at hgn2
              rw [if_neg h7] at hgn2
              unfold xp
              rw [if_neg h7]
              by_cases h : e = 0
              · subst h
                rw [if_pos rfl] at hgn2
                rw [if_pos rfl, val_small f hf, show f = gn from by omega]
              · rw [if_neg h] at hgn2
                rw [if_neg h, val_plain e f (by omega) hf, show f + 4503599627370496 = gn from by omega]
            obtain ⟨q, hq, H2⟩ := rnw_fin s (bw s e f) gn (cls e f) k (xp e) (by omega) (by omega) hx.1 hx.2 k0 k4 hc.1 hc.2.1 hc.2.2 H0
            rw [← hV] at hq H2
            exact ⟨_, _, narrow_fin s e f q k (by omega) hf (by omega) k0 k4 hq, H2⟩
      · refine ⟨_, _, narrow_odd s e f k he hf ho k0 k4, ?_⟩
        have hs : ∀ w, Calls Try.prog 35 #[.float .f64 (bw s e f)] w fun r w' => r = .returned (.agg #[.bool false, .int .i64 4, .int .i64 0, .int .u64 0]) ∧ Below w.heap.size w w' := by
          intro w; rw [← splitV_odd s e f (is_odd e f ho).1 (by simp [(is_odd e f ho).2])]; exact rSplit_any s e f he hf w
        exact rnw_odd_f _ k k0 k4 0 0 hs

theorem narrows_wf64 {b : Nat} (h : (Lit.float .f64 b).wf = true) : b < 18446744073709551616 := by
  simpa [Lit.wf] using h

theorem walk_BitsNarrows (a : Nat) (k : Int) (ha : (Lit.float .f64 a).wf = true) (_ : (Lit.int .i64 k).wf = true) (w : World) :
    Calls Try.prog 5 #[.float .f64 a, .int .i64 k] w fun r w' => r = .returned (.bool true) ∧ Below w.heap.size w w' := by
  obtain ⟨s, e, f, he, hf, rfl⟩ := bw_of a (narrows_wf64 ha)
  obtain ⟨Z, c, H1, H2⟩ := narrows_alike s e f k he hf
  exact narrows_core _ Z k c H1 H2 w
end Go.Proofs.Ytedknjiipmppgab
