/- Both Joins, at any parts: the same answer. -/
import Derived.Test.YtedknjiipmppgaaW10
namespace Go.Proofs.Ytedknjiipmppgaa
open Go.RowKit

theorem cb_nan : cb false 2047 2251799813685248 = bw false 2047 2251799813685248 := by rw [cb_odd _ _ _ ⟨rfl, by omega⟩]; rfl

theorem splitV_nan (s : Bool) (e f : Nat) (h : e = 2047 ∧ f ≠ 0) : splitV s e f = splitV false 2047 2251799813685248 := by
  rw [splitV_odd s e f h.1 (by simp [h.2]), splitV_odd false 2047 2251799813685248 rfl (by simp)]

/-- Join at parts that a number has. -/
theorem join_valid (s : Bool) (e f : Nat) (he : e < 2048) (hf : f < 4503599627370496) (w : World) :
    Calls Try.prog 18 #[splitV s e f] w fun r w' => r = .returned (.tuple #[.float .f64 (cb s e f), .int .i64 0]) ∧ Below w.heap.size w w' := by
  by_cases h : e = 2047 ∧ f ≠ 0
  · rw [splitV_nan s e f h, cb_odd s e f h]
    refine join_same false 2047 2251799813685248 (by omega) (by omega) (fun w => ?_) w
    have := asm_valid false 2047 2251799813685248 (by omega) (by omega) w
    rw [cb_nan] at this
    exact this
  · rw [cb_else s e f h]
    refine join_same s e f he hf (fun w => ?_) w
    have := asm_valid s e f he hf w
    rw [cb_else s e f h] at this
    exact this

/-- the document's Join at parts that a number has. -/
theorem rjoin_valid (s : Bool) (e f : Nat) (he : e < 2048) (hf : f < 4503599627370496) (w : World) :
    Calls Try.prog 19 #[splitV s e f] w fun r w' => r = .returned (.tuple #[.float .f64 (cb s e f), .int .i64 0]) ∧ Below w.heap.size w w' := by
  by_cases h1 : e = 2047
  · by_cases h2 : f = 0
    · rw [splitV_end s e f h1 (by simp [h2]), cb_else s e f (by omega), h1, h2]; exact rjoin_end s w
    · rw [splitV_odd s e f h1 (by simp; omega), cb_odd s e f ⟨h1, h2⟩]; exact rjoin_odd w
  · rw [cb_else s e f (by omega)]
    by_cases h3 : e = 0
    · by_cases h2 : f = 0
      · have hs := splitV_nought s 0 0 rfl (by simp)
        rw [h3, h2, hs]
        refine rjoin_same0 s (-1074) 0 (bw s 0 0) (by omega) (by omega) (by omega) (by omega) (fun w => make_is s 0 (-1074) 0 0 (by omega) (by omega) (by omega) (by omega) (by omega) (val_small 0 (by omega)) w) (fun w => ?_) w
        rw [← hs]; exact rSplit_any s 0 0 (by omega) (by omega) w
      · have hs := splitV_small s 0 f rfl (by simp; omega)
        rw [h3, hs]
        refine rjoin_same1 s (-1074) f (bw s 0 f) (by omega) (by omega) (by omega) (by omega) (fun w => make_is s f (-1074) 0 f (by omega) (by omega) (by omega) (by omega) hf (val_small f hf) w) (fun w => ?_) w
        rw [← hs]; exact rSplit_any s 0 f (by omega) hf w
    · have hs := splitV_plain s e f h1 h3
      rw [hs]
      refine rjoin_same2 s ((e : Int) - 1075) ((f : Int) + 4503599627370496) (bw s e f) (by omega) (by omega) (by omega) (by omega) (fun w => ?_) (fun w => ?_) w
      · have := make_is s (f + 4503599627370496) ((e : Int) - 1075) e f (by omega) (by omega) (by omega) (by omega) hf (val_plain e f (by omega) hf) w
        rwa [show ((f + 4503599627370496 : Nat) : Int) = (f : Int) + 4503599627370496 from by omega] at this
      · rw [← hs]; exact rSplit_any s e f he hf w

/-- what a finite number's parts say, with its sign as it is. -/
theorem splitV_fin (s : Bool) (e f : Nat) (he : e < 2047) : splitV s e f = .agg #[.bool s, .int .i64 (cls e f), .int .i64 (xp e), .int .u64 (fr e f)] := by
  have h : ng s e f = s := if_neg (by omega)
  unfold splitV pv; rw [h]

theorem beq_no {a b : Int} (h : a ≠ b) : (a == b) = false := beq_eq_false_iff_ne.2 h

/-- at classes 0, 1, 2 within the range. -/
theorem rjoin_mid (n : Bool) (c x : Int) (g : Nat) (hc : c = 0 ∨ c = 1 ∨ c = 2) (hx0 : -1074 ≤ x) (hx1 : x ≤ 971) (hg : g < 9007199254740992)
    (hne : ∀ s e f, e < 2048 → f < 4503599627370496 → splitV s e f ≠ .agg #[.bool n, .int .i64 c, .int .i64 x, .int .u64 g]) (w : World) :
    Calls Try.prog 19 #[.agg #[.bool n, .int .i64 c, .int .i64 x, .int .u64 g]] w fun r w' => r = .returned (.tuple #[.float .f64 0, .int .i64 10]) ∧ Below w.heap.size w w' := by
  obtain ⟨e, f, he, hf, hv⟩ := mk_exists (x + 1074).toNat g hg (by omega)
  have H1 : ∀ w, Calls Try.prog 40 #[.bool n, .int .u64 (g : Int), .int .i64 x] w fun r w' => r = .returned (.tuple #[.float .f64 (bw n e f), .bool true]) ∧ w' = w := fun w => make_is n g x e f hg hx0 hx1 he hf hv w
  have H2 := rSplit_fin n e f he hf
  have hn := hne n e f (by omega) hf
  rw [splitV_fin n e f he] at hn
  by_cases k1 : cls e f = c
  · by_cases k2 : xp e = x
    · have k3 : fr e f ≠ (g : Int) := fun k3 => hn (by rw [k1, k2, k3])
      rw [k1, k2] at H2
      rcases hc with rfl | rfl | rfl
      · exact rjoin_frad0 n x g (bw n e f) hx0 hx1 (by omega) (by omega) H1 (fr e f) H2 (beq_no k3) w
      · exact rjoin_frad1 n x g (bw n e f) hx0 hx1 (by omega) (by omega) H1 (fr e f) H2 (beq_no k3) w
      · exact rjoin_frad2 n x g (bw n e f) hx0 hx1 (by omega) (by omega) H1 (fr e f) H2 (beq_no k3) w
    · rw [k1] at H2
      rcases hc with rfl | rfl | rfl
      · exact rjoin_expd0 n x g (bw n e f) hx0 hx1 (by omega) (by omega) H1 (xp e) (fr e f) H2 (beq_no k2) w
      · exact rjoin_expd1 n x g (bw n e f) hx0 hx1 (by omega) (by omega) H1 (xp e) (fr e f) H2 (beq_no k2) w
      · exact rjoin_expd2 n x g (bw n e f) hx0 hx1 (by omega) (by omega) H1 (xp e) (fr e f) H2 (beq_no k2) w
  · rcases hc with rfl | rfl | rfl
    · exact rjoin_clsd0 n x g (bw n e f) hx0 hx1 (by omega) (by omega) H1 (cls e f) (xp e) (fr e f) H2 (beq_no k1) w
    · exact rjoin_clsd1 n x g (bw n e f) hx0 hx1 (by omega) (by omega) H1 (cls e f) (xp e) (fr e f) H2 (beq_no k1) w
    · exact rjoin_clsd2 n x g (bw n e f) hx0 hx1 (by omega) (by omega) H1 (cls e f) (xp e) (fr e f) H2 (beq_no k1) w

/-- the document's Join at other parts. -/
theorem rjoin_other (n : Bool) (c x : Int) (g : Nat)
    (hne : ∀ s e f, e < 2048 → f < 4503599627370496 → splitV s e f ≠ .agg #[.bool n, .int .i64 c, .int .i64 x, .int .u64 g]) (w : World) :
    Calls Try.prog 19 #[.agg #[.bool n, .int .i64 c, .int .i64 x, .int .u64 g]] w fun r w' => r = .returned (.tuple #[.float .f64 0, .int .i64 10]) ∧ Below w.heap.size w w' := by
  by_cases hc : c = 0 ∨ c = 1 ∨ c = 2
  · by_cases h1 : x < -1074
    · rcases hc with rfl | rfl | rfl
      · exact rjoin_low0 n x g h1 w
      · exact rjoin_low1 n x g h1 w
      · exact rjoin_low2 n x g h1 w
    · by_cases h2 : 971 < x
      · rcases hc with rfl | rfl | rfl
        · exact rjoin_high0 n x g (by omega) h2 w
        · exact rjoin_high1 n x g (by omega) h2 w
        · exact rjoin_high2 n x g (by omega) h2 w
      · by_cases h3 : g < 9007199254740992
        · exact rjoin_mid n c x g hc (by omega) (by omega) h3 hne w
        · rcases hc with rfl | rfl | rfl
          · exact rjoin_wide0 n x g (by omega) (by omega) (by omega) w
          · exact rjoin_wide1 n x g (by omega) (by omega) (by omega) w
          · exact rjoin_wide2 n x g (by omega) (by omega) (by omega) w
  · by_cases h3 : c = 3
    · subst h3
      by_cases hx : x = 0
      · subst hx
        by_cases hg : g = 0
        · subst hg
          exact absurd (splitV_end n 2047 0 rfl (by simp)) (hne n 2047 0 (by omega) (by omega))
        · exact rjoin_endg n g (beq_no (by omega)) w
      · exact rjoin_endx n x g (beq_no (by omega)) w
    · have q0 : (c == 0) = false := beq_no (by omega)
      have q1 : (c == 1) = false := beq_no (by omega)
      have q2 : (c == 2) = false := beq_no (by omega)
      have q3 : (c == 3) = false := beq_no (by omega)
      cases n
      · by_cases h4 : c = 4
        · subst h4
          by_cases hx : x = 0
          · subst hx
            by_cases hg : g = 0
            · subst hg
              exact absurd (splitV_odd false 2047 1 rfl (by simp)) (hne false 2047 1 (by omega) (by omega))
            · exact rjoin_nang g (beq_no (by omega)) w
          · exact rjoin_nanx x g (beq_no (by omega)) w
        · exact rjoin_nanc c x g q0 q1 q2 q3 (beq_no (by omega)) w
      · exact rjoin_nann c x g q0 q1 q2 q3 w

/-- BOTH JOINS ANSWER ALIKE. -/
theorem joins_alike (n : Bool) (c x : Int) (g : Nat) (hg : g < 18446744073709551616) :
    ∃ (B : Nat) (k : Int), (k = 0 ∧ (∃ s e f, e < 2048 ∧ f < 4503599627370496 ∧ B = cb s e f ∧ splitV s e f = .agg #[.bool n, .int .i64 c, .int .i64 x, .int .u64 g]) ∨ k = 10 ∧ B = 0) ∧
      (∀ w, Calls Try.prog 18 #[.agg #[.bool n, .int .i64 c, .int .i64 x, .int .u64 g]] w fun r w' => r = .returned (.tuple #[.float .f64 B, .int .i64 k]) ∧ Below w.heap.size w w') ∧
      (∀ w, Calls Try.prog 19 #[.agg #[.bool n, .int .i64 c, .int .i64 x, .int .u64 g]] w fun r w' => r = .returned (.tuple #[.float .f64 B, .int .i64 k]) ∧ Below w.heap.size w w') := by
  by_cases h : ∃ s e f, e < 2048 ∧ f < 4503599627370496 ∧ splitV s e f = .agg #[.bool n, .int .i64 c, .int .i64 x, .int .u64 g]
  · obtain ⟨s, e, f, he, hf, hv⟩ := h
    refine ⟨cb s e f, 0, Or.inl ⟨rfl, s, e, f, he, hf, rfl, hv⟩, fun w => ?_, fun w => ?_⟩
    · rw [← hv]; exact join_valid s e f he hf w
    · rw [← hv]; exact rjoin_valid s e f he hf w
  · have hne : ∀ s e f, e < 2048 → f < 4503599627370496 → splitV s e f ≠ .agg #[.bool n, .int .i64 c, .int .i64 x, .int .u64 g] := fun s e f he hf hv => h ⟨s, e, f, he, hf, hv⟩
    exact ⟨0, 10, Or.inr ⟨rfl, rfl⟩, fun w => join_other n c x g hg hne w, fun w => rjoin_other n c x g hne w⟩
end Go.Proofs.Ytedknjiipmppgaa
