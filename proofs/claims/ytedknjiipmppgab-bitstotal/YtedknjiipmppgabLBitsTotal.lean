/- The walk of BitsTotal, its cases put together: at any three numbers it returns true and changes nothing that was there. -/
import Derived.Test.YtedknjiipmppgabTotA
namespace Go.Proofs.Ytedknjiipmppgab
open Go.RowKit

theorem oc_cases (a b : Int) : a < b ∧ oc a b = -1 ∨ b < a ∧ oc a b = 1 ∨ a = b ∧ oc a b = 0 := by
  rcases Int.lt_trichotomy a b with h | h | h
  · exact Or.inl ⟨h, oc_lt h⟩
  · exact Or.inr (Or.inr ⟨h, oc_eq h⟩)
  · exact Or.inr (Or.inl ⟨h, oc_gt h⟩)

theorem cb_of_ky (s t : Bool) (e f u v : Nat) (he : e < 2048) (hf : f < 4503599627370496) (hu : u < 2048) (hv : v < 4503599627370496) (h : ky s e f = ky t u v) : cb s e f = cb t u v := by
  cases h1 : odd e f
  · cases h2 : odd u v
    · rw [ky_else s e f h1, ky_else t u v h2] at h
      rw [cb_else s e f (not_odd e f h1), cb_else t u v (not_odd u v h2)]
      unfold bw
      cases s <;> cases t <;> simp at h ⊢ <;> omega
    · have := ky_lt s e f he hf h1
      rw [ky_odd t u v h2] at h; omega
  · cases h2 : odd u v
    · have := ky_lt t u v hu hv h2
      rw [ky_odd s e f h1] at h; omega
    · rw [cb_odd s e f (is_odd e f h1), cb_odd t u v (is_odd u v h2)]

theorem lt_ky (s t : Bool) (e f u v : Nat) (he : e < 2048) (hf : f < 4503599627370496) (hu : u < 2048) (hv : v < 4503599627370496) (h : ¬ ky s e f < ky t u v) : (FloatKind.f64.format.order (bw s e f) (bw t u v) == some .lt) = false := by
  rw [lt_f64 s t e f u v he hf hu hv]
  cases h1 : odd e f
  · cases h2 : odd u v
    · rw [decide_eq_false (fun hp => h (ky_of_pl s t e f u v h1 h2 hp))]; rfl
    · rfl
  · rfl

theorem total_all (s t q : Bool) (e f u v m n : Nat) (he : e < 2048) (hf : f < 4503599627370496) (hu : u < 2048) (hv : v < 4503599627370496) (hm : m < 2048) (hn : n < 4503599627370496) (w : World) :
    Calls Try.prog 4 #[.float .f64 (bw s e f), .float .f64 (bw t u v), .float .f64 (bw q m n)] w fun r w' => r = .returned (.bool true) ∧ Below w.heap.size w w' := by
  have H1 := order_any s t e f u v he hf hu hv
  have H2 := order_any t q u v m n hu hv hm hn
  have H3 := order_any s q e f m n he hf hm hn
  have H4 := order_any t s u v e f hu hv he hf
  have HS := Same_any s t e f u v he hf hu hv
  have hL := lt_ky s t e f u v he hf hu hv
  have hS1 := ky_of_cb s t e f u v he hf hu hv
  have hS2 := cb_of_ky s t e f u v he hf hu hv
  generalize ky s e f = A at *
  generalize ky t u v = B at *
  generalize ky q m n = C at *
  rcases oc_cases A B with ⟨a1, a2⟩ | ⟨a1, a2⟩ | ⟨a1, a2⟩
  · rw [decide_eq_false (fun h => by have := hS1 h; omega)] at HS
    rw [a2] at H1
    rw [oc_gt a1] at H4
    cases hl : (FloatKind.f64.format.order (bw s e f) (bw t u v) == some .lt)
    · rcases oc_cases B C with ⟨b1, b2⟩ | ⟨b1, b2⟩ | ⟨b1, b2⟩ <;> rw [b2] at H2 <;> rcases oc_cases A C with ⟨c1, c2⟩ | ⟨c1, c2⟩ | ⟨c1, c2⟩ <;> rw [c2] at H3
      · exact tot_lllf _ _ _ hl H1 H2 H3 H4 HS w
      · exfalso; omega
      · exfalso; omega
      · exact tot_lglf _ _ _ hl H1 H2 H3 H4 HS w
      · exact tot_lggf _ _ _ hl H1 H2 H3 H4 HS w
      · exact tot_lgef _ _ _ hl H1 H2 H3 H4 HS w
      · exact tot_lelf _ _ _ hl H1 H2 H3 H4 HS w
      · exfalso; omega
      · exfalso; omega
    · rcases oc_cases B C with ⟨b1, b2⟩ | ⟨b1, b2⟩ | ⟨b1, b2⟩ <;> rw [b2] at H2 <;> rcases oc_cases A C with ⟨c1, c2⟩ | ⟨c1, c2⟩ | ⟨c1, c2⟩ <;> rw [c2] at H3
      · exact tot_lllt _ _ _ hl H1 H2 H3 H4 HS w
      · exfalso; omega
      · exfalso; omega
      · exact tot_lglt _ _ _ hl H1 H2 H3 H4 HS w
      · exact tot_lggt _ _ _ hl H1 H2 H3 H4 HS w
      · exact tot_lget _ _ _ hl H1 H2 H3 H4 HS w
      · exact tot_lelt _ _ _ hl H1 H2 H3 H4 HS w
      · exfalso; omega
      · exfalso; omega
  · rw [decide_eq_false (fun h => by have := hS1 h; omega)] at HS
    rw [a2] at H1
    rw [oc_lt a1] at H4
    have hl := hL (by omega)
    rcases oc_cases B C with ⟨b1, b2⟩ | ⟨b1, b2⟩ | ⟨b1, b2⟩ <;> rw [b2] at H2 <;> rcases oc_cases A C with ⟨c1, c2⟩ | ⟨c1, c2⟩ | ⟨c1, c2⟩ <;> rw [c2] at H3
    · exact tot_gllf _ _ _ hl H1 H2 H3 H4 HS w
    · exact tot_glgf _ _ _ hl H1 H2 H3 H4 HS w
    · exact tot_glef _ _ _ hl H1 H2 H3 H4 HS w
    · exfalso; omega
    · exact tot_gggf _ _ _ hl H1 H2 H3 H4 HS w
    · exfalso; omega
    · exfalso; omega
    · exact tot_gegf _ _ _ hl H1 H2 H3 H4 HS w
    · exfalso; omega
  · rw [decide_eq_true (hS2 a1)] at HS
    rw [a2] at H1
    rw [oc_eq a1.symm] at H4
    have hl := hL (by omega)
    rcases oc_cases B C with ⟨b1, b2⟩ | ⟨b1, b2⟩ | ⟨b1, b2⟩ <;> rw [b2] at H2 <;> rcases oc_cases A C with ⟨c1, c2⟩ | ⟨c1, c2⟩ | ⟨c1, c2⟩ <;> rw [c2] at H3
    · exact tot_ellf _ _ _ hl H1 H2 H3 H4 HS w
    · exfalso; omega
    · exfalso; omega
    · exfalso; omega
    · exact tot_eggf _ _ _ hl H1 H2 H3 H4 HS w
    · exfalso; omega
    · exfalso; omega
    · exfalso; omega
    · exact tot_eeef _ _ _ hl H1 H2 H3 H4 HS w
theorem total_wf64 {b : Nat} (h : (Lit.float .f64 b).wf = true) : b < 18446744073709551616 := by
  simpa [Lit.wf] using h

theorem walk_BitsTotal (a b c : Nat) (ha : (Lit.float .f64 a).wf = true) (hb : (Lit.float .f64 b).wf = true) (hc : (Lit.float .f64 c).wf = true) (w : World) :
    Calls Try.prog 4 #[.float .f64 a, .float .f64 b, .float .f64 c] w fun r w' => r = .returned (.bool true) ∧ Below w.heap.size w w' := by
  obtain ⟨s, e, f, he, hf, rfl⟩ := bw_of a (total_wf64 ha)
  obtain ⟨t, u, v, hu, hv, rfl⟩ := bw_of b (total_wf64 hb)
  obtain ⟨q, m, n, hm, hn, rfl⟩ := bw_of c (total_wf64 hc)
  exact total_all s t q e f u v m n he hf hu hv hm hn w
end Go.Proofs.Ytedknjiipmppgab
