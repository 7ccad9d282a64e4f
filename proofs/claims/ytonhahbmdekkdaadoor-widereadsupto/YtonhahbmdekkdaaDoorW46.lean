/- The document's calls by arguments. -/
import Derived.Test.YtonhahbmdekkdaaDoorW45
import Derived.Test.YtonhahbmdekkdaaDoorW34
namespace Go.Proofs.YtonhahbmdekkdaaDoor
open Go.RowKit
set_option linter.unusedVariables false
set_option maxRecDepth 20000

theorem rTimes_arg {w : World} {a b : Option Addr} {n c m d : Nat} {xs ys : List Nat} {V : Nat} (h1 : Arg w a n c xs) (h2 : Arg w b m d ys) (hs : n + m ≤ 35184372088832) (e : val xs * val ys = V) :
    Calls Tryd.prog 80 #[.slice a n c, .slice b m d] w fun r w' => ∃ v, r = .returned v ∧ Nt w.heap.size w' v V ∧ Below w.heap.size w w' := by
  subst e
  exact rTimes_any xs ys a b n c m d w.heap.size w h1.len h2.len h1.cap h2.cap hs h1.wf h2.wf h1.rd h2.rd (Nat.le_refl _)

theorem rPlus_arg {w : World} {a b : Option Addr} {n c m d : Nat} {xs ys : List Nat} {V : Nat} (h1 : Arg w a n c xs) (h2 : Arg w b m d ys) (hs1 : n ≤ 35184372088000) (hs2 : m ≤ 35184372088000) (e : val xs + val ys = V) :
    Calls Tryd.prog 76 #[.slice a n c, .slice b m d] w fun r w' => ∃ v, r = .returned v ∧ Nt w.heap.size w' v V ∧ Below w.heap.size w w' := by
  subst e
  exact rPlus_any xs ys a b n c m d w.heap.size w h1.len h2.len h1.cap h2.cap hs1 hs2 h1.wf h2.wf h1.rd h2.rd (Nat.le_refl _)

theorem rMinus_arg {w : World} {a b : Option Addr} {n c m d : Nat} {xs ys : List Nat} {V : Nat} (h1 : Arg w a n c xs) (h2 : Arg w b m d ys) (hs1 : n ≤ 35184372088000) (hs2 : m ≤ 35184372088000) (e : V + val ys = val xs) :
    Calls Tryd.prog 78 #[.slice a n c, .slice b m d] w fun r w' => ∃ v, r = .returned v ∧ Nt w.heap.size w' v V ∧ Below w.heap.size w w' := by
  have h := rMinus_any xs ys a b n c m d w.heap.size w h1.len h2.len h1.cap h2.cap hs1 hs2 h1.wf h2.wf h1.rd h2.rd (Nat.le_refl _) (by omega)
  rw [show val xs - val ys = V by omega] at h
  exact h

theorem rCmp_arg {w : World} {a b : Option Addr} {n c m d : Nat} {xs ys : List Nat} (h1 : Arg w a n c xs) (h2 : Arg w b m d ys) (z : Int) (e : cmpI (val xs) (val ys) = z) :
    Calls Tryd.prog 77 #[.slice a n c, .slice b m d] w fun r w' => r = .returned (.int .i64 z) ∧ Below w.heap.size w w' := by
  have := rCmp_any xs ys a b n c m d w.heap.size w h1.len h2.len (by have := h1.big; omega) (by have := h2.big; omega) h1.wf h2.wf h1.rd h2.rd
  rw [e] at this
  exact this

/-- One word, laid for a call. -/
theorem lit_arg (w : World) (d : Nat) (hd : d < 4294967296) : Arg (w.alloc (.cells #[.int .u32 (d : Int)] 63)) (some ⟨w.heap.size, 0, none⟩) 1 1 [d] := by
  refine ⟨rfl, Nat.le_refl _, by omega, Wf.cons hd Wf.nil, fun _ => ⟨w.heap.size, 0, by simp, rfl, fun i hi => ?_⟩, fun e => by cases e⟩
  obtain rfl : i = 0 := by simpa using hi
  unfold World.cell?
  simp only [heap_alloc_new]
  rfl

theorem below_alloc (w : World) (o : Obj) : Below w.heap.size w (w.alloc o) := (Below.refl _ _).alloc (Nat.le_refl _) _

theorem root_digits (N k : Nat) (hk : 0 < k) : N / 4 ^ (k - 1) = 4 * (N / 4 ^ k) + 2 * (N / 2 ^ (2 * k - 1) % 2) + N / 2 ^ (2 * k - 2) % 2 := by
  obtain ⟨j, rfl⟩ : ∃ j, k = j + 1 := ⟨k - 1, by omega⟩
  have e1 : 2 ^ (2 * (j + 1) - 2) = 4 ^ j := by rw [show 2 * (j + 1) - 2 = 2 * j by omega, Nat.pow_mul]
  have e2 : 2 ^ (2 * (j + 1) - 1) = 4 ^ j * 2 := by rw [show 2 * (j + 1) - 1 = 2 * j + 1 by omega, Nat.pow_succ, Nat.pow_mul]
  rw [e1, e2, Nat.add_sub_cancel, Nat.pow_succ, ← Nat.div_div_eq_div_mul, ← Nat.div_div_eq_div_mul]
  omega

theorem root_yes (R S two : Nat) (h : 4 * R + 1 ≤ 4 * S + two) (hS : S ≤ 2 * R) (ht : two ≤ 3) : (2 * R + 1) * (2 * R + 1) + (4 * S + two - (4 * R + 1)) = 4 * (R * R + S) + two ∧ 4 * S + two - (4 * R + 1) ≤ 2 * (2 * R + 1) := by
  have : (2 * R + 1) * (2 * R + 1) = 4 * (R * R) + 4 * R + 1 := by grind
  omega

theorem root_no (R S two : Nat) (h : 4 * S + two < 4 * R + 1) : 2 * R * (2 * R) + (4 * S + two) = 4 * (R * R + S) + two ∧ 4 * S + two ≤ 2 * (2 * R) := by
  have : 2 * R * (2 * R) = 4 * (R * R) := by grind
  omega

theorem root_end (N R S : Nat) (h : N = R * R + S) (hS : S ≤ 2 * R) : IsRoot N R ∧ N - R * R = S := by
  have : (R + 1) * (R + 1) = R * R + 2 * R + 1 := by grind
  refine ⟨⟨by omega, by omega⟩, by omega⟩

theorem le_sq (R : Nat) : R ≤ R * R := by
  rcases Nat.eq_zero_or_pos R with h | h
  · omega
  · exact Nat.le_mul_of_pos_left R h

theorem bl_pw (N n : Nat) (h : N < pw n) : bl N ≤ 32 * n := by
  by_cases h0 : N = 0
  · rw [h0, bl_zero]; omega
  · have h1 := bl_ge N h0
    rcases Nat.lt_or_ge (32 * n) (bl N) with h2 | h2
    · exfalso
      have h3 : 2 ^ (32 * n) ≤ 2 ^ (bl N - 1) := Nat.pow_le_pow_right (by omega) (by omega)
      have h4 : pw n = 2 ^ (32 * n) := by unfold pw; rw [Nat.pow_mul]
      omega
    · exact h2
end Go.Proofs.YtonhahbmdekkdaaDoor
