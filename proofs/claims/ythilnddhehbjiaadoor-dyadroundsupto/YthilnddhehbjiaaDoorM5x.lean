import Derived.Test.YthilnddhehbjiaaDoorM2
import Derived.Test.YthilnddhehbjiaaDoorM3x
import Derived.Deep.OwnRows
/- Rows of words that are made, and words that are copied into them. -/
namespace Go.Proofs.YthilnddhehbjiaaDoor
open Go.RowKit
set_option linter.unusedVariables false
set_option maxRecDepth 20000

theorem make_words (z : Int) (n : Nat) (hz : z = (n : Int)) (hn : n ≤ 70368744177664) (w : World) :
    (Instr.makeSlice 23 (.int .i64 z) (.int .i64 z)).run Tryd.prog w = .ok (.slice (some ⟨w.heap.size, 0, none⟩) n n) (w.alloc (.cells (madeCells #[.int .u32 0] n) 61)) := by
  subst hz
  exact run_make_row' 23 61 (.int .u32 0) 4 Tryd.underlying23 Tryd.info61 rfl .i64 .i64 n (by omega) (by omega) w

theorem Own.made (w : World) (n : Nat) : Own (w.alloc (.cells (madeCells #[.int .u32 0] n) 61)) w.heap.size (List.replicate n 0) := by
  unfold Own
  have h1 := heap_alloc_new w (.cells (madeCells #[.int .u32 0] n) 61)
  rw [h1]
  congr 2
  apply Array.toList_inj.1
  rw [toList_madeCells_one]
  simp [U]

theorem Rd.drop {B : Nat} {w : World} {b off : Nat} {xs : List Nat} (h : Rd B w (some ⟨b, off, none⟩) xs) (k : Nat) : Rd B w (some ⟨b, off + k, none⟩) (xs.drop k) := by
  intro hx
  have hx' : xs ≠ [] := by intro e; subst e; simp at hx
  obtain ⟨b', off', hlt, e, hc⟩ := h hx'
  cases e
  refine ⟨b, off + k, hlt, rfl, fun i hi => ?_⟩
  simp only [List.length_drop] at hi
  rw [Nat.add_assoc, hc (k + i) (by omega)]
  simp [List.getD_eq_getElem?_getD]

theorem copy_words (w : World) (g dLen dCap : Nat) (ao : Option Addr) (sLen sCap B : Nat) (ty : TypeId)
    (L xs : List Nat) (hO : Own w g L) (hL : dLen ≤ L.length) (hx : sLen = xs.length) (hR : Rd B w ao xs) (hle : sLen ≤ dLen) :
    ∃ w', (Builtin.copy_ #[23, 23] ty #[.slice (some ⟨g, 0, none⟩) dLen dCap, .slice ao sLen sCap]).run Tryd.prog w = .ok (.int .i64 (sLen : Int)) w' ∧ Own w' g (xs ++ L.drop sLen) ∧ But g w w' := by
  subst hx
  have hmin : Nat.min xs.length dLen = xs.length := Nat.min_eq_left hle
  by_cases h0 : xs = []
  · subst h0
    exact ⟨w, run_copy_none (P := Tryd.prog) w 23 23 ty 61 _ _ _ _ _ _ Tryd.underlying23 (by kernel_rfl) (by simp at hmin ⊢), by simpa using hO, But.refl _ _⟩
  · obtain ⟨b, off, hlt, rfl, hc⟩ := hR h0
    have hadd : ∀ j, (⟨b, off, none⟩ : Addr).add j = ⟨b, off + j, none⟩ := by intro j; unfold Addr.add; split <;> simp_all
    have hrun := run_copy_row (P := Tryd.prog) w 23 23 ty 61 g 0 dLen dCap ⟨b, off, none⟩ xs.length sCap (L.map U).toArray 61 (xs.map U) Tryd.underlying23 (by kernel_rfl) hO (by rw [hmin]; simp) (by
      intro j v hv
      rw [hadd]
      have hj : j < xs.length := by
        have := (List.getElem?_eq_some_iff.1 hv).1
        simpa using this
      rw [hc j hj]
      simp [hj, U] at hv
      simp [hj, ← hv]) (by simp; omega) (by
      intro v hv
      obtain ⟨n, _, rfl⟩ := List.mem_map.1 hv
      rfl)
    refine ⟨w.setRow g (((xs ++ L.drop xs.length).map U)).toArray, ?_, setRow_heap w g _ _ 61 _ hO, ⟨rfl, rfl, rfl, by simp [World.setRow], fun k _ hk => setRow_other w g k _ hk⟩⟩
    simpa [List.map_append, List.map_drop, goInt] using hrun
end Go.Proofs.YthilnddhehbjiaaDoor

/- Norm: the form, in new memory. -/
namespace Go.Proofs.YthilnddhehbjiaaDoor
open Go.RowKit
set_option linter.unusedVariables false
set_option maxRecDepth 20000

set_option maxHeartbeats 1000000 in
theorem norm_any (xs : List Nat) (ao : Option Addr) (n cap B : Nat) (w : World) (hn : n = xs.length) (hc : n ≤ cap) (hm : n ≤ 70368744177664) (hx : Wf xs) (hR : Rd B w ao xs) (hB : B ≤ w.heap.size) :
    Calls Tryd.prog 54 #[.slice ao n cap] w fun r w' => r = .returned (.slice (some ⟨w.heap.size, 0, none⟩) (ws (val xs)).length (ws (val xs)).length) ∧ Own w' w.heap.size (ws (val xs)) ∧ Below w.heap.size w w' := by
  have H := hid (trim_any xs ao n cap B w hn hc (by omega) hR)
  have hl : nl xs ≤ n := by rw [hn]; exact nl_le xs
  obtain ⟨k, hk⟩ : ∃ k, nl xs = k := ⟨_, rfl⟩
  have HF : Aside (xs.take k = ws (val xs)) := by rw [← hk]; exact form_eq xs hx
  have HR : Aside (Rd B w ao (xs.take k) ∧ k = (xs.take k).length) := ⟨hR.take k, by rw [List.length_take]; omega⟩
  rw [hk] at H hl
  rw [← HF.out]
  have hmk := make_words (k : Int) k rfl (by omega)
  have HO := Own.made w k
  have HO2 : Hid (Own (w.alloc (.cells (madeCells #[.int .u32 0] k) 61)) w.heap.size (List.replicate k 0)) := HO
  clear hk hR hn hx HO
  go_enter Tryd.func54, Tryd.ntmps54
  go_wp2_with fail
  refine H.out.mono ?_
  rintro r w1 ⟨rfl, rfl⟩
  obtain ⟨w2, hcp, hO2, hbut⟩ := copy_words _ w1.heap.size k k ao k cap B 3 (List.replicate k 0) (xs.take k) HO2.out (by simp) HR.out.2 (HR.out.1.below ((Below.refl _ _).alloc hB _)) (Nat.le_refl _)
  have HH := hid (And.intro hO2 hbut)
  clear hO2 hbut HO2
  go_wp2
  go_ret
  obtain ⟨hO2, hbut⟩ := HH.out
  rw [← HR.out.2]
  refine ⟨rfl, by simpa using hO2, But.below ((Below.refl _ _).alloc (Nat.le_refl _) _) hbut (by simp) (Nat.le_refl _)⟩
end Go.Proofs.YthilnddhehbjiaaDoor

/- Shifts of words. -/
namespace Go.Proofs.YthilnddhehbjiaaDoor
open Go.RowKit
set_option linter.unusedVariables false
set_option maxRecDepth 20000

theorem two_pow_rest (rest : Nat) (h : rest < 32) : 2 ^ rest * 2 ^ (32 - rest) = 4294967296 := by
  rw [← Nat.pow_add, show rest + (32 - rest) = 32 by omega]

theorem or_low (x y rest : Nat) (hr : rest < 32) (hx : x < 2 ^ rest) : x ||| (y * 2 ^ rest % 4294967296) = x + y * 2 ^ rest % 4294967296 := by
  have e : y * 2 ^ rest % 4294967296 = 2 ^ rest * (y % 2 ^ (32 - rest)) := by
    rw [← two_pow_rest rest hr, Nat.mul_comm y, Nat.mul_mod_mul_left]
  rw [e, Nat.or_comm, ← Nat.two_pow_add_eq_or_of_lt hx, Nat.add_comm]

theorem up_top (y rest : Nat) (hy : y < 4294967296) : y * 2 ^ rest / 4294967296 < 2 ^ rest := by
  rw [Nat.div_lt_iff_lt_mul (by decide), Nat.mul_comm]
  exact Nat.mul_lt_mul_of_pos_left hy (Nat.two_pow_pos _)

theorem two_pow_lt (rest : Nat) (h : rest < 32) : 2 ^ rest ≤ 2147483648 := by
  have : 2 ^ rest ≤ 2 ^ 31 := Nat.pow_le_pow_right (by decide) (by omega)
  omega

theorem up_lt (y rest : Nat) (hy : y < 4294967296) (hr : rest < 32) : y * 2 ^ rest < 18446744073709551616 := by
  have h := two_pow_lt rest hr
  have : y * 2 ^ rest ≤ 4294967295 * 2147483648 := Nat.mul_le_mul (by omega) h
  omega

theorem wrap_u64n (n : Int) (h0 : 0 ≤ n) (h1 : n < 18446744073709551616) : IntKind.u64.wrap n = n := by
  rw [IntKind.wrap_u64]; omega

theorem pw_two (words rest : Nat) : 2 ^ (32 * words + rest) = pw words * 2 ^ rest := by
  rw [Nat.pow_add, Nat.pow_mul]; rfl

theorem up_step (p S x t q b s d y r : Nat) (hS : S + p * x = b * r) (ht : t = y * r) (hs : s = x + t % 4294967296) (hd : d = t / 4294967296) : S + p * s + 4294967296 * p * d = (b + p * y) * r := by
  have e : t % 4294967296 + 4294967296 * d = t := by rw [hd]; exact Nat.mod_add_div _ _
  have e2 : p * s + 4294967296 * p * d = p * x + p * t := by
    have : p * (s + 4294967296 * d) = p * (x + t) := by rw [hs]; congr 1; omega
    grind
  have e3 : (b + p * y) * r = b * r + p * t := by rw [ht]; grind
  omega
end Go.Proofs.YthilnddhehbjiaaDoor

