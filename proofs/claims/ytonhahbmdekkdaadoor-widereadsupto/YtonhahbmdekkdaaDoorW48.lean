/- Books of what came out: what the statements with a book share. -/
import Derived.Test.YtonhahbmdekkdaaDoorW46
import Derived.Test.YtonhahbmdekkdaaDoorW38
namespace Go.Proofs.YtonhahbmdekkdaaDoor
open Go.RowKit
set_option linter.unusedVariables false
set_option maxRecDepth 20000

theorem Nt.but {lo g : Nat} {w w' : World} {v : Value} {X : Nat} (h : Nt lo w v X) (hb : But g w w') (hg : g < lo) : Nt lo w' v X := by
  have h1 : Rw lo w v (ws X).length ((ws X).map U) := h
  exact row_other h1 fun b hb2 => by
    obtain ⟨h2, h3⟩ := h.lt b hb2
    exact hb.block b h3 (by omega)

theorem Nice.nil (lo : Nat) (w : World) : Nice lo w [] := ⟨fun i hi => absurd hi (by simp), fun i hi => absurd hi (by simp), fun i j hi => absurd hi (by simp)⟩

theorem Nice.snoc {lo : Nat} {w : World} {vs : List Value} {v : Value} {X : Nat} (h : Nice lo w vs) (hN : Nt lo w v X) (hs : (ws X).length ≤ 35184372088000) (ha : ∀ u ∈ vs, ∀ b, u.ownBlock = some b → v.ownBlock ≠ some b) : Nice lo w (vs ++ [v]) := by
  have h1 : Rw lo w v (ws X).length ((ws X).map U) := hN
  have hl := h1.len
  refine ⟨fun i hi => ?_, fun i hi => ?_, fun i j hi hj hij b hb => ?_⟩
  · by_cases e : i = vs.length
    · subst e; rw [nth_append_eq, hl]; exact ⟨_, h1⟩
    · simp at hi
      rw [nth_append_lt _ _ _ (by omega)]; exact h.rows i (by omega)
  · by_cases e : i = vs.length
    · subst e; rw [nth_append_eq, hl]; exact hs
    · simp at hi
      rw [nth_append_lt _ _ _ (by omega)]; exact h.small i (by omega)
  · simp at hi hj
    have mem : ∀ k, k < vs.length → nth vs k ∈ vs := by
      intro k hk
      simp [nth, hk]
    by_cases e : i = vs.length
    · subst e
      rw [nth_append_eq] at hb
      rw [nth_append_lt _ _ _ (by omega)]
      intro e2
      exact ha _ (mem j (by omega)) b e2 hb
    · rw [nth_append_lt _ _ _ (by omega)] at hb
      by_cases e2 : j = vs.length
      · subst e2
        rw [nth_append_eq]
        exact ha _ (mem i (by omega)) b hb
      · rw [nth_append_lt _ _ _ (by omega)]
        exact h.apart i j (by omega) (by omega) hij b hb

theorem Nice.keep {lo : Nat} {w w' : World} {vs : List Value} (h : Nice lo w vs) (k : Keep w w') : Nice lo w' vs :=
  ⟨fun i hi => by obtain ⟨ys, hy⟩ := h.rows i hi; exact ⟨ys, Keep.row hy k⟩, h.small, h.apart⟩

theorem lent_rd {w : World} {g n : Nat} {xs : List Nat} (hn : n = xs.length) (h : Own w g (xs ++ [71, 72])) : Rd (g + 1) w (some ⟨g, 0, none⟩) xs := by
  have h1 := Rd.ofOwn h 0 n
  rw [List.drop_zero, List.take_append_of_le_length (by omega), List.take_of_length_le (by omega)] at h1
  exact h1

theorem lent_arg {w : World} {g n : Nat} {xs : List Nat} (hn : n = xs.length) (hb : n ≤ 35184372088832) (hx : Wf xs) (h : Own w g (xs ++ [71, 72])) : Arg w (some ⟨g, 0, none⟩) n (n + 2) xs :=
  ⟨hn, by omega, hb, hx, (lent_rd hn h).mono h.lt, fun e => by cases e⟩

theorem root_words {N q n : Nat} (h : N < pw n) (hq : IsRoot N q) : (ws q).length ≤ n ∧ (ws (N - q * q)).length ≤ n := by
  have h1 := hq.1
  have h2 := le_sq q
  exact ⟨(ws_len_le q n).2 (by omega), (ws_len_le _ n).2 (by omega)⟩
end Go.Proofs.YtonhahbmdekkdaaDoor
