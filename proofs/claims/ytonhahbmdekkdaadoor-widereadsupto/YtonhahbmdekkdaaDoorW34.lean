/- What is handed from call to call: Nats, wherever they lie. -/
import Derived.Test.YtonhahbmdekkdaaDoorW33
import Derived.Test.YtonhahbmdekkdaaDoorW30
namespace Go.Proofs.YtonhahbmdekkdaaDoor
open Go.RowKit
set_option linter.unusedVariables false
set_option maxRecDepth 20000

/-- A Nat that is handed on: its words, where they lie. -/
structure Arg (w : World) (a : Option Addr) (n c : Nat) (xs : List Nat) : Prop where
  len : n = xs.length
  cap : n ≤ c
  big : n ≤ 35184372088832
  wf : Wf xs
  rd : Rd w.heap.size w a xs
  nil : a = none → c = 0

theorem Arg.below {w w' : World} {a : Option Addr} {n c : Nat} {xs : List Nat} (h : Arg w a n c xs) (hb : Below w.heap.size w w') : Arg w' a n c xs :=
  ⟨h.len, h.cap, h.big, h.wf, (h.rd.below hb).mono hb.size, h.nil⟩

theorem Nt.arg {lo : Nat} {w : World} {v : Value} {X : Nat} (h : Nt lo w v X) (hs : (ws X).length ≤ 35184372088832) : ∃ a c, v = .slice a (ws X).length c ∧ Arg w a (ws X).length c (ws X) := by
  have h' := h
  obtain ⟨a, c, rfl, h1, h2, h3⟩ := h.shape
  refine ⟨a, c, rfl, rfl, h1, hs, wf_ws X, h3, fun e => ?_⟩
  rcases h'.2 with ⟨e1, _⟩ | ⟨g, cap, cur, e1, _⟩
  · simp only [Value.slice.injEq] at e1; exact e1.2.2
  · simp only [Value.slice.injEq] at e1; rw [e1.1] at e; cases e

theorem ws_small {X k : Nat} (h : X < pw k) (hk : k ≤ 16384) : (ws X).length ≤ 35184372088832 := by have := (ws_len_le X k).2 h; omega
theorem LG_small {X k : Nat} (h : X < pw k) (hk : k ≤ 8192) : ¬ LG X := by have := (ws_len_le X k).2 h; unfold LG; omega
theorem pw_mul_lt {X Y i k : Nat} (h1 : X < pw i) (h2 : Y < pw k) : X * Y < pw (i + k) := by rw [pw_add]; exact Nat.mul_lt_mul'' h1 h2
theorem pw_add_lt {X Y i : Nat} (h1 : X < pw i) (h2 : Y < pw i) : X + Y < pw (i + 1) := by rw [pw_succ]; omega

/-- One answer: a Nat and OK. -/
theorem one_ok {lo : Nat} {w : World} {r : Ending} {a : Nat × Int} {V : Nat} (h : One lo w r a) (e : a = (V, 0)) : ∃ v, r = .returned (.tuple #[v, .int .i64 0]) ∧ Nt lo w v V := by
  subst e; exact h

theorem Mul_arg {w : World} {a b : Option Addr} {n c m d : Nat} {xs ys : List Nat} {V : Nat} (h1 : Arg w a n c xs) (h2 : Arg w b m d ys) (e : mulS (val xs) (val ys) = (V, 0)) :
    Calls Tryd.prog 47 #[.slice a n c, .slice b m d] w fun r w' => ∃ v, r = .returned (.tuple #[v, .int .i64 0]) ∧ Nt w.heap.size w' v V ∧ Below w.heap.size w w' :=
  (Mul_any xs ys a b n c m d w.heap.size w h1.len h2.len h1.cap h2.cap (by have := h1.big; omega) (by have := h2.big; omega) h1.wf h2.wf h1.rd h2.rd (Nat.le_refl _)).mono
    fun r w' ⟨ho, hb⟩ => by obtain ⟨v, h3, h4⟩ := one_ok ho e; exact ⟨v, h3, h4, hb⟩
theorem Add_arg {w : World} {a b : Option Addr} {n c m d : Nat} {xs ys : List Nat} {V : Nat} (h1 : Arg w a n c xs) (h2 : Arg w b m d ys) (e : addS (val xs) (val ys) = (V, 0)) :
    Calls Tryd.prog 45 #[.slice a n c, .slice b m d] w fun r w' => ∃ v, r = .returned (.tuple #[v, .int .i64 0]) ∧ Nt w.heap.size w' v V ∧ Below w.heap.size w w' :=
  (Add_any xs ys a b n c m d w.heap.size w h1.len h2.len h1.cap h2.cap (by have := h1.big; omega) (by have := h2.big; omega) h1.wf h2.wf h1.rd h2.rd (Nat.le_refl _)).mono
    fun r w' ⟨ho, hb⟩ => by obtain ⟨v, h3, h4⟩ := one_ok ho e; exact ⟨v, h3, h4, hb⟩
theorem Sub_arg {w : World} {a b : Option Addr} {n c m d : Nat} {xs ys : List Nat} {V : Nat} (h1 : Arg w a n c xs) (h2 : Arg w b m d ys) (e : subS (val xs) (val ys) = (V, 0)) :
    Calls Tryd.prog 46 #[.slice a n c, .slice b m d] w fun r w' => ∃ v, r = .returned (.tuple #[v, .int .i64 0]) ∧ Nt w.heap.size w' v V ∧ Below w.heap.size w w' :=
  (Sub_any xs ys a b n c m d w.heap.size w h1.len h2.len h1.cap h2.cap (by have := h1.big; omega) (by have := h2.big; omega) h1.wf h2.wf h1.rd h2.rd (Nat.le_refl _)).mono
    fun r w' ⟨ho, hb⟩ => by obtain ⟨v, h3, h4⟩ := one_ok ho e; exact ⟨v, h3, h4, hb⟩
theorem Shift_arg {w : World} {a : Option Addr} {n c : Nat} {xs : List Nat} {V : Nat} (by' : Int) (h1 : Arg w a n c xs) (e : shiftS (val xs) by' = (V, 0)) (hb0 : -9223372036854775808 ≤ by') (hb1 : by' ≤ 9223372036854775807) :
    Calls Tryd.prog 49 #[.slice a n c, .int .i64 by'] w fun r w' => ∃ v, r = .returned (.tuple #[v, .int .i64 0]) ∧ Nt w.heap.size w' v V ∧ Below w.heap.size w w' :=
  (Shift_any xs a n c w.heap.size by' w h1.len h1.cap (by have := h1.big; omega) h1.wf h1.rd (Nat.le_refl _) hb0 hb1).mono
    fun r w' ⟨ho, hb⟩ => by obtain ⟨v, h3, h4⟩ := one_ok ho e; exact ⟨v, h3, h4, hb⟩
theorem Norm_arg {w : World} {a : Option Addr} {n c : Nat} {xs : List Nat} {V : Nat} (h1 : Arg w a n c xs) (e : val xs = V) :
    Calls Tryd.prog 63 #[.slice a n c] w fun r w' => ∃ v, r = .returned v ∧ Nt w.heap.size w' v V ∧ Below w.heap.size w w' := by
  subst e
  exact rNorm_any xs a n c w.heap.size w h1.len h1.cap h1.big h1.wf h1.rd h1.nil
theorem same_arg {w : World} {a b : Option Addr} {c d V : Nat} (h1 : Arg w a (ws V).length c (ws V)) (h2 : Arg w b (ws V).length d (ws V)) :
    Calls Tryd.prog 15 #[.slice a (ws V).length c, .slice b (ws V).length d] w fun r w' => r = .returned (.bool true) ∧ Below w.heap.size w w' :=
  same_any (ws V) a b _ c d w.heap.size w rfl (by have := h1.big; omega) h1.rd h2.rd
theorem Cmp_arg {w : World} {a b : Option Addr} {n c m d : Nat} {xs ys : List Nat} (h1 : Arg w a n c xs) (h2 : Arg w b m d ys) (z : Int) (e : cmpI (val xs) (val ys) = z) :
    Calls Tryd.prog 54 #[.slice a n c, .slice b m d] w fun r w' => r = .returned (.int .i64 z) ∧ Below w.heap.size w w' := by
  have := cmp_any xs ys a b n c m d w.heap.size w h1.len h2.len h1.cap h2.cap (by have := h1.big; omega) (by have := h2.big; omega) h1.wf h2.wf h1.rd h2.rd
  rw [e] at this
  exact this
theorem mulS_ok {X Y V : Nat} (h1 : ¬ LG X) (h2 : ¬ LG Y) (h3 : ¬ LG V) (e : X * Y = V) : mulS X Y = (V, 0) := by subst e; unfold mulS; rw [if_neg (by simp [h1, h2]), if_neg h3]
theorem addS_ok {X Y V : Nat} (h3 : ¬ LG V) (e : X + Y = V) : addS X Y = (V, 0) := by subst e; unfold addS; rw [if_neg h3]
theorem subS_ok {X Y V : Nat} (h1 : ¬ LG X) (h2 : ¬ LG Y) (e : V + Y = X) : subS X Y = (V, 0) := by unfold subS; rw [if_neg (by simp [h1, h2]), if_neg (by omega)]; congr 1; omega
end Go.Proofs.YtonhahbmdekkdaaDoor
