import Derived.Test.YtfaaidnhmddibaaDoorW27x
import Derived.WalkLawsBesides
import Derived.WalkMore
import Derived.Test.YtfaaidnhmddibaaDoorW17x
import Derived.Test.YtfaaidnhmddibaaDoorW43x
/- Parse: decimal digits as a Nat. -/
namespace Go.Proofs.YtfaaidnhmddibaaDoor
open Go.RowKit
set_option linter.unusedVariables false
set_option maxRecDepth 20000

/-- The letters of a text. -/
def ltr (s : ByteArray) : List Nat := s.data.toList.map (·.toNat)
/-- The number of the first k letters, if they are digits. -/
def pn (B : List Nat) (k : Nat) : Nat := num ((B.take k).map (· - 48))
/-- Are the first k letters digits? -/
def okd (B : List Nat) (k : Nat) : Prop := ∀ j, j < k → 48 ≤ B.getD j 0 ∧ B.getD j 0 ≤ 57
/-- What Parse answers. -/
def parseS (B : List Nat) : Nat × Int :=
  if B = [] ∨ (B.getD 0 0 = 48 ∧ 1 < B.length) ∨ ¬ (∀ b ∈ B, 48 ≤ b ∧ b ≤ 57) then (0, 5) else if LG (pn B B.length) then (0, 2) else (pn B B.length, 0)

theorem pn_succ (B : List Nat) (k : Nat) (h : k < B.length) : pn B (k + 1) = 10 * pn B k + (B.getD k 0 - 48) := by
  unfold pn
  rw [List.take_succ_eq_append_getElem h, List.map_append, List.map_cons, List.map_nil, num_snoc, List.getD_eq_getElem?_getD, List.getElem?_eq_getElem h]
  rfl

theorem okd_all (B : List Nat) (h : okd B B.length) : ∀ b ∈ B, 48 ≤ b ∧ b ≤ 57 := by
  intro b hb
  obtain ⟨i, hi, rfl⟩ := List.mem_iff_getElem.1 hb
  have := h i hi
  rwa [List.getD_eq_getElem?_getD, List.getElem?_eq_getElem hi] at this

theorem ltr_get (s : ByteArray) (k : Nat) (h : k < s.size) : (ltr s).getD k 0 = (s[k]'h).toNat := by
  have h' : k < s.data.toList.length := by simpa using h
  unfold ltr
  rw [List.getD_eq_getElem?_getD, List.getElem?_eq_getElem (by simpa using h')]
  simp [ByteArray.getElem_eq_getElem_data]
theorem ltr_len (s : ByteArray) : (ltr s).length = s.size := by unfold ltr; rw [List.length_map, Array.length_toList]; rfl
theorem ba_toList (s : ByteArray) : s.toList = s.data.toList := ByteArray.toList_eq s

theorem parse_bad (B : List Nat) (k : Nat) (hk : k < B.length) (h : ¬ (48 ≤ B.getD k 0 ∧ B.getD k 0 ≤ 57)) : parseS B = (0, 5) := by
  unfold parseS
  rw [if_pos]
  refine .inr (.inr fun hall => h ?_)
  rw [List.getD_eq_getElem?_getD, List.getElem?_eq_getElem hk]
  exact hall _ (List.getElem_mem hk)

theorem parse_good (B : List Nat) (h0 : 0 < B.length) (hh : B.getD 0 0 ≠ 48) (hok : okd B B.length) : parseS B = if LG (pn B B.length) then (0, 2) else (pn B B.length, 0) := by
  unfold parseS
  rw [if_neg]
  rintro (h | h | h)
  · rw [h] at h0; simp at h0
  · exact hh h.1
  · exact h (okd_all B hok)

theorem ten_le (i : Nat) (h : i < 9) : 10 ^ i ≤ 100000000 := by
  have : (10 : Nat) ^ i ≤ 10 ^ 8 := Nat.pow_le_pow_right (by decide) (by omega)
  omega

theorem piece_more (P a q p d : Nat) : 10 * (P * q + p) + d = P * (q * 10) + (10 * p + d) := by grind

end Go.Proofs.YtfaaidnhmddibaaDoor

/- Parse, at every text. -/
namespace Go.Proofs.YtfaaidnhmddibaaDoor
open Go.RowKit
set_option linter.unusedVariables false
set_option maxRecDepth 20000

theorem ba_eq {s : ByteArray} {l : List UInt8} (h : s.data.toList = l) : s = ⟨l.toArray⟩ := by
  cases s with
  | mk d => simp at h; subst h; simp

end Go.Proofs.YtfaaidnhmddibaaDoor

/- What is handed from call to call: Nats, wherever they lie. -/
namespace Go.Proofs.YtfaaidnhmddibaaDoor
open Go.RowKit
set_option linter.unusedVariables false
set_option maxRecDepth 20000

/-- A Nat that is handed on: its words, where they lie. -/
structure Arg (w : World) (a : Option Addr) (n c : Nat) (xs : List Nat) : Prop where
  len : n = xs.length
  cap : n ≤ c
  big : n ≤ 35184372088832
  wf : Wf xs
  rd : Rd w.heap.size w a xs
  nil : a = none → c = 0

theorem Arg.below {w w' : World} {a : Option Addr} {n c : Nat} {xs : List Nat} (h : Arg w a n c xs) (hb : Below w.heap.size w w') : Arg w' a n c xs :=
  ⟨h.len, h.cap, h.big, h.wf, (h.rd.below hb).mono hb.size, h.nil⟩

theorem Nt.arg {lo : Nat} {w : World} {v : Value} {X : Nat} (h : Nt lo w v X) (hs : (ws X).length ≤ 35184372088832) : ∃ a c, v = .slice a (ws X).length c ∧ Arg w a (ws X).length c (ws X) := by
  have h' := h
  obtain ⟨a, c, rfl, h1, h2, h3⟩ := h.shape
  refine ⟨a, c, rfl, rfl, h1, hs, wf_ws X, h3, fun e => ?_⟩
  rcases h'.2 with ⟨e1, _⟩ | ⟨g, cap, cur, e1, _⟩
  · simp only [Value.slice.injEq] at e1; exact e1.2.2
  · simp only [Value.slice.injEq] at e1; rw [e1.1] at e; cases e

theorem ws_small {X k : Nat} (h : X < pw k) (hk : k ≤ 16384) : (ws X).length ≤ 35184372088832 := by have := (ws_len_le X k).2 h; omega
theorem LG_small {X k : Nat} (h : X < pw k) (hk : k ≤ 8192) : ¬ LG X := by have := (ws_len_le X k).2 h; unfold LG; omega
theorem pw_mul_lt {X Y i k : Nat} (h1 : X < pw i) (h2 : Y < pw k) : X * Y < pw (i + k) := by rw [pw_add]; exact Nat.mul_lt_mul'' h1 h2
theorem pw_add_lt {X Y i : Nat} (h1 : X < pw i) (h2 : Y < pw i) : X + Y < pw (i + 1) := by rw [pw_succ]; omega

/-- One answer: a Nat and OK. -/
theorem one_ok {lo : Nat} {w : World} {r : Ending} {a : Nat × Int} {V : Nat} (h : One lo w r a) (e : a = (V, 0)) : ∃ v, r = .returned (.tuple #[v, .int .i64 0]) ∧ Nt lo w v V := by
  subst e; exact h

theorem Mul_arg {w : World} {a b : Option Addr} {n c m d : Nat} {xs ys : List Nat} {V : Nat} (h1 : Arg w a n c xs) (h2 : Arg w b m d ys) (e : mulS (val xs) (val ys) = (V, 0)) :
    Calls Tryd.prog 56 #[.slice a n c, .slice b m d] w fun r w' => ∃ v, r = .returned (.tuple #[v, .int .i64 0]) ∧ Nt w.heap.size w' v V ∧ Below w.heap.size w w' :=
  (Mul_any xs ys a b n c m d w.heap.size w h1.len h2.len h1.cap h2.cap (by have := h1.big; omega) (by have := h2.big; omega) h1.wf h2.wf h1.rd h2.rd (Nat.le_refl _)).mono
    fun r w' ⟨ho, hb⟩ => by obtain ⟨v, h3, h4⟩ := one_ok ho e; exact ⟨v, h3, h4, hb⟩
theorem Add_arg {w : World} {a b : Option Addr} {n c m d : Nat} {xs ys : List Nat} {V : Nat} (h1 : Arg w a n c xs) (h2 : Arg w b m d ys) (e : addS (val xs) (val ys) = (V, 0)) :
    Calls Tryd.prog 77 #[.slice a n c, .slice b m d] w fun r w' => ∃ v, r = .returned (.tuple #[v, .int .i64 0]) ∧ Nt w.heap.size w' v V ∧ Below w.heap.size w w' :=
  (Add_any xs ys a b n c m d w.heap.size w h1.len h2.len h1.cap h2.cap (by have := h1.big; omega) (by have := h2.big; omega) h1.wf h2.wf h1.rd h2.rd (Nat.le_refl _)).mono
    fun r w' ⟨ho, hb⟩ => by obtain ⟨v, h3, h4⟩ := one_ok ho e; exact ⟨v, h3, h4, hb⟩
theorem Sub_arg {w : World} {a b : Option Addr} {n c m d : Nat} {xs ys : List Nat} {V : Nat} (h1 : Arg w a n c xs) (h2 : Arg w b m d ys) (e : subS (val xs) (val ys) = (V, 0)) :
    Calls Tryd.prog 79 #[.slice a n c, .slice b m d] w fun r w' => ∃ v, r = .returned (.tuple #[v, .int .i64 0]) ∧ Nt w.heap.size w' v V ∧ Below w.heap.size w w' :=
  (Sub_any xs ys a b n c m d w.heap.size w h1.len h2.len h1.cap h2.cap (by have := h1.big; omega) (by have := h2.big; omega) h1.wf h2.wf h1.rd h2.rd (Nat.le_refl _)).mono
    fun r w' ⟨ho, hb⟩ => by obtain ⟨v, h3, h4⟩ := one_ok ho e; exact ⟨v, h3, h4, hb⟩
theorem Shift_arg {w : World} {a : Option Addr} {n c : Nat} {xs : List Nat} {V : Nat} (by' : Int) (h1 : Arg w a n c xs) (e : shiftS (val xs) by' = (V, 0)) (hb0 : -9223372036854775808 ≤ by') (hb1 : by' ≤ 9223372036854775807) :
    Calls Tryd.prog 46 #[.slice a n c, .int .i64 by'] w fun r w' => ∃ v, r = .returned (.tuple #[v, .int .i64 0]) ∧ Nt w.heap.size w' v V ∧ Below w.heap.size w w' :=
  (Shift_any xs a n c w.heap.size by' w h1.len h1.cap (by have := h1.big; omega) h1.wf h1.rd (Nat.le_refl _) hb0 hb1).mono
    fun r w' ⟨ho, hb⟩ => by obtain ⟨v, h3, h4⟩ := one_ok ho e; exact ⟨v, h3, h4, hb⟩
theorem Norm_arg {w : World} {a : Option Addr} {n c : Nat} {xs : List Nat} {V : Nat} (h1 : Arg w a n c xs) (e : val xs = V) :
    Calls Tryd.prog 69 #[.slice a n c] w fun r w' => ∃ v, r = .returned v ∧ Nt w.heap.size w' v V ∧ Below w.heap.size w w' := by
  subst e
  exact rNorm_any xs a n c w.heap.size w h1.len h1.cap h1.big h1.wf h1.rd h1.nil
theorem Cmp_arg {w : World} {a b : Option Addr} {n c m d : Nat} {xs ys : List Nat} (h1 : Arg w a n c xs) (h2 : Arg w b m d ys) (z : Int) (e : cmpI (val xs) (val ys) = z) :
    Calls Tryd.prog 78 #[.slice a n c, .slice b m d] w fun r w' => r = .returned (.int .i64 z) ∧ Below w.heap.size w w' := by
  have := cmp_any xs ys a b n c m d w.heap.size w h1.len h2.len h1.cap h2.cap (by have := h1.big; omega) (by have := h2.big; omega) h1.wf h2.wf h1.rd h2.rd
  rw [e] at this
  exact this
theorem mulS_ok {X Y V : Nat} (h1 : ¬ LG X) (h2 : ¬ LG Y) (h3 : ¬ LG V) (e : X * Y = V) : mulS X Y = (V, 0) := by subst e; unfold mulS; rw [if_neg (by simp [h1, h2]), if_neg h3]
theorem addS_ok {X Y V : Nat} (h3 : ¬ LG V) (e : X + Y = V) : addS X Y = (V, 0) := by subst e; unfold addS; rw [if_neg h3]
theorem subS_ok {X Y V : Nat} (h1 : ¬ LG X) (h2 : ¬ LG Y) (e : V + Y = X) : subS X Y = (V, 0) := by unfold subS; rw [if_neg (by simp [h1, h2]), if_neg (by omega)]; congr 1; omega
end Go.Proofs.YtfaaidnhmddibaaDoor

/- The document's calls by arguments. -/
namespace Go.Proofs.YtfaaidnhmddibaaDoor
open Go.RowKit
set_option linter.unusedVariables false
set_option maxRecDepth 20000

theorem rTimes_arg {w : World} {a b : Option Addr} {n c m d : Nat} {xs ys : List Nat} {V : Nat} (h1 : Arg w a n c xs) (h2 : Arg w b m d ys) (hs : n + m ≤ 35184372088832) (e : val xs * val ys = V) :
    Calls Tryd.prog 57 #[.slice a n c, .slice b m d] w fun r w' => ∃ v, r = .returned v ∧ Nt w.heap.size w' v V ∧ Below w.heap.size w w' := by
  subst e
  exact rTimes_any xs ys a b n c m d w.heap.size w h1.len h2.len h1.cap h2.cap hs h1.wf h2.wf h1.rd h2.rd (Nat.le_refl _)

theorem rPlus_arg {w : World} {a b : Option Addr} {n c m d : Nat} {xs ys : List Nat} {V : Nat} (h1 : Arg w a n c xs) (h2 : Arg w b m d ys) (hs1 : n ≤ 35184372088000) (hs2 : m ≤ 35184372088000) (e : val xs + val ys = V) :
    Calls Tryd.prog 52 #[.slice a n c, .slice b m d] w fun r w' => ∃ v, r = .returned v ∧ Nt w.heap.size w' v V ∧ Below w.heap.size w w' := by
  subst e
  exact rPlus_any xs ys a b n c m d w.heap.size w h1.len h2.len h1.cap h2.cap hs1 hs2 h1.wf h2.wf h1.rd h2.rd (Nat.le_refl _)

theorem rMinus_arg {w : World} {a b : Option Addr} {n c m d : Nat} {xs ys : List Nat} {V : Nat} (h1 : Arg w a n c xs) (h2 : Arg w b m d ys) (hs1 : n ≤ 35184372088000) (hs2 : m ≤ 35184372088000) (e : V + val ys = val xs) :
    Calls Tryd.prog 54 #[.slice a n c, .slice b m d] w fun r w' => ∃ v, r = .returned v ∧ Nt w.heap.size w' v V ∧ Below w.heap.size w w' := by
  have h := rMinus_any xs ys a b n c m d w.heap.size w h1.len h2.len h1.cap h2.cap hs1 hs2 h1.wf h2.wf h1.rd h2.rd (Nat.le_refl _) (by omega)
  rw [show val xs - val ys = V by omega] at h
  exact h

theorem rCmp_arg {w : World} {a b : Option Addr} {n c m d : Nat} {xs ys : List Nat} (h1 : Arg w a n c xs) (h2 : Arg w b m d ys) (z : Int) (e : cmpI (val xs) (val ys) = z) :
    Calls Tryd.prog 53 #[.slice a n c, .slice b m d] w fun r w' => r = .returned (.int .i64 z) ∧ Below w.heap.size w w' := by
  have := rCmp_any xs ys a b n c m d w.heap.size w h1.len h2.len (by have := h1.big; omega) (by have := h2.big; omega) h1.wf h2.wf h1.rd h2.rd
  rw [e] at this
  exact this

/-- One word, laid for a call. -/
theorem lit_arg (w : World) (d : Nat) (hd : d < 4294967296) : Arg (w.alloc (.cells #[.int .u32 (d : Int)] 52)) (some ⟨w.heap.size, 0, none⟩) 1 1 [d] := by
  refine ⟨rfl, Nat.le_refl _, by omega, Wf.cons hd Wf.nil, fun _ => ⟨w.heap.size, 0, by simp, rfl, fun i hi => ?_⟩, fun e => by cases e⟩
  obtain rfl : i = 0 := by simpa using hi
  unfold World.cell?
  simp only [heap_alloc_new]
  rfl

theorem below_alloc (w : World) (o : Obj) : Below w.heap.size w (w.alloc o) := (Below.refl _ _).alloc (Nat.le_refl _) _

theorem root_digits (N k : Nat) (hk : 0 < k) : N / 4 ^ (k - 1) = 4 * (N / 4 ^ k) + 2 * (N / 2 ^ (2 * k - 1) % 2) + N / 2 ^ (2 * k - 2) % 2 := by
  obtain ⟨j, rfl⟩ : ∃ j, k = j + 1 := ⟨k - 1, by omega⟩
  have e1 : 2 ^ (2 * (j + 1) - 2) = 4 ^ j := by rw [show 2 * (j + 1) - 2 = 2 * j by omega, Nat.pow_mul]
  have e2 : 2 ^ (2 * (j + 1) - 1) = 4 ^ j * 2 := by rw [show 2 * (j + 1) - 1 = 2 * j + 1 by omega, Nat.pow_succ, Nat.pow_mul]
  rw [e1, e2, Nat.add_sub_cancel, Nat.pow_succ, ← Nat.div_div_eq_div_mul, ← Nat.div_div_eq_div_mul]
  omega

theorem root_yes (R S two : Nat) (h : 4 * R + 1 ≤ 4 * S + two) (hS : S ≤ 2 * R) (ht : two ≤ 3) : (2 * R + 1) * (2 * R + 1) + (4 * S + two - (4 * R + 1)) = 4 * (R * R + S) + two ∧ 4 * S + two - (4 * R + 1) ≤ 2 * (2 * R + 1) := by
  have : (2 * R + 1) * (2 * R + 1) = 4 * (R * R) + 4 * R + 1 := by grind
  omega

theorem root_no (R S two : Nat) (h : 4 * S + two < 4 * R + 1) : 2 * R * (2 * R) + (4 * S + two) = 4 * (R * R + S) + two ∧ 4 * S + two ≤ 2 * (2 * R) := by
  have : 2 * R * (2 * R) = 4 * (R * R) := by grind
  omega

theorem root_end (N R S : Nat) (h : N = R * R + S) (hS : S ≤ 2 * R) : IsRoot N R ∧ N - R * R = S := by
  have : (R + 1) * (R + 1) = R * R + 2 * R + 1 := by grind
  refine ⟨⟨by omega, by omega⟩, by omega⟩

theorem le_sq (R : Nat) : R ≤ R * R := by
  rcases Nat.eq_zero_or_pos R with h | h
  · omega
  · exact Nat.le_mul_of_pos_left R h

theorem bl_pw (N n : Nat) (h : N < pw n) : bl N ≤ 32 * n := by
  by_cases h0 : N = 0
  · rw [h0, bl_zero]; omega
  · have h1 := bl_ge N h0
    rcases Nat.lt_or_ge (32 * n) (bl N) with h2 | h2
    · exfalso
      have h3 : 2 ^ (32 * n) ≤ 2 ^ (bl N - 1) := Nat.pow_le_pow_right (by omega) (by omega)
      have h4 : pw n = 2 ^ (32 * n) := by unfold pw; rw [Nat.pow_mul]
      omega
    · exact h2
end Go.Proofs.YtfaaidnhmddibaaDoor

