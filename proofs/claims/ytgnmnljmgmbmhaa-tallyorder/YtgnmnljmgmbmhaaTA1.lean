/- tally: numbers by their bits; what a number is counted as; the total order. -/
import Derived.Test.YtgnmnljmgmbmhaaBW6
import Derived.Test.YtgnmnljmgmbmhaaBW3
import Derived.WalkKit
import Derived.Deep.LoopGhost
import Derived.OwnWalk
import Derived.Below
import Derived.Laws.OwnMore
import Derived.Deep.OwnRows
namespace Go.Proofs.Ytgnmnljmgmbmhaa
open Go.RowKit
set_option linter.unusedVariables false
set_option maxRecDepth 20000
set_option linter.unusedSimpArgs false
attribute [local go_sem] B.f64bits B.f64frombits

theorem hid {p : Prop} (h : p) : Hid p := h
theorem _root_.Go.Aside.intro {p : Prop} (h : p) : Aside p := h
theorem st_float {P : Program} {w : World} (a : Addr) (k : FloatKind) (n : Nat) (m : Mode) : (store a (.float k n) m).run P w = stored P w a (.float k n) m := run_store P w a _ m rfl

/-- Numbers that lie in memory below B. -/
def Fs (B : Nat) (w : World) (ao : Option Addr) (xs : List Nat) : Prop :=
  xs ≠ [] → ∃ b off, b < B ∧ ao = some ⟨b, off, none⟩ ∧ ∀ i, i < xs.length → w.cell? ⟨b, off + i, none⟩ = some (.float .f64 (xs.getD i 0))
theorem Fs.at {B : Nat} {w w' : World} {ao : Option Addr} {xs : List Nat} (h : Fs B w ao xs) (hb : Below B w w') (i : Nat) (hi : i < xs.length) : ∃ b off, ao = some ⟨b, off, none⟩ ∧ w'.cell? ⟨b, off + i, none⟩ = some (.float .f64 (xs.getD i 0)) := by
  obtain ⟨b, off, h1, h2, h3⟩ := h (by intro e; subst e; simp at hi)
  exact ⟨b, off, h2, (hb.cell (p := ⟨b, off + i, none⟩) h1).trans (h3 i hi)⟩
def W64 (xs : List Nat) : Prop := ∀ x ∈ xs, x < 18446744073709551616
theorem W64.get {xs : List Nat} (h : W64 xs) (i : Nat) : xs.getD i 0 < 18446744073709551616 := by
  by_cases hi : i < xs.length
  · rw [List.getD_eq_getElem?_getD, List.getElem?_eq_getElem hi]; exact h _ (List.getElem_mem hi)
  · rw [List.getD_eq_getElem?_getD, List.getElem?_eq_none (by omega)]; simp

/-- A word without its sign; is there a sign; the NaN that is answered; a NaN's word made that one. -/
def magW (x : Nat) : Nat := x % 9223372036854775808
def negW (x : Nat) : Bool := decide (9223372036854775808 ≤ x)
def nanW (x : Nat) : Bool := decide (9218868437227405312 < magW x)
def oddW : Nat := 9221120237041090560
def nrm (x : Nat) : Nat := if nanW x then oddW else x
/-- As what a number is counted. -/
def vW (j : Bool) (x : Nat) : Nat := if nanW x then oddW else if j && decide (magW x = 0) then 0 else x
/-- A number's key in the total order. -/
def tk (x : Nat) : Int := if 9218868437227405312 < magW x then 9221120237041090560 else if negW x then -1 - (magW x : Int) else magW x

theorem bw15 {x : Nat} (hx : x < 18446744073709551616) : ∃ s e f, e < 2048 ∧ f < 4503599627370496 ∧ x = B.bw s e f ∧ s = negW x ∧ e = magW x / 4503599627370496 ∧ f = magW x % 4503599627370496 := by
  have hm : magW x < 9223372036854775808 := by unfold magW; omega
  refine ⟨negW x, magW x / 4503599627370496, magW x % 4503599627370496, by omega, by omega, ?_, rfl, rfl, rfl⟩
  unfold B.bw negW magW at *
  by_cases h : 9223372036854775808 ≤ x
  · rw [decide_eq_true h]; simp only [Bool.toNat_true]; omega
  · rw [decide_eq_false h]; simp only [Bool.toNat_false]; omega
theorem ky_tk {x : Nat} (hx : x < 18446744073709551616) : B.ky (negW x) (magW x / 4503599627370496) (magW x % 4503599627370496) = tk x := by
  have hm : magW x < 9223372036854775808 := by unfold magW; omega
  have e : ((magW x / 4503599627370496 : Nat) : Int) * 4503599627370496 + (magW x % 4503599627370496 : Nat) = (magW x : Int) := by omega
  unfold B.ky tk
  by_cases h : 9218868437227405312 < magW x
  · rw [if_pos h, if_pos (by omega)]
  · rw [if_neg h, if_neg (by omega), e]
theorem parts18 {x : Nat} (hx : x < 18446744073709551616) : ∃ s e f, e < 2048 ∧ f < 4503599627370496 ∧ x = B.bw s e f ∧ B.ky s e f = tk x ∧ B.cb s e f = nrm x ∧ B.odd e f = nanW x ∧ B.cls e f = (if nanW x then 4 else if magW x = 0 then 0 else B.cls e f) ∧ (B.cls e f = 4 ↔ nanW x = true) ∧ (B.cls e f = 0 ↔ magW x = 0) := by
  obtain ⟨s, e, f, h1, h2, h3, rfl, rfl, rfl⟩ := bw15 hx
  have hm : magW x < 9223372036854775808 := by unfold magW; omega
  have c4 : (B.cls (magW x / 4503599627370496) (magW x % 4503599627370496) = 4 ↔ nanW x = true) := by
    unfold B.cls nanW
    constructor
    · intro h
      split at h
      · split at h
        · omega
        · simp; omega
      · split at h
        · split at h <;> omega
        · omega
    · intro h
      simp at h
      rw [if_pos (by omega), if_neg (by omega)]
  have c0 : (B.cls (magW x / 4503599627370496) (magW x % 4503599627370496) = 0 ↔ magW x = 0) := by
    unfold B.cls
    constructor
    · intro h
      split at h
      · split at h <;> omega
      · split at h
        · split at h <;> omega
        · omega
    · intro h
      rw [h]; rfl
  refine ⟨_, _, _, h1, h2, h3, ky_tk hx, ?_, ?_, ?_, c4, c0⟩
  · unfold B.cb nrm nanW
    by_cases h : 9218868437227405312 < magW x
    · rw [if_pos (by omega), if_pos (by simp [h])]; rfl
    · rw [if_neg (by omega), if_neg (by simp [h]), ← h3]
  · unfold B.odd nanW
    by_cases h : 9218868437227405312 < magW x
    · have : magW x / 4503599627370496 = 2047 := by omega
      have h9 : magW x % 4503599627370496 ≠ 0 := by omega
      simp [h, this, h9]
    · by_cases h8 : magW x / 4503599627370496 = 2047
      · have h9 : magW x % 4503599627370496 = 0 := by omega
        simp [h, h9]
      · simp [h, h8]
  · split
    · rename_i h; exact c4.2 h
    · split
      · rename_i h; exact c0.2 h
      · rfl

theorem order18 {x y : Nat} (hx : x < 18446744073709551616) (hy : y < 18446744073709551616) (w : World) :
    Calls Try.prog 37 #[.float .f64 x, .float .f64 y] w fun r w' => r = .returned (.int .i64 (B.oc (tk x) (tk y))) ∧ w' = w := by
  obtain ⟨s, e, f, h1, h2, h3, h4, _⟩ := parts18 hx
  obtain ⟨t, u, v, i1, i2, i3, i4, _⟩ := parts18 hy
  have h := B.order_any s t e f u v h1 h2 i1 i2 w
  rw [h4, i4, ← h3, ← i3] at h
  exact h
theorem rBits18 {x : Nat} (hx : x < 18446744073709551616) (w : World) :
    Calls Try.prog 39 #[.float .f64 x] w fun r w' => r = .returned (.int .u64 (nrm x)) ∧ w' = w := by
  obtain ⟨s, e, f, h1, h2, h3, h4, h5, _⟩ := parts18 hx
  have h := B.rBits_any s e f h1 h2 w
  rw [h5, ← h3] at h
  exact h
theorem rSame18 {x y : Nat} (hx : x < 18446744073709551616) (hy : y < 18446744073709551616) (w : World) :
    Calls Try.prog 17 #[.float .f64 x, .float .f64 y] w fun r w' => r = .returned (.bool (decide (nrm x = nrm y))) ∧ w' = w := by
  obtain ⟨s, e, f, h1, h2, h3, h4, h5, _⟩ := parts18 hx
  obtain ⟨t, u, v, i1, i2, i3, i4, i5, _⟩ := parts18 hy
  have h := B.rSame_any s t e f u v h1 h2 i1 i2 w
  rw [h5, i5, ← h3, ← i3] at h
  exact h
theorem class18 {x : Nat} (hx : x < 18446744073709551616) (w : World) :
    Calls Try.prog 50 #[.float .f64 x] w fun r w' => (∃ c : Int, r = .returned (.int .i64 c) ∧ (c = 4 ↔ nanW x = true) ∧ (c = 0 ↔ magW x = 0)) ∧ Below w.heap.size w w' := by
  obtain ⟨s, e, f, h1, h2, h3, h4, h5, h6, h7, h8, h9⟩ := parts18 hx
  have h := B.Class_any s e f h1 h2 w
  rw [← h3] at h
  exact h.mono fun r w' ⟨hr, hb⟩ => ⟨⟨_, hr, h8, h9⟩, hb⟩

theorem nrm_lt {x : Nat} (hx : x < 18446744073709551616) : nrm x < 18446744073709551616 := by unfold nrm oddW; split <;> omega
theorem vW_lt {j : Bool} {x : Nat} (hx : x < 18446744073709551616) : vW j x < 18446744073709551616 := by
  unfold vW oddW
  split
  · omega
  · split <;> omega
/-- A value: what is counted. -/
def isV (j : Bool) (x : Nat) : Prop := x < 18446744073709551616 ∧ vW j x = x
theorem vW_vW (j : Bool) (x : Nat) : vW j (vW j x) = vW j x := by
  have h1 : vW j oddW = oddW := by unfold vW; rw [if_pos (by decide)]
  have h0 : vW j 0 = 0 := by unfold vW; cases j <;> decide
  unfold vW
  split
  · exact h1
  · split
    · exact h0
    · rename_i a b; simp [a, b]
theorem vW_isV {j : Bool} {x : Nat} (hx : x < 18446744073709551616) : isV j (vW j x) := ⟨vW_lt hx, vW_vW j x⟩
theorem tk_nrm {x y : Nat} (hx : x < 18446744073709551616) (hy : y < 18446744073709551616) : tk x = tk y ↔ nrm x = nrm y := by
  unfold tk nrm nanW oddW negW magW
  by_cases a : 9218868437227405312 < x % 9223372036854775808 <;> by_cases b : 9218868437227405312 < y % 9223372036854775808 <;> by_cases c : 9223372036854775808 ≤ x <;> by_cases d : 9223372036854775808 ≤ y <;> simp only [a, b, c, d, decide_true, decide_false, if_true, if_false, Bool.false_eq_true] <;> constructor <;> intro h <;> omega
/-- Of values the key tells which one it is. -/
theorem nrm_isV {j : Bool} {x : Nat} (h : isV j x) : nrm x = x := by
  have h1 := h.2
  unfold vW at h1
  unfold nrm
  split
  · rename_i a; rw [if_pos a] at h1; exact h1
  · rfl
theorem tk_inj {j : Bool} {x y : Nat} (hx : isV j x) (hy : isV j y) (h : tk x = tk y) : x = y := by
  have := (tk_nrm hx.1 hy.1).1 h
  rwa [nrm_isV hx, nrm_isV hy] at this

set_option maxHeartbeats 1000000 in
theorem place18 {x : Nat} (hx : x < 18446744073709551616) (w : World) :
    Calls Try.prog 38 #[.float .f64 x] w fun r w' => r = .returned (.int .i64 (tk x)) ∧ w' = w := by
  have HB := hid (rBits18 hx w)
  have hn := nrm_lt hx
  have ht : tk x = if 9223372036854775808 ≤ nrm x then -1 - ((nrm x : Int) - 9223372036854775808) else nrm x := by
    unfold tk nrm nanW oddW negW magW
    by_cases a : 9218868437227405312 < x % 9223372036854775808 <;> by_cases c : 9223372036854775808 ≤ x <;> simp only [a, c, decide_true, decide_false, if_true, if_false, Bool.false_eq_true] <;> omega
  rw [ht]
  generalize nrm x = y at *
  clear ht
  by_cases h : 9223372036854775808 ≤ y
  · have e1 : IntKind.u64.wrap ((y : Int) - 9223372036854775808) = (y : Int) - 9223372036854775808 := by rw [IntKind.wrap_u64]; omega
    have e2 : IntKind.i64.wrap ((y : Int) - 9223372036854775808) = (y : Int) - 9223372036854775808 := by rw [IntKind.wrap_i64]; omega
    have e3 : IntKind.i64.wrap (-1 - ((y : Int) - 9223372036854775808)) = -1 - ((y : Int) - 9223372036854775808) := by rw [IntKind.wrap_i64]; omega
    have d1 : decide ((9223372036854775808 : Int) ≤ (y : Int)) = true := by simp; omega
    rw [if_pos h]
    go_enter Try.func38, Try.ntmps38
    go_wp2_with (go_at_call 39; refine HB.out.mono ?_; rintro r w1 ⟨rfl, rfl⟩)
    go_ret
    first | exact ⟨rfl, rfl⟩ | exact ⟨by simp [e1, e2, e3], rfl⟩
  · have e2 : IntKind.i64.wrap ((y : Int)) = (y : Int) := by rw [IntKind.wrap_i64]; omega
    have d1 : decide ((9223372036854775808 : Int) ≤ (y : Int)) = false := by simp; omega
    rw [if_neg h]
    go_enter Try.func38, Try.ntmps38
    go_wp2_with (go_at_call 39; refine HB.out.mono ?_; rintro r w1 ⟨rfl, rfl⟩)
    go_ret
    first | exact ⟨rfl, rfl⟩ | exact ⟨by simp [e2], rfl⟩
set_option maxHeartbeats 1000000 in
theorem rOrder18 {x y : Nat} (hx : x < 18446744073709551616) (hy : y < 18446744073709551616) (w : World) :
    Calls Try.prog 16 #[.float .f64 x, .float .f64 y] w fun r w' => r = .returned (.int .i64 (B.oc (tk x) (tk y))) ∧ w' = w := by
  have H1 := hid (place18 hx w)
  have H2 := hid (place18 hy w)
  generalize tk x = a at *
  generalize tk y = b at *
  unfold B.oc
  by_cases h1 : a < b
  · have d1 : decide (a < b) = true := by simp [h1]
    rw [if_pos h1]
    go_enter Try.func16, Try.ntmps16
    go_wp2_with (go_at_call 38; first | (with_reducible refine (Calls.mono H1.out) ?_; rintro r w1 ⟨rfl, rfl⟩) | (with_reducible refine (Calls.mono H2.out) ?_; rintro r w1 ⟨rfl, rfl⟩))
    go_ret
    exact ⟨rfl, rfl⟩
  · have d1 : decide (a < b) = false := by simp [h1]
    rw [if_neg h1]
    by_cases h2 : b < a
    · have d2 : decide (b < a) = true := by simp [h2]
      rw [if_pos h2]
      go_enter Try.func16, Try.ntmps16
      go_wp2_with (go_at_call 38; first | (with_reducible refine (Calls.mono H1.out) ?_; rintro r w1 ⟨rfl, rfl⟩) | (with_reducible refine (Calls.mono H2.out) ?_; rintro r w1 ⟨rfl, rfl⟩))
      go_ret
      exact ⟨rfl, rfl⟩
    · have d2 : decide (b < a) = false := by simp [h2]
      rw [if_neg h2]
      go_enter Try.func16, Try.ntmps16
      go_wp2_with (go_at_call 38; first | (with_reducible refine (Calls.mono H1.out) ?_; rintro r w1 ⟨rfl, rfl⟩) | (with_reducible refine (Calls.mono H2.out) ?_; rintro r w1 ⟨rfl, rfl⟩))
      go_ret
      exact ⟨rfl, rfl⟩
end Go.Proofs.Ytgnmnljmgmbmhaa
