/- What the document's narrow answers, over what its numbers are. -/
import Derived.Test.YtedknjiipmppgabW7
namespace Go.Proofs.Ytedknjiipmppgab
open Go.RowKit
attribute [local go_sem] f64bits f64frombits f32bits f32frombits
set_option linter.unusedVariables false

/-- how many bits a whole number has. -/
def bl (n : Nat) : Nat := if n = 0 then 0 else n.log2 + 1
theorem bl_half (n : Nat) (h : 0 < n) : bl n = bl (n / 2) + 1 := by
  unfold bl
  rw [if_neg (by omega)]
  by_cases h1 : n / 2 = 0
  · rw [if_pos h1]
    have : n = 1 := by omega
    subst this; rfl
  · rw [if_neg h1, Nat.log2_def n, if_pos (by omega)]
theorem bl_le (n : Nat) (h : n < 18446744073709551616) : bl n ≤ 64 := by
  unfold bl
  split
  · omega
  · rename_i h0
    have := (Nat.log2_lt h0 (k := 64)).2 h
    omega

/-- the loop that counts: what is counted and what is left. -/
def LongRel (G : Nat) (p q : Value) : Prop := ∃ l a : Int, 0 ≤ l ∧ l ≤ 64 ∧ 0 ≤ a ∧ a < 18446744073709551616 ∧ p = .int .i64 l ∧ q = .int .u64 a ∧ l + (bl a.toNat : Int) = bl G

theorem long_step (G : Nat) (l a : Int) (hl : 0 ≤ l) (ha : 0 < a) (ha2 : a < 18446744073709551616) (hG : bl G ≤ 64) (h : l + (bl a.toNat : Int) = bl G) : LongRel G (.int .i64 (l + 1)) (.int .u64 (a / 2)) := by
  have h1 := bl_half a.toNat (by omega)
  have e : (a / 2).toNat = a.toNat / 2 := by omega
  refine ⟨l + 1, a / 2, by omega, ?_, by omega, by omega, rfl, rfl, ?_⟩
  · omega
  · rw [e]; omega


set_option maxRecDepth 100000 in
set_option maxHeartbeats 4000000 in
theorem rnar_exactA (s : Bool) (c x g k L st : Int) (hg0 : 0 ≤ g) (hg1 : g < 9007199254740992) (hL : Hid (L = (bl g.toNat : Int))) (hx0 : -1074 ≤ x) (hx1 : x ≤ 971) (hA : -149 < st) (hA2 : st ≤ 1100) (hst : L + x - 24 = st) (hle : st ≤ x) (R : Int) (hR : IntKind.u64.wrap (g * 2 ^ (x - st).toNat) = R) (w : World) :
    Calls Try.prog 36 #[.agg #[.bool s, .int .i64 c, .int .i64 x, .int .u64 g], .int .i64 k] w fun r w' => r = .returned (.tuple #[.int .u64 R, .int .i64 st]) ∧ Below w.heap.size w w' := by
  have start : LongRel g.toNat (.int .i64 0) (.int .u64 g) := ⟨0, g, by omega, by omega, hg0, by omega, rfl, rfl, by omega⟩
  go_enter Try.func36, Try.ntmps36
  go_wp2
  go_loop [6, 7] (fun p q => LongRel g.toNat p q) (fun _ q => (intOf q).toNat)
  case atStart => exact start
  case round =>
    clear start
    obtain ⟨l, a, hl0, hl1, ha0, ha1, rfl, rfl, hE⟩ := hrel
    have HE : Hid (l + (bl a.toNat : Int) = bl g.toNat) := hE
    clear hE
    by_cases hc : 0 < a
    · clear hst hA hA2
      go_wp2
      go_round
      case rel => exact long_step g.toNat l a hl0 hc ha1 (bl_le _ (by omega)) HE.out
      case measure => simp [intOf]; omega
    · have ha : a = 0 := by omega
      subst ha
      have hl : l = L := by
        have h1 := HE.out
        have h2 := hL.out
        have h3 : bl (0 : Int).toNat = 0 := rfl
        rw [h3] at h1; omega
      subst hl
      clear HE hc
      go_wp2_with fail
      all_goals go_ret2
      all_goals exact ⟨rfl, (Below.refl _ _).alloc (Nat.le_refl _) _⟩

set_option maxRecDepth 100000 in
set_option maxHeartbeats 4000000 in
theorem rnar_restA (s n t v : Bool) (c x g k L st : Int) (hg0 : 0 ≤ g) (hg1 : g < 9007199254740992) (hL : Hid (L = (bl g.toNat : Int))) (hx0 : -1074 ≤ x) (hx1 : x ≤ 971) (hA : -149 < st) (hA2 : st ≤ 1100) (hst : L + x - 24 = st) (Q QW rest hf : Int) (hlt : x < st) (h60 : st - x ≤ 60) (q0 : 0 ≤ Q) (q1 : Q < 9007199254740992) (e1 : g / 2 ^ (st - x).toNat = Q) (e2 : IntKind.u64.wrap (Q * 2 ^ (st - x).toNat) = QW) (e3 : IntKind.u64.wrap (g - QW) = rest) (e4 : IntKind.u64.wrap (2 ^ ((st - x).toNat - 1)) = hf) (f1 : (rest == hf) = false) (f2 : ¬ hf < rest) (f3 : (rest == 0) = true)  (HW : Hid (∀ w, Calls Try.prog 37 #[.int .i64 k, .bool s] w fun r w' => r = .returned (.tuple #[.bool n, .bool t, .bool v]) ∧ w' = w)) (w : World) :
    Calls Try.prog 36 #[.agg #[.bool s, .int .i64 c, .int .i64 x, .int .u64 g], .int .i64 k] w fun r w' => r = .returned (.tuple #[.int .u64 Q, .int .i64 st]) ∧ Below w.heap.size w w' := by
  have start : LongRel g.toNat (.int .i64 0) (.int .u64 g) := ⟨0, g, by omega, by omega, hg0, by omega, rfl, rfl, by omega⟩
  go_enter Try.func36, Try.ntmps36
  go_wp2
  go_loop [6, 7] (fun p q => LongRel g.toNat p q) (fun _ q => (intOf q).toNat)
  case atStart => exact start
  case round =>
    clear start
    obtain ⟨l, a, hl0, hl1, ha0, ha1, rfl, rfl, hE⟩ := hrel
    have HE : Hid (l + (bl a.toNat : Int) = bl g.toNat) := hE
    clear hE
    by_cases hc : 0 < a
    · clear hst hA hA2
      go_wp2
      go_round
      case rel => exact long_step g.toNat l a hl0 hc ha1 (bl_le _ (by omega)) HE.out
      case measure => simp [intOf]; omega
    · have ha : a = 0 := by omega
      subst ha
      have hl : l = L := by
        have h1 := HE.out
        have h2 := hL.out
        have h3 : bl (0 : Int).toNat = 0 := rfl
        rw [h3] at h1; omega
      subst hl
      clear HE hc
      go_wp2_with fail
      refine (HW.out _).mono ?_
      rintro r w1 ⟨rfl, rfl⟩
      go_wp2_with fail
      all_goals go_ret2
      all_goals exact ⟨rfl, (Below.refl _ _).alloc (Nat.le_refl _) _⟩

set_option maxRecDepth 100000 in
set_option maxHeartbeats 4000000 in
theorem rnar_moreA (s t v : Bool) (c x g k L st : Int) (hg0 : 0 ≤ g) (hg1 : g < 9007199254740992) (hL : Hid (L = (bl g.toNat : Int))) (hx0 : -1074 ≤ x) (hx1 : x ≤ 971) (hA : -149 < st) (hA2 : st ≤ 1100) (hst : L + x - 24 = st) (Q QW rest hf : Int) (hlt : x < st) (h60 : st - x ≤ 60) (q0 : 0 ≤ Q) (q1 : Q < 9007199254740992) (e1 : g / 2 ^ (st - x).toNat = Q) (e2 : IntKind.u64.wrap (Q * 2 ^ (st - x).toNat) = QW) (e3 : IntKind.u64.wrap (g - QW) = rest) (e4 : IntKind.u64.wrap (2 ^ ((st - x).toNat - 1)) = hf) (f1 : (rest == hf) = false) (f2 : hf < rest) (f3 : (rest == 0) = false)  (HW : Hid (∀ w, Calls Try.prog 37 #[.int .i64 k, .bool s] w fun r w' => r = .returned (.tuple #[.bool true, .bool t, .bool v]) ∧ w' = w)) (w : World) :
    Calls Try.prog 36 #[.agg #[.bool s, .int .i64 c, .int .i64 x, .int .u64 g], .int .i64 k] w fun r w' => r = .returned (.tuple #[.int .u64 (Q + 1), .int .i64 st]) ∧ Below w.heap.size w w' := by
  have start : LongRel g.toNat (.int .i64 0) (.int .u64 g) := ⟨0, g, by omega, by omega, hg0, by omega, rfl, rfl, by omega⟩
  go_enter Try.func36, Try.ntmps36
  go_wp2
  go_loop [6, 7] (fun p q => LongRel g.toNat p q) (fun _ q => (intOf q).toNat)
  case atStart => exact start
  case round =>
    clear start
    obtain ⟨l, a, hl0, hl1, ha0, ha1, rfl, rfl, hE⟩ := hrel
    have HE : Hid (l + (bl a.toNat : Int) = bl g.toNat) := hE
    clear hE
    by_cases hc : 0 < a
    · clear hst hA hA2
      go_wp2
      go_round
      case rel => exact long_step g.toNat l a hl0 hc ha1 (bl_le _ (by omega)) HE.out
      case measure => simp [intOf]; omega
    · have ha : a = 0 := by omega
      subst ha
      have hl : l = L := by
        have h1 := HE.out
        have h2 := hL.out
        have h3 : bl (0 : Int).toNat = 0 := rfl
        rw [h3] at h1; omega
      subst hl
      clear HE hc
      go_wp2_with fail
      refine (HW.out _).mono ?_
      rintro r w1 ⟨rfl, rfl⟩
      go_wp2_with fail
      all_goals go_ret2
      all_goals exact ⟨rfl, (Below.refl _ _).alloc (Nat.le_refl _) _⟩

set_option maxRecDepth 100000 in
set_option maxHeartbeats 4000000 in
theorem rnar_tieA (s v : Bool) (c x g k L st : Int) (hg0 : 0 ≤ g) (hg1 : g < 9007199254740992) (hL : Hid (L = (bl g.toNat : Int))) (hx0 : -1074 ≤ x) (hx1 : x ≤ 971) (hA : -149 < st) (hA2 : st ≤ 1100) (hst : L + x - 24 = st) (Q QW rest hf : Int) (hlt : x < st) (h60 : st - x ≤ 60) (q0 : 0 ≤ Q) (q1 : Q < 9007199254740992) (e1 : g / 2 ^ (st - x).toNat = Q) (e2 : IntKind.u64.wrap (Q * 2 ^ (st - x).toNat) = QW) (e3 : IntKind.u64.wrap (g - QW) = rest) (e4 : IntKind.u64.wrap (2 ^ ((st - x).toNat - 1)) = hf) (f1 : (rest == hf) = true) (f3 : (rest == 0) = false)  (HW : Hid (∀ w, Calls Try.prog 37 #[.int .i64 k, .bool s] w fun r w' => r = .returned (.tuple #[.bool true, .bool true, .bool v]) ∧ w' = w)) (w : World) :
    Calls Try.prog 36 #[.agg #[.bool s, .int .i64 c, .int .i64 x, .int .u64 g], .int .i64 k] w fun r w' => r = .returned (.tuple #[.int .u64 (Q + 1), .int .i64 st]) ∧ Below w.heap.size w w' := by
  have start : LongRel g.toNat (.int .i64 0) (.int .u64 g) := ⟨0, g, by omega, by omega, hg0, by omega, rfl, rfl, by omega⟩
  go_enter Try.func36, Try.ntmps36
  go_wp2
  go_loop [6, 7] (fun p q => LongRel g.toNat p q) (fun _ q => (intOf q).toNat)
  case atStart => exact start
  case round =>
    clear start
    obtain ⟨l, a, hl0, hl1, ha0, ha1, rfl, rfl, hE⟩ := hrel
    have HE : Hid (l + (bl a.toNat : Int) = bl g.toNat) := hE
    clear hE
    by_cases hc : 0 < a
    · clear hst hA hA2
      go_wp2
      go_round
      case rel => exact long_step g.toNat l a hl0 hc ha1 (bl_le _ (by omega)) HE.out
      case measure => simp [intOf]; omega
    · have ha : a = 0 := by omega
      subst ha
      have hl : l = L := by
        have h1 := HE.out
        have h2 := hL.out
        have h3 : bl (0 : Int).toNat = 0 := rfl
        rw [h3] at h1; omega
      subst hl
      clear HE hc
      go_wp2_with fail
      refine (HW.out _).mono ?_
      rintro r w1 ⟨rfl, rfl⟩
      go_wp2_with fail
      all_goals go_ret2
      all_goals exact ⟨rfl, (Below.refl _ _).alloc (Nat.le_refl _) _⟩

set_option maxRecDepth 100000 in
set_option maxHeartbeats 4000000 in
theorem rnar_partA (s v : Bool) (c x g k L st : Int) (hg0 : 0 ≤ g) (hg1 : g < 9007199254740992) (hL : Hid (L = (bl g.toNat : Int))) (hx0 : -1074 ≤ x) (hx1 : x ≤ 971) (hA : -149 < st) (hA2 : st ≤ 1100) (hst : L + x - 24 = st) (Q QW rest hf : Int) (hlt : x < st) (h60 : st - x ≤ 60) (q0 : 0 ≤ Q) (q1 : Q < 9007199254740992) (e1 : g / 2 ^ (st - x).toNat = Q) (e2 : IntKind.u64.wrap (Q * 2 ^ (st - x).toNat) = QW) (e3 : IntKind.u64.wrap (g - QW) = rest) (e4 : IntKind.u64.wrap (2 ^ ((st - x).toNat - 1)) = hf) (f1 : (rest == hf) = true) (f3 : (rest == 0) = false) (f4 : (Q % 2 == 1) = true)  (HW : Hid (∀ w, Calls Try.prog 37 #[.int .i64 k, .bool s] w fun r w' => r = .returned (.tuple #[.bool true, .bool false, .bool v]) ∧ w' = w)) (w : World) :
    Calls Try.prog 36 #[.agg #[.bool s, .int .i64 c, .int .i64 x, .int .u64 g], .int .i64 k] w fun r w' => r = .returned (.tuple #[.int .u64 (Q + 1), .int .i64 st]) ∧ Below w.heap.size w w' := by
  have start : LongRel g.toNat (.int .i64 0) (.int .u64 g) := ⟨0, g, by omega, by omega, hg0, by omega, rfl, rfl, by omega⟩
  go_enter Try.func36, Try.ntmps36
  go_wp2
  go_loop [6, 7] (fun p q => LongRel g.toNat p q) (fun _ q => (intOf q).toNat)
  case atStart => exact start
  case round =>
    clear start
    obtain ⟨l, a, hl0, hl1, ha0, ha1, rfl, rfl, hE⟩ := hrel
    have HE : Hid (l + (bl a.toNat : Int) = bl g.toNat) := hE
    clear hE
    by_cases hc : 0 < a
    · clear hst hA hA2
      go_wp2
      go_round
      case rel => exact long_step g.toNat l a hl0 hc ha1 (bl_le _ (by omega)) HE.out
      case measure => simp [intOf]; omega
    · have ha : a = 0 := by omega
      subst ha
      have hl : l = L := by
        have h1 := HE.out
        have h2 := hL.out
        have h3 : bl (0 : Int).toNat = 0 := rfl
        rw [h3] at h1; omega
      subst hl
      clear HE hc
      go_wp2_with fail
      refine (HW.out _).mono ?_
      rintro r w1 ⟨rfl, rfl⟩
      go_wp2_with fail
      all_goals go_ret2
      all_goals exact ⟨rfl, (Below.refl _ _).alloc (Nat.le_refl _) _⟩

set_option maxRecDepth 100000 in
set_option maxHeartbeats 4000000 in
theorem rnar_parfA (s v : Bool) (c x g k L st : Int) (hg0 : 0 ≤ g) (hg1 : g < 9007199254740992) (hL : Hid (L = (bl g.toNat : Int))) (hx0 : -1074 ≤ x) (hx1 : x ≤ 971) (hA : -149 < st) (hA2 : st ≤ 1100) (hst : L + x - 24 = st) (Q QW rest hf : Int) (hlt : x < st) (h60 : st - x ≤ 60) (q0 : 0 ≤ Q) (q1 : Q < 9007199254740992) (e1 : g / 2 ^ (st - x).toNat = Q) (e2 : IntKind.u64.wrap (Q * 2 ^ (st - x).toNat) = QW) (e3 : IntKind.u64.wrap (g - QW) = rest) (e4 : IntKind.u64.wrap (2 ^ ((st - x).toNat - 1)) = hf) (f1 : (rest == hf) = true) (f3 : (rest == 0) = false) (f4 : (Q % 2 == 1) = false)  (HW : Hid (∀ w, Calls Try.prog 37 #[.int .i64 k, .bool s] w fun r w' => r = .returned (.tuple #[.bool true, .bool false, .bool v]) ∧ w' = w)) (w : World) :
    Calls Try.prog 36 #[.agg #[.bool s, .int .i64 c, .int .i64 x, .int .u64 g], .int .i64 k] w fun r w' => r = .returned (.tuple #[.int .u64 Q, .int .i64 st]) ∧ Below w.heap.size w w' := by
  have start : LongRel g.toNat (.int .i64 0) (.int .u64 g) := ⟨0, g, by omega, by omega, hg0, by omega, rfl, rfl, by omega⟩
  go_enter Try.func36, Try.ntmps36
  go_wp2
  go_loop [6, 7] (fun p q => LongRel g.toNat p q) (fun _ q => (intOf q).toNat)
  case atStart => exact start
  case round =>
    clear start
    obtain ⟨l, a, hl0, hl1, ha0, ha1, rfl, rfl, hE⟩ := hrel
    have HE : Hid (l + (bl a.toNat : Int) = bl g.toNat) := hE
    clear hE
    by_cases hc : 0 < a
    · clear hst hA hA2
      go_wp2
      go_round
      case rel => exact long_step g.toNat l a hl0 hc ha1 (bl_le _ (by omega)) HE.out
      case measure => simp [intOf]; omega
    · have ha : a = 0 := by omega
      subst ha
      have hl : l = L := by
        have h1 := HE.out
        have h2 := hL.out
        have h3 : bl (0 : Int).toNat = 0 := rfl
        rw [h3] at h1; omega
      subst hl
      clear HE hc
      go_wp2_with fail
      refine (HW.out _).mono ?_
      rintro r w1 ⟨rfl, rfl⟩
      go_wp2_with fail
      all_goals go_ret2
      all_goals exact ⟨rfl, (Below.refl _ _).alloc (Nat.le_refl _) _⟩

set_option maxRecDepth 100000 in
set_option maxHeartbeats 4000000 in
theorem rnar_lessA (s t v : Bool) (c x g k L st : Int) (hg0 : 0 ≤ g) (hg1 : g < 9007199254740992) (hL : Hid (L = (bl g.toNat : Int))) (hx0 : -1074 ≤ x) (hx1 : x ≤ 971) (hA : -149 < st) (hA2 : st ≤ 1100) (hst : L + x - 24 = st) (Q QW rest hf : Int) (hlt : x < st) (h60 : st - x ≤ 60) (q0 : 0 ≤ Q) (q1 : Q < 9007199254740992) (e1 : g / 2 ^ (st - x).toNat = Q) (e2 : IntKind.u64.wrap (Q * 2 ^ (st - x).toNat) = QW) (e3 : IntKind.u64.wrap (g - QW) = rest) (e4 : IntKind.u64.wrap (2 ^ ((st - x).toNat - 1)) = hf) (f1 : (rest == hf) = false) (f2 : ¬ hf < rest) (f3 : (rest == 0) = false)  (HW : Hid (∀ w, Calls Try.prog 37 #[.int .i64 k, .bool s] w fun r w' => r = .returned (.tuple #[.bool true, .bool t, .bool v]) ∧ w' = w)) (w : World) :
    Calls Try.prog 36 #[.agg #[.bool s, .int .i64 c, .int .i64 x, .int .u64 g], .int .i64 k] w fun r w' => r = .returned (.tuple #[.int .u64 Q, .int .i64 st]) ∧ Below w.heap.size w w' := by
  have start : LongRel g.toNat (.int .i64 0) (.int .u64 g) := ⟨0, g, by omega, by omega, hg0, by omega, rfl, rfl, by omega⟩
  go_enter Try.func36, Try.ntmps36
  go_wp2
  go_loop [6, 7] (fun p q => LongRel g.toNat p q) (fun _ q => (intOf q).toNat)
  case atStart => exact start
  case round =>
    clear start
    obtain ⟨l, a, hl0, hl1, ha0, ha1, rfl, rfl, hE⟩ := hrel
    have HE : Hid (l + (bl a.toNat : Int) = bl g.toNat) := hE
    clear hE
    by_cases hc : 0 < a
    · clear hst hA hA2
      go_wp2
      go_round
      case rel => exact long_step g.toNat l a hl0 hc ha1 (bl_le _ (by omega)) HE.out
      case measure => simp [intOf]; omega
    · have ha : a = 0 := by omega
      subst ha
      have hl : l = L := by
        have h1 := HE.out
        have h2 := hL.out
        have h3 : bl (0 : Int).toNat = 0 := rfl
        rw [h3] at h1; omega
      subst hl
      clear HE hc
      go_wp2_with fail
      refine (HW.out _).mono ?_
      rintro r w1 ⟨rfl, rfl⟩
      go_wp2_with fail
      all_goals go_ret2
      all_goals exact ⟨rfl, (Below.refl _ _).alloc (Nat.le_refl _) _⟩

set_option maxRecDepth 100000 in
set_option maxHeartbeats 4000000 in
theorem rnar_awtgA (s t : Bool) (c x g k L st : Int) (hg0 : 0 ≤ g) (hg1 : g < 9007199254740992) (hL : Hid (L = (bl g.toNat : Int))) (hx0 : -1074 ≤ x) (hx1 : x ≤ 971) (hA : -149 < st) (hA2 : st ≤ 1100) (hst : L + x - 24 = st) (Q QW rest hf : Int) (hlt : x < st) (h60 : st - x ≤ 60) (q0 : 0 ≤ Q) (q1 : Q < 9007199254740992) (e1 : g / 2 ^ (st - x).toNat = Q) (e2 : IntKind.u64.wrap (Q * 2 ^ (st - x).toNat) = QW) (e3 : IntKind.u64.wrap (g - QW) = rest) (e4 : IntKind.u64.wrap (2 ^ ((st - x).toNat - 1)) = hf) (f1 : (rest == hf) = false) (f2 : hf < rest) (f3 : (rest == 0) = false)  (HW : Hid (∀ w, Calls Try.prog 37 #[.int .i64 k, .bool s] w fun r w' => r = .returned (.tuple #[.bool false, .bool t, .bool true]) ∧ w' = w)) (w : World) :
    Calls Try.prog 36 #[.agg #[.bool s, .int .i64 c, .int .i64 x, .int .u64 g], .int .i64 k] w fun r w' => r = .returned (.tuple #[.int .u64 (Q + 1), .int .i64 st]) ∧ Below w.heap.size w w' := by
  have start : LongRel g.toNat (.int .i64 0) (.int .u64 g) := ⟨0, g, by omega, by omega, hg0, by omega, rfl, rfl, by omega⟩
  go_enter Try.func36, Try.ntmps36
  go_wp2
  go_loop [6, 7] (fun p q => LongRel g.toNat p q) (fun _ q => (intOf q).toNat)
  case atStart => exact start
  case round =>
    clear start
    obtain ⟨l, a, hl0, hl1, ha0, ha1, rfl, rfl, hE⟩ := hrel
    have HE : Hid (l + (bl a.toNat : Int) = bl g.toNat) := hE
    clear hE
    by_cases hc : 0 < a
    · clear hst hA hA2
      go_wp2
      go_round
      case rel => exact long_step g.toNat l a hl0 hc ha1 (bl_le _ (by omega)) HE.out
      case measure => simp [intOf]; omega
    · have ha : a = 0 := by omega
      subst ha
      have hl : l = L := by
        have h1 := HE.out
        have h2 := hL.out
        have h3 : bl (0 : Int).toNat = 0 := rfl
        rw [h3] at h1; omega
      subst hl
      clear HE hc
      go_wp2_with fail
      refine (HW.out _).mono ?_
      rintro r w1 ⟨rfl, rfl⟩
      go_wp2_with fail
      all_goals go_ret2
      all_goals exact ⟨rfl, (Below.refl _ _).alloc (Nat.le_refl _) _⟩

set_option maxRecDepth 100000 in
set_option maxHeartbeats 4000000 in
theorem rnar_awfgA (s t : Bool) (c x g k L st : Int) (hg0 : 0 ≤ g) (hg1 : g < 9007199254740992) (hL : Hid (L = (bl g.toNat : Int))) (hx0 : -1074 ≤ x) (hx1 : x ≤ 971) (hA : -149 < st) (hA2 : st ≤ 1100) (hst : L + x - 24 = st) (Q QW rest hf : Int) (hlt : x < st) (h60 : st - x ≤ 60) (q0 : 0 ≤ Q) (q1 : Q < 9007199254740992) (e1 : g / 2 ^ (st - x).toNat = Q) (e2 : IntKind.u64.wrap (Q * 2 ^ (st - x).toNat) = QW) (e3 : IntKind.u64.wrap (g - QW) = rest) (e4 : IntKind.u64.wrap (2 ^ ((st - x).toNat - 1)) = hf) (f1 : (rest == hf) = false) (f2 : hf < rest) (f3 : (rest == 0) = false)  (HW : Hid (∀ w, Calls Try.prog 37 #[.int .i64 k, .bool s] w fun r w' => r = .returned (.tuple #[.bool false, .bool t, .bool false]) ∧ w' = w)) (w : World) :
    Calls Try.prog 36 #[.agg #[.bool s, .int .i64 c, .int .i64 x, .int .u64 g], .int .i64 k] w fun r w' => r = .returned (.tuple #[.int .u64 Q, .int .i64 st]) ∧ Below w.heap.size w w' := by
  have start : LongRel g.toNat (.int .i64 0) (.int .u64 g) := ⟨0, g, by omega, by omega, hg0, by omega, rfl, rfl, by omega⟩
  go_enter Try.func36, Try.ntmps36
  go_wp2
  go_loop [6, 7] (fun p q => LongRel g.toNat p q) (fun _ q => (intOf q).toNat)
  case atStart => exact start
  case round =>
    clear start
    obtain ⟨l, a, hl0, hl1, ha0, ha1, rfl, rfl, hE⟩ := hrel
    have HE : Hid (l + (bl a.toNat : Int) = bl g.toNat) := hE
    clear hE
    by_cases hc : 0 < a
    · clear hst hA hA2
      go_wp2
      go_round
      case rel => exact long_step g.toNat l a hl0 hc ha1 (bl_le _ (by omega)) HE.out
      case measure => simp [intOf]; omega
    · have ha : a = 0 := by omega
      subst ha
      have hl : l = L := by
        have h1 := HE.out
        have h2 := hL.out
        have h3 : bl (0 : Int).toNat = 0 := rfl
        rw [h3] at h1; omega
      subst hl
      clear HE hc
      go_wp2_with fail
      refine (HW.out _).mono ?_
      rintro r w1 ⟨rfl, rfl⟩
      go_wp2_with fail
      all_goals go_ret2
      all_goals exact ⟨rfl, (Below.refl _ _).alloc (Nat.le_refl _) _⟩

set_option maxRecDepth 100000 in
set_option maxHeartbeats 4000000 in
theorem rnar_awteA (s t : Bool) (c x g k L st : Int) (hg0 : 0 ≤ g) (hg1 : g < 9007199254740992) (hL : Hid (L = (bl g.toNat : Int))) (hx0 : -1074 ≤ x) (hx1 : x ≤ 971) (hA : -149 < st) (hA2 : st ≤ 1100) (hst : L + x - 24 = st) (Q QW rest hf : Int) (hlt : x < st) (h60 : st - x ≤ 60) (q0 : 0 ≤ Q) (q1 : Q < 9007199254740992) (e1 : g / 2 ^ (st - x).toNat = Q) (e2 : IntKind.u64.wrap (Q * 2 ^ (st - x).toNat) = QW) (e3 : IntKind.u64.wrap (g - QW) = rest) (e4 : IntKind.u64.wrap (2 ^ ((st - x).toNat - 1)) = hf) (f1 : (rest == hf) = true) (f3 : (rest == 0) = false)  (HW : Hid (∀ w, Calls Try.prog 37 #[.int .i64 k, .bool s] w fun r w' => r = .returned (.tuple #[.bool false, .bool t, .bool true]) ∧ w' = w)) (w : World) :
    Calls Try.prog 36 #[.agg #[.bool s, .int .i64 c, .int .i64 x, .int .u64 g], .int .i64 k] w fun r w' => r = .returned (.tuple #[.int .u64 (Q + 1), .int .i64 st]) ∧ Below w.heap.size w w' := by
  have start : LongRel g.toNat (.int .i64 0) (.int .u64 g) := ⟨0, g, by omega, by omega, hg0, by omega, rfl, rfl, by omega⟩
  go_enter Try.func36, Try.ntmps36
  go_wp2
  go_loop [6, 7] (fun p q => LongRel g.toNat p q) (fun _ q => (intOf q).toNat)
  case atStart => exact start
  case round =>
    clear start
    obtain ⟨l, a, hl0, hl1, ha0, ha1, rfl, rfl, hE⟩ := hrel
    have HE : Hid (l + (bl a.toNat : Int) = bl g.toNat) := hE
    clear hE
    by_cases hc : 0 < a
    · clear hst hA hA2
      go_wp2
      go_round
      case rel => exact long_step g.toNat l a hl0 hc ha1 (bl_le _ (by omega)) HE.out
      case measure => simp [intOf]; omega
    · have ha : a = 0 := by omega
      subst ha
      have hl : l = L := by
        have h1 := HE.out
        have h2 := hL.out
        have h3 : bl (0 : Int).toNat = 0 := rfl
        rw [h3] at h1; omega
      subst hl
      clear HE hc
      go_wp2_with fail
      refine (HW.out _).mono ?_
      rintro r w1 ⟨rfl, rfl⟩
      go_wp2_with fail
      all_goals go_ret2
      all_goals exact ⟨rfl, (Below.refl _ _).alloc (Nat.le_refl _) _⟩

set_option maxRecDepth 100000 in
set_option maxHeartbeats 4000000 in
theorem rnar_awfeA (s t : Bool) (c x g k L st : Int) (hg0 : 0 ≤ g) (hg1 : g < 9007199254740992) (hL : Hid (L = (bl g.toNat : Int))) (hx0 : -1074 ≤ x) (hx1 : x ≤ 971) (hA : -149 < st) (hA2 : st ≤ 1100) (hst : L + x - 24 = st) (Q QW rest hf : Int) (hlt : x < st) (h60 : st - x ≤ 60) (q0 : 0 ≤ Q) (q1 : Q < 9007199254740992) (e1 : g / 2 ^ (st - x).toNat = Q) (e2 : IntKind.u64.wrap (Q * 2 ^ (st - x).toNat) = QW) (e3 : IntKind.u64.wrap (g - QW) = rest) (e4 : IntKind.u64.wrap (2 ^ ((st - x).toNat - 1)) = hf) (f1 : (rest == hf) = true) (f3 : (rest == 0) = false)  (HW : Hid (∀ w, Calls Try.prog 37 #[.int .i64 k, .bool s] w fun r w' => r = .returned (.tuple #[.bool false, .bool t, .bool false]) ∧ w' = w)) (w : World) :
    Calls Try.prog 36 #[.agg #[.bool s, .int .i64 c, .int .i64 x, .int .u64 g], .int .i64 k] w fun r w' => r = .returned (.tuple #[.int .u64 Q, .int .i64 st]) ∧ Below w.heap.size w w' := by
  have start : LongRel g.toNat (.int .i64 0) (.int .u64 g) := ⟨0, g, by omega, by omega, hg0, by omega, rfl, rfl, by omega⟩
  go_enter Try.func36, Try.ntmps36
  go_wp2
  go_loop [6, 7] (fun p q => LongRel g.toNat p q) (fun _ q => (intOf q).toNat)
  case atStart => exact start
  case round =>
    clear start
    obtain ⟨l, a, hl0, hl1, ha0, ha1, rfl, rfl, hE⟩ := hrel
    have HE : Hid (l + (bl a.toNat : Int) = bl g.toNat) := hE
    clear hE
    by_cases hc : 0 < a
    · clear hst hA hA2
      go_wp2
      go_round
      case rel => exact long_step g.toNat l a hl0 hc ha1 (bl_le _ (by omega)) HE.out
      case measure => simp [intOf]; omega
    · have ha : a = 0 := by omega
      subst ha
      have hl : l = L := by
        have h1 := HE.out
        have h2 := hL.out
        have h3 : bl (0 : Int).toNat = 0 := rfl
        rw [h3] at h1; omega
      subst hl
      clear HE hc
      go_wp2_with fail
      refine (HW.out _).mono ?_
      rintro r w1 ⟨rfl, rfl⟩
      go_wp2_with fail
      all_goals go_ret2
      all_goals exact ⟨rfl, (Below.refl _ _).alloc (Nat.le_refl _) _⟩

set_option maxRecDepth 100000 in
set_option maxHeartbeats 4000000 in
theorem rnar_awtlA (s t : Bool) (c x g k L st : Int) (hg0 : 0 ≤ g) (hg1 : g < 9007199254740992) (hL : Hid (L = (bl g.toNat : Int))) (hx0 : -1074 ≤ x) (hx1 : x ≤ 971) (hA : -149 < st) (hA2 : st ≤ 1100) (hst : L + x - 24 = st) (Q QW rest hf : Int) (hlt : x < st) (h60 : st - x ≤ 60) (q0 : 0 ≤ Q) (q1 : Q < 9007199254740992) (e1 : g / 2 ^ (st - x).toNat = Q) (e2 : IntKind.u64.wrap (Q * 2 ^ (st - x).toNat) = QW) (e3 : IntKind.u64.wrap (g - QW) = rest) (e4 : IntKind.u64.wrap (2 ^ ((st - x).toNat - 1)) = hf) (f1 : (rest == hf) = false) (f2 : ¬ hf < rest) (f3 : (rest == 0) = false)  (HW : Hid (∀ w, Calls Try.prog 37 #[.int .i64 k, .bool s] w fun r w' => r = .returned (.tuple #[.bool false, .bool t, .bool true]) ∧ w' = w)) (w : World) :
    Calls Try.prog 36 #[.agg #[.bool s, .int .i64 c, .int .i64 x, .int .u64 g], .int .i64 k] w fun r w' => r = .returned (.tuple #[.int .u64 (Q + 1), .int .i64 st]) ∧ Below w.heap.size w w' := by
  have start : LongRel g.toNat (.int .i64 0) (.int .u64 g) := ⟨0, g, by omega, by omega, hg0, by omega, rfl, rfl, by omega⟩
  go_enter Try.func36, Try.ntmps36
  go_wp2
  go_loop [6, 7] (fun p q => LongRel g.toNat p q) (fun _ q => (intOf q).toNat)
  case atStart => exact start
  case round =>
    clear start
    obtain ⟨l, a, hl0, hl1, ha0, ha1, rfl, rfl, hE⟩ := hrel
    have HE : Hid (l + (bl a.toNat : Int) = bl g.toNat) := hE
    clear hE
    by_cases hc : 0 < a
    · clear hst hA hA2
      go_wp2
      go_round
      case rel => exact long_step g.toNat l a hl0 hc ha1 (bl_le _ (by omega)) HE.out
      case measure => simp [intOf]; omega
    · have ha : a = 0 := by omega
      subst ha
      have hl : l = L := by
        have h1 := HE.out
        have h2 := hL.out
        have h3 : bl (0 : Int).toNat = 0 := rfl
        rw [h3] at h1; omega
      subst hl
      clear HE hc
      go_wp2_with fail
      refine (HW.out _).mono ?_
      rintro r w1 ⟨rfl, rfl⟩
      go_wp2_with fail
      all_goals go_ret2
      all_goals exact ⟨rfl, (Below.refl _ _).alloc (Nat.le_refl _) _⟩

set_option maxRecDepth 100000 in
set_option maxHeartbeats 4000000 in
theorem rnar_awflA (s t : Bool) (c x g k L st : Int) (hg0 : 0 ≤ g) (hg1 : g < 9007199254740992) (hL : Hid (L = (bl g.toNat : Int))) (hx0 : -1074 ≤ x) (hx1 : x ≤ 971) (hA : -149 < st) (hA2 : st ≤ 1100) (hst : L + x - 24 = st) (Q QW rest hf : Int) (hlt : x < st) (h60 : st - x ≤ 60) (q0 : 0 ≤ Q) (q1 : Q < 9007199254740992) (e1 : g / 2 ^ (st - x).toNat = Q) (e2 : IntKind.u64.wrap (Q * 2 ^ (st - x).toNat) = QW) (e3 : IntKind.u64.wrap (g - QW) = rest) (e4 : IntKind.u64.wrap (2 ^ ((st - x).toNat - 1)) = hf) (f1 : (rest == hf) = false) (f2 : ¬ hf < rest) (f3 : (rest == 0) = false)  (HW : Hid (∀ w, Calls Try.prog 37 #[.int .i64 k, .bool s] w fun r w' => r = .returned (.tuple #[.bool false, .bool t, .bool false]) ∧ w' = w)) (w : World) :
    Calls Try.prog 36 #[.agg #[.bool s, .int .i64 c, .int .i64 x, .int .u64 g], .int .i64 k] w fun r w' => r = .returned (.tuple #[.int .u64 Q, .int .i64 st]) ∧ Below w.heap.size w w' := by
  have start : LongRel g.toNat (.int .i64 0) (.int .u64 g) := ⟨0, g, by omega, by omega, hg0, by omega, rfl, rfl, by omega⟩
  go_enter Try.func36, Try.ntmps36
  go_wp2
  go_loop [6, 7] (fun p q => LongRel g.toNat p q) (fun _ q => (intOf q).toNat)
  case atStart => exact start
  case round =>
    clear start
    obtain ⟨l, a, hl0, hl1, ha0, ha1, rfl, rfl, hE⟩ := hrel
    have HE : Hid (l + (bl a.toNat : Int) = bl g.toNat) := hE
    clear hE
    by_cases hc : 0 < a
    · clear hst hA hA2
      go_wp2
      go_round
      case rel => exact long_step g.toNat l a hl0 hc ha1 (bl_le _ (by omega)) HE.out
      case measure => simp [intOf]; omega
    · have ha : a = 0 := by omega
      subst ha
      have hl : l = L := by
        have h1 := HE.out
        have h2 := hL.out
        have h3 : bl (0 : Int).toNat = 0 := rfl
        rw [h3] at h1; omega
      subst hl
      clear HE hc
      go_wp2_with fail
      refine (HW.out _).mono ?_
      rintro r w1 ⟨rfl, rfl⟩
      go_wp2_with fail
      all_goals go_ret2
      all_goals exact ⟨rfl, (Below.refl _ _).alloc (Nat.le_refl _) _⟩
end Go.Proofs.Ytedknjiipmppgab
