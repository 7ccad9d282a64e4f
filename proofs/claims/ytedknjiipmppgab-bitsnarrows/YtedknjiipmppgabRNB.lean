/- What the document's narrow answers, over what its numbers are. -/
import Derived.Test.YtedknjiipmppgabRNA
namespace Go.Proofs.Ytedknjiipmppgab
open Go.RowKit
attribute [local go_sem] f64bits f64frombits f32bits f32frombits
set_option linter.unusedVariables false


set_option maxRecDepth 100000 in
set_option maxHeartbeats 4000000 in
theorem rnar_exactB (s : Bool) (c x g k L : Int) (hg0 : 0 ≤ g) (hg1 : g < 9007199254740992) (hL : Hid (L = (bl g.toNat : Int))) (hx0 : -1074 ≤ x) (hx1 : x ≤ 971) (hB : ¬ -149 < L + x - 24) (hle : (-149) ≤ x) (R : Int) (hR : IntKind.u64.wrap (g * 2 ^ (x + 149).toNat) = R) (w : World) :
    Calls Try.prog 36 #[.agg #[.bool s, .int .i64 c, .int .i64 x, .int .u64 g], .int .i64 k] w fun r w' => r = .returned (.tuple #[.int .u64 R, .int .i64 (-149)]) ∧ Below w.heap.size w w' := by
  have start : LongRel g.toNat (.int .i64 0) (.int .u64 g) := ⟨0, g, by omega, by omega, hg0, by omega, rfl, rfl, by omega⟩
  go_enter Try.func36, Try.ntmps36
  go_wp2
  go_loop [6, 7] (fun p q => LongRel g.toNat p q) (fun _ q => (intOf q).toNat)
  case atStart => exact start
  case round =>
    clear start
    obtain ⟨l, a, hl0, hl1, ha0, ha1, rfl, rfl, hE⟩ := hrel
    have HE : Hid (l + (bl a.toNat : Int) = bl g.toNat) := hE
    clear hE
    by_cases hc : 0 < a
    · clear hB
      go_wp2
      go_round
      case rel => exact long_step g.toNat l a hl0 hc ha1 (bl_le _ (by omega)) HE.out
      case measure => simp [intOf]; omega
    · have ha : a = 0 := by omega
      subst ha
      have hl : l = L := by
        have h1 := HE.out
        have h2 := hL.out
        have h3 : bl (0 : Int).toNat = 0 := rfl
        rw [h3] at h1; omega
      subst hl
      clear HE hc
      go_wp2_with fail
      all_goals go_ret2
      all_goals exact ⟨rfl, (Below.refl _ _).alloc (Nat.le_refl _) _⟩

set_option maxRecDepth 100000 in
set_option maxHeartbeats 4000000 in
theorem rnar_restB (s n t v : Bool) (c x g k L : Int) (hg0 : 0 ≤ g) (hg1 : g < 9007199254740992) (hL : Hid (L = (bl g.toNat : Int))) (hx0 : -1074 ≤ x) (hx1 : x ≤ 971) (hB : ¬ -149 < L + x - 24) (Q QW rest hf : Int) (hlt : x < (-149)) (h60 : (-149) - x ≤ 60) (q0 : 0 ≤ Q) (q1 : Q < 9007199254740992) (e1 : g / 2 ^ (-149 - x).toNat = Q) (e2 : IntKind.u64.wrap (Q * 2 ^ (-149 - x).toNat) = QW) (e3 : IntKind.u64.wrap (g - QW) = rest) (e4 : IntKind.u64.wrap (2 ^ ((-149 - x).toNat - 1)) = hf) (f1 : (rest == hf) = false) (f2 : ¬ hf < rest) (f3 : (rest == 0) = true)  (HW : Hid (∀ w, Calls Try.prog 37 #[.int .i64 k, .bool s] w fun r w' => r = .returned (.tuple #[.bool n, .bool t, .bool v]) ∧ w' = w)) (w : World) :
    Calls Try.prog 36 #[.agg #[.bool s, .int .i64 c, .int .i64 x, .int .u64 g], .int .i64 k] w fun r w' => r = .returned (.tuple #[.int .u64 Q, .int .i64 (-149)]) ∧ Below w.heap.size w w' := by
  have start : LongRel g.toNat (.int .i64 0) (.int .u64 g) := ⟨0, g, by omega, by omega, hg0, by omega, rfl, rfl, by omega⟩
  go_enter Try.func36, Try.ntmps36
  go_wp2
  go_loop [6, 7] (fun p q => LongRel g.toNat p q) (fun _ q => (intOf q).toNat)
  case atStart => exact start
  case round =>
    clear start
    obtain ⟨l, a, hl0, hl1, ha0, ha1, rfl, rfl, hE⟩ := hrel
    have HE : Hid (l + (bl a.toNat : Int) = bl g.toNat) := hE
    clear hE
    by_cases hc : 0 < a
    · clear hB
      go_wp2
      go_round
      case rel => exact long_step g.toNat l a hl0 hc ha1 (bl_le _ (by omega)) HE.out
      case measure => simp [intOf]; omega
    · have ha : a = 0 := by omega
      subst ha
      have hl : l = L := by
        have h1 := HE.out
        have h2 := hL.out
        have h3 : bl (0 : Int).toNat = 0 := rfl
        rw [h3] at h1; omega
      subst hl
      clear HE hc
      go_wp2_with fail
      refine (HW.out _).mono ?_
      rintro r w1 ⟨rfl, rfl⟩
      go_wp2_with fail
      all_goals go_ret2
      all_goals exact ⟨rfl, (Below.refl _ _).alloc (Nat.le_refl _) _⟩

set_option maxRecDepth 100000 in
set_option maxHeartbeats 4000000 in
theorem rnar_moreB (s t v : Bool) (c x g k L : Int) (hg0 : 0 ≤ g) (hg1 : g < 9007199254740992) (hL : Hid (L = (bl g.toNat : Int))) (hx0 : -1074 ≤ x) (hx1 : x ≤ 971) (hB : ¬ -149 < L + x - 24) (Q QW rest hf : Int) (hlt : x < (-149)) (h60 : (-149) - x ≤ 60) (q0 : 0 ≤ Q) (q1 : Q < 9007199254740992) (e1 : g / 2 ^ (-149 - x).toNat = Q) (e2 : IntKind.u64.wrap (Q * 2 ^ (-149 - x).toNat) = QW) (e3 : IntKind.u64.wrap (g - QW) = rest) (e4 : IntKind.u64.wrap (2 ^ ((-149 - x).toNat - 1)) = hf) (f1 : (rest == hf) = false) (f2 : hf < rest) (f3 : (rest == 0) = false)  (HW : Hid (∀ w, Calls Try.prog 37 #[.int .i64 k, .bool s] w fun r w' => r = .returned (.tuple #[.bool true, .bool t, .bool v]) ∧ w' = w)) (w : World) :
    Calls Try.prog 36 #[.agg #[.bool s, .int .i64 c, .int .i64 x, .int .u64 g], .int .i64 k] w fun r w' => r = .returned (.tuple #[.int .u64 (Q + 1), .int .i64 (-149)]) ∧ Below w.heap.size w w' := by
  have start : LongRel g.toNat (.int .i64 0) (.int .u64 g) := ⟨0, g, by omega, by omega, hg0, by omega, rfl, rfl, by omega⟩
  go_enter Try.func36, Try.ntmps36
  go_wp2
  go_loop [6, 7] (fun p q => LongRel g.toNat p q) (fun _ q => (intOf q).toNat)
  case atStart => exact start
  case round =>
    clear start
    obtain ⟨l, a, hl0, hl1, ha0, ha1, rfl, rfl, hE⟩ := hrel
    have HE : Hid (l + (bl a.toNat : Int) = bl g.toNat) := hE
    clear hE
    by_cases hc : 0 < a
    · clear hB
      go_wp2
      go_round
      case rel => exact long_step g.toNat l a hl0 hc ha1 (bl_le _ (by omega)) HE.out
      case measure => simp [intOf]; omega
    · have ha : a = 0 := by omega
      subst ha
      have hl : l = L := by
        have h1 := HE.out
        have h2 := hL.out
        have h3 : bl (0 : Int).toNat = 0 := rfl
        rw [h3] at h1; omega
      subst hl
      clear HE hc
      go_wp2_with fail
      refine (HW.out _).mono ?_
      rintro r w1 ⟨rfl, rfl⟩
      go_wp2_with fail
      all_goals go_ret2
      all_goals exact ⟨rfl, (Below.refl _ _).alloc (Nat.le_refl _) _⟩

set_option maxRecDepth 100000 in
set_option maxHeartbeats 4000000 in
theorem rnar_tieB (s v : Bool) (c x g k L : Int) (hg0 : 0 ≤ g) (hg1 : g < 9007199254740992) (hL : Hid (L = (bl g.toNat : Int))) (hx0 : -1074 ≤ x) (hx1 : x ≤ 971) (hB : ¬ -149 < L + x - 24) (Q QW rest hf : Int) (hlt : x < (-149)) (h60 : (-149) - x ≤ 60) (q0 : 0 ≤ Q) (q1 : Q < 9007199254740992) (e1 : g / 2 ^ (-149 - x).toNat = Q) (e2 : IntKind.u64.wrap (Q * 2 ^ (-149 - x).toNat) = QW) (e3 : IntKind.u64.wrap (g - QW) = rest) (e4 : IntKind.u64.wrap (2 ^ ((-149 - x).toNat - 1)) = hf) (f1 : (rest == hf) = true) (f3 : (rest == 0) = false)  (HW : Hid (∀ w, Calls Try.prog 37 #[.int .i64 k, .bool s] w fun r w' => r = .returned (.tuple #[.bool true, .bool true, .bool v]) ∧ w' = w)) (w : World) :
    Calls Try.prog 36 #[.agg #[.bool s, .int .i64 c, .int .i64 x, .int .u64 g], .int .i64 k] w fun r w' => r = .returned (.tuple #[.int .u64 (Q + 1), .int .i64 (-149)]) ∧ Below w.heap.size w w' := by
  have start : LongRel g.toNat (.int .i64 0) (.int .u64 g) := ⟨0, g, by omega, by omega, hg0, by omega, rfl, rfl, by omega⟩
  go_enter Try.func36, Try.ntmps36
  go_wp2
  go_loop [6, 7] (fun p q => LongRel g.toNat p q) (fun _ q => (intOf q).toNat)
  case atStart => exact start
  case round =>
    clear start
    obtain ⟨l, a, hl0, hl1, ha0, ha1, rfl, rfl, hE⟩ := hrel
    have HE : Hid (l + (bl a.toNat : Int) = bl g.toNat) := hE
    clear hE
    by_cases hc : 0 < a
    · clear hB
      go_wp2
      go_round
      case rel => exact long_step g.toNat l a hl0 hc ha1 (bl_le _ (by omega)) HE.out
      case measure => simp [intOf]; omega
    · have ha : a = 0 := by omega
      subst ha
      have hl : l = L := by
        have h1 := HE.out
        have h2 := hL.out
        have h3 : bl (0 : Int).toNat = 0 := rfl
        rw [h3] at h1; omega
      subst hl
      clear HE hc
      go_wp2_with fail
      refine (HW.out _).mono ?_
      rintro r w1 ⟨rfl, rfl⟩
      go_wp2_with fail
      all_goals go_ret2
      all_goals exact ⟨rfl, (Below.refl _ _).alloc (Nat.le_refl _) _⟩

set_option maxRecDepth 100000 in
set_option maxHeartbeats 4000000 in
theorem rnar_partB (s v : Bool) (c x g k L : Int) (hg0 : 0 ≤ g) (hg1 : g < 9007199254740992) (hL : Hid (L = (bl g.toNat : Int))) (hx0 : -1074 ≤ x) (hx1 : x ≤ 971) (hB : ¬ -149 < L + x - 24) (Q QW rest hf : Int) (hlt : x < (-149)) (h60 : (-149) - x ≤ 60) (q0 : 0 ≤ Q) (q1 : Q < 9007199254740992) (e1 : g / 2 ^ (-149 - x).toNat = Q) (e2 : IntKind.u64.wrap (Q * 2 ^ (-149 - x).toNat) = QW) (e3 : IntKind.u64.wrap (g - QW) = rest) (e4 : IntKind.u64.wrap (2 ^ ((-149 - x).toNat - 1)) = hf) (f1 : (rest == hf) = true) (f3 : (rest == 0) = false) (f4 : (Q % 2 == 1) = true)  (HW : Hid (∀ w, Calls Try.prog 37 #[.int .i64 k, .bool s] w fun r w' => r = .returned (.tuple #[.bool true, .bool false, .bool v]) ∧ w' = w)) (w : World) :
    Calls Try.prog 36 #[.agg #[.bool s, .int .i64 c, .int .i64 x, .int .u64 g], .int .i64 k] w fun r w' => r = .returned (.tuple #[.int .u64 (Q + 1), .int .i64 (-149)]) ∧ Below w.heap.size w w' := by
  have start : LongRel g.toNat (.int .i64 0) (.int .u64 g) := ⟨0, g, by omega, by omega, hg0, by omega, rfl, rfl, by omega⟩
  go_enter Try.func36, Try.ntmps36
  go_wp2
  go_loop [6, 7] (fun p q => LongRel g.toNat p q) (fun _ q => (intOf q).toNat)
  case atStart => exact start
  case round =>
    clear start
    obtain ⟨l, a, hl0, hl1, ha0, ha1, rfl, rfl, hE⟩ := hrel
    have HE : Hid (l + (bl a.toNat : Int) = bl g.toNat) := hE
    clear hE
    by_cases hc : 0 < a
    · clear hB
      go_wp2
      go_round
      case rel => exact long_step g.toNat l a hl0 hc ha1 (bl_le _ (by omega)) HE.out
      case measure => simp [intOf]; omega
    · have ha : a = 0 := by omega
      subst ha
      have hl : l = L := by
        have h1 := HE.out
        have h2 := hL.out
        have h3 : bl (0 : Int).toNat = 0 := rfl
        rw [h3] at h1; omega
      subst hl
      clear HE hc
      go_wp2_with fail
      refine (HW.out _).mono ?_
      rintro r w1 ⟨rfl, rfl⟩
      go_wp2_with fail
      all_goals go_ret2
      all_goals exact ⟨rfl, (Below.refl _ _).alloc (Nat.le_refl _) _⟩

set_option maxRecDepth 100000 in
set_option maxHeartbeats 4000000 in
theorem rnar_parfB (s v : Bool) (c x g k L : Int) (hg0 : 0 ≤ g) (hg1 : g < 9007199254740992) (hL : Hid (L = (bl g.toNat : Int))) (hx0 : -1074 ≤ x) (hx1 : x ≤ 971) (hB : ¬ -149 < L + x - 24) (Q QW rest hf : Int) (hlt : x < (-149)) (h60 : (-149) - x ≤ 60) (q0 : 0 ≤ Q) (q1 : Q < 9007199254740992) (e1 : g / 2 ^ (-149 - x).toNat = Q) (e2 : IntKind.u64.wrap (Q * 2 ^ (-149 - x).toNat) = QW) (e3 : IntKind.u64.wrap (g - QW) = rest) (e4 : IntKind.u64.wrap (2 ^ ((-149 - x).toNat - 1)) = hf) (f1 : (rest == hf) = true) (f3 : (rest == 0) = false) (f4 : (Q % 2 == 1) = false)  (HW : Hid (∀ w, Calls Try.prog 37 #[.int .i64 k, .bool s] w fun r w' => r = .returned (.tuple #[.bool true, .bool false, .bool v]) ∧ w' = w)) (w : World) :
    Calls Try.prog 36 #[.agg #[.bool s, .int .i64 c, .int .i64 x, .int .u64 g], .int .i64 k] w fun r w' => r = .returned (.tuple #[.int .u64 Q, .int .i64 (-149)]) ∧ Below w.heap.size w w' := by
  have start : LongRel g.toNat (.int .i64 0) (.int .u64 g) := ⟨0, g, by omega, by omega, hg0, by omega, rfl, rfl, by omega⟩
  go_enter Try.func36, Try.ntmps36
  go_wp2
  go_loop [6, 7] (fun p q => LongRel g.toNat p q) (fun _ q => (intOf q).toNat)
  case atStart => exact start
  case round =>
    clear start
    obtain ⟨l, a, hl0, hl1, ha0, ha1, rfl, rfl, hE⟩ := hrel
    have HE : Hid (l + (bl a.toNat : Int) = bl g.toNat) := hE
    clear hE
    by_cases hc : 0 < a
    · clear hB
      go_wp2
      go_round
      case rel => exact long_step g.toNat l a hl0 hc ha1 (bl_le _ (by omega)) HE.out
      case measure => simp [intOf]; omega
    · have ha : a = 0 := by omega
      subst ha
      have hl : l = L := by
        have h1 := HE.out
        have h2 := hL.out
        have h3 : bl (0 : Int).toNat = 0 := rfl
        rw [h3] at h1; omega
      subst hl
      clear HE hc
      go_wp2_with fail
      refine (HW.out _).mono ?_
      rintro r w1 ⟨rfl, rfl⟩
      go_wp2_with fail
      all_goals go_ret2
      all_goals exact ⟨rfl, (Below.refl _ _).alloc (Nat.le_refl _) _⟩

set_option maxRecDepth 100000 in
set_option maxHeartbeats 4000000 in
theorem rnar_lessB (s t v : Bool) (c x g k L : Int) (hg0 : 0 ≤ g) (hg1 : g < 9007199254740992) (hL : Hid (L = (bl g.toNat : Int))) (hx0 : -1074 ≤ x) (hx1 : x ≤ 971) (hB : ¬ -149 < L + x - 24) (Q QW rest hf : Int) (hlt : x < (-149)) (h60 : (-149) - x ≤ 60) (q0 : 0 ≤ Q) (q1 : Q < 9007199254740992) (e1 : g / 2 ^ (-149 - x).toNat = Q) (e2 : IntKind.u64.wrap (Q * 2 ^ (-149 - x).toNat) = QW) (e3 : IntKind.u64.wrap (g - QW) = rest) (e4 : IntKind.u64.wrap (2 ^ ((-149 - x).toNat - 1)) = hf) (f1 : (rest == hf) = false) (f2 : ¬ hf < rest) (f3 : (rest == 0) = false)  (HW : Hid (∀ w, Calls Try.prog 37 #[.int .i64 k, .bool s] w fun r w' => r = .returned (.tuple #[.bool true, .bool t, .bool v]) ∧ w' = w)) (w : World) :
    Calls Try.prog 36 #[.agg #[.bool s, .int .i64 c, .int .i64 x, .int .u64 g], .int .i64 k] w fun r w' => r = .returned (.tuple #[.int .u64 Q, .int .i64 (-149)]) ∧ Below w.heap.size w w' := by
  have start : LongRel g.toNat (.int .i64 0) (.int .u64 g) := ⟨0, g, by omega, by omega, hg0, by omega, rfl, rfl, by omega⟩
  go_enter Try.func36, Try.ntmps36
  go_wp2
  go_loop [6, 7] (fun p q => LongRel g.toNat p q) (fun _ q => (intOf q).toNat)
  case atStart => exact start
  case round =>
    clear start
    obtain ⟨l, a, hl0, hl1, ha0, ha1, rfl, rfl, hE⟩ := hrel
    have HE : Hid (l + (bl a.toNat : Int) = bl g.toNat) := hE
    clear hE
    by_cases hc : 0 < a
    · clear hB
      go_wp2
      go_round
      case rel => exact long_step g.toNat l a hl0 hc ha1 (bl_le _ (by omega)) HE.out
      case measure => simp [intOf]; omega
    · have ha : a = 0 := by omega
      subst ha
      have hl : l = L := by
        have h1 := HE.out
        have h2 := hL.out
        have h3 : bl (0 : Int).toNat = 0 := rfl
        rw [h3] at h1; omega
      subst hl
      clear HE hc
      go_wp2_with fail
      refine (HW.out _).mono ?_
      rintro r w1 ⟨rfl, rfl⟩
      go_wp2_with fail
      all_goals go_ret2
      all_goals exact ⟨rfl, (Below.refl _ _).alloc (Nat.le_refl _) _⟩

set_option maxRecDepth 100000 in
set_option maxHeartbeats 4000000 in
theorem rnar_awtgB (s t : Bool) (c x g k L : Int) (hg0 : 0 ≤ g) (hg1 : g < 9007199254740992) (hL : Hid (L = (bl g.toNat : Int))) (hx0 : -1074 ≤ x) (hx1 : x ≤ 971) (hB : ¬ -149 < L + x - 24) (Q QW rest hf : Int) (hlt : x < (-149)) (h60 : (-149) - x ≤ 60) (q0 : 0 ≤ Q) (q1 : Q < 9007199254740992) (e1 : g / 2 ^ (-149 - x).toNat = Q) (e2 : IntKind.u64.wrap (Q * 2 ^ (-149 - x).toNat) = QW) (e3 : IntKind.u64.wrap (g - QW) = rest) (e4 : IntKind.u64.wrap (2 ^ ((-149 - x).toNat - 1)) = hf) (f1 : (rest == hf) = false) (f2 : hf < rest) (f3 : (rest == 0) = false)  (HW : Hid (∀ w, Calls Try.prog 37 #[.int .i64 k, .bool s] w fun r w' => r = .returned (.tuple #[.bool false, .bool t, .bool true]) ∧ w' = w)) (w : World) :
    Calls Try.prog 36 #[.agg #[.bool s, .int .i64 c, .int .i64 x, .int .u64 g], .int .i64 k] w fun r w' => r = .returned (.tuple #[.int .u64 (Q + 1), .int .i64 (-149)]) ∧ Below w.heap.size w w' := by
  have start : LongRel g.toNat (.int .i64 0) (.int .u64 g) := ⟨0, g, by omega, by omega, hg0, by omega, rfl, rfl, by omega⟩
  go_enter Try.func36, Try.ntmps36
  go_wp2
  go_loop [6, 7] (fun p q => LongRel g.toNat p q) (fun _ q => (intOf q).toNat)
  case atStart => exact start
  case round =>
    clear start
    obtain ⟨l, a, hl0, hl1, ha0, ha1, rfl, rfl, hE⟩ := hrel
    have HE : Hid (l + (bl a.toNat : Int) = bl g.toNat) := hE
    clear hE
    by_cases hc : 0 < a
    · clear hB
      go_wp2
      go_round
      case rel => exact long_step g.toNat l a hl0 hc ha1 (bl_le _ (by omega)) HE.out
      case measure => simp [intOf]; omega
    · have ha : a = 0 := by omega
      subst ha
      have hl : l = L := by
        have h1 := HE.out
        have h2 := hL.out
        have h3 : bl (0 : Int).toNat = 0 := rfl
        rw [h3] at h1; omega
      subst hl
      clear HE hc
      go_wp2_with fail
      refine (HW.out _).mono ?_
      rintro r w1 ⟨rfl, rfl⟩
      go_wp2_with fail
      all_goals go_ret2
      all_goals exact ⟨rfl, (Below.refl _ _).alloc (Nat.le_refl _) _⟩

set_option maxRecDepth 100000 in
set_option maxHeartbeats 4000000 in
theorem rnar_awfgB (s t : Bool) (c x g k L : Int) (hg0 : 0 ≤ g) (hg1 : g < 9007199254740992) (hL : Hid (L = (bl g.toNat : Int))) (hx0 : -1074 ≤ x) (hx1 : x ≤ 971) (hB : ¬ -149 < L + x - 24) (Q QW rest hf : Int) (hlt : x < (-149)) (h60 : (-149) - x ≤ 60) (q0 : 0 ≤ Q) (q1 : Q < 9007199254740992) (e1 : g / 2 ^ (-149 - x).toNat = Q) (e2 : IntKind.u64.wrap (Q * 2 ^ (-149 - x).toNat) = QW) (e3 : IntKind.u64.wrap (g - QW) = rest) (e4 : IntKind.u64.wrap (2 ^ ((-149 - x).toNat - 1)) = hf) (f1 : (rest == hf) = false) (f2 : hf < rest) (f3 : (rest == 0) = false)  (HW : Hid (∀ w, Calls Try.prog 37 #[.int .i64 k, .bool s] w fun r w' => r = .returned (.tuple #[.bool false, .bool t, .bool false]) ∧ w' = w)) (w : World) :
    Calls Try.prog 36 #[.agg #[.bool s, .int .i64 c, .int .i64 x, .int .u64 g], .int .i64 k] w fun r w' => r = .returned (.tuple #[.int .u64 Q, .int .i64 (-149)]) ∧ Below w.heap.size w w' := by
  have start : LongRel g.toNat (.int .i64 0) (.int .u64 g) := ⟨0, g, by omega, by omega, hg0, by omega, rfl, rfl, by omega⟩
  go_enter Try.func36, Try.ntmps36
  go_wp2
  go_loop [6, 7] (fun p q => LongRel g.toNat p q) (fun _ q => (intOf q).toNat)
  case atStart => exact start
  case round =>
    clear start
    obtain ⟨l, a, hl0, hl1, ha0, ha1, rfl, rfl, hE⟩ := hrel
    have HE : Hid (l + (bl a.toNat : Int) = bl g.toNat) := hE
    clear hE
    by_cases hc : 0 < a
    · clear hB
      go_wp2
      go_round
      case rel => exact long_step g.toNat l a hl0 hc ha1 (bl_le _ (by omega)) HE.out
      case measure => simp [intOf]; omega
    · have ha : a = 0 := by omega
      subst ha
      have hl : l = L := by
        have h1 := HE.out
        have h2 := hL.out
        have h3 : bl (0 : Int).toNat = 0 := rfl
        rw [h3] at h1; omega
      subst hl
      clear HE hc
      go_wp2_with fail
      refine (HW.out _).mono ?_
      rintro r w1 ⟨rfl, rfl⟩
      go_wp2_with fail
      all_goals go_ret2
      all_goals exact ⟨rfl, (Below.refl _ _).alloc (Nat.le_refl _) _⟩

set_option maxRecDepth 100000 in
set_option maxHeartbeats 4000000 in
theorem rnar_awteB (s t : Bool) (c x g k L : Int) (hg0 : 0 ≤ g) (hg1 : g < 9007199254740992) (hL : Hid (L = (bl g.toNat : Int))) (hx0 : -1074 ≤ x) (hx1 : x ≤ 971) (hB : ¬ -149 < L + x - 24) (Q QW rest hf : Int) (hlt : x < (-149)) (h60 : (-149) - x ≤ 60) (q0 : 0 ≤ Q) (q1 : Q < 9007199254740992) (e1 : g / 2 ^ (-149 - x).toNat = Q) (e2 : IntKind.u64.wrap (Q * 2 ^ (-149 - x).toNat) = QW) (e3 : IntKind.u64.wrap (g - QW) = rest) (e4 : IntKind.u64.wrap (2 ^ ((-149 - x).toNat - 1)) = hf) (f1 : (rest == hf) = true) (f3 : (rest == 0) = false)  (HW : Hid (∀ w, Calls Try.prog 37 #[.int .i64 k, .bool s] w fun r w' => r = .returned (.tuple #[.bool false, .bool t, .bool true]) ∧ w' = w)) (w : World) :
    Calls Try.prog 36 #[.agg #[.bool s, .int .i64 c, .int .i64 x, .int .u64 g], .int .i64 k] w fun r w' => r = .returned (.tuple #[.int .u64 (Q + 1), .int .i64 (-149)]) ∧ Below w.heap.size w w' := by
  have start : LongRel g.toNat (.int .i64 0) (.int .u64 g) := ⟨0, g, by omega, by omega, hg0, by omega, rfl, rfl, by omega⟩
  go_enter Try.func36, Try.ntmps36
  go_wp2
  go_loop [6, 7] (fun p q => LongRel g.toNat p q) (fun _ q => (intOf q).toNat)
  case atStart => exact start
  case round =>
    clear start
    obtain ⟨l, a, hl0, hl1, ha0, ha1, rfl, rfl, hE⟩ := hrel
    have HE : Hid (l + (bl a.toNat : Int) = bl g.toNat) := hE
    clear hE
    by_cases hc : 0 < a
    · clear hB
      go_wp2
      go_round
      case rel => exact long_step g.toNat l a hl0 hc ha1 (bl_le _ (by omega)) HE.out
      case measure => simp [intOf]; omega
    · have ha : a = 0 := by omega
      subst ha
      have hl : l = L := by
        have h1 := HE.out
        have h2 := hL.out
        have h3 : bl (0 : Int).toNat = 0 := rfl
        rw [h3] at h1; omega
      subst hl
      clear HE hc
      go_wp2_with fail
      refine (HW.out _).mono ?_
      rintro r w1 ⟨rfl, rfl⟩
      go_wp2_with fail
      all_goals go_ret2
      all_goals exact ⟨rfl, (Below.refl _ _).alloc (Nat.le_refl _) _⟩

set_option maxRecDepth 100000 in
set_option maxHeartbeats 4000000 in
theorem rnar_awfeB (s t : Bool) (c x g k L : Int) (hg0 : 0 ≤ g) (hg1 : g < 9007199254740992) (hL : Hid (L = (bl g.toNat : Int))) (hx0 : -1074 ≤ x) (hx1 : x ≤ 971) (hB : ¬ -149 < L + x - 24) (Q QW rest hf : Int) (hlt : x < (-149)) (h60 : (-149) - x ≤ 60) (q0 : 0 ≤ Q) (q1 : Q < 9007199254740992) (e1 : g / 2 ^ (-149 - x).toNat = Q) (e2 : IntKind.u64.wrap (Q * 2 ^ (-149 - x).toNat) = QW) (e3 : IntKind.u64.wrap (g - QW) = rest) (e4 : IntKind.u64.wrap (2 ^ ((-149 - x).toNat - 1)) = hf) (f1 : (rest == hf) = true) (f3 : (rest == 0) = false)  (HW : Hid (∀ w, Calls Try.prog 37 #[.int .i64 k, .bool s] w fun r w' => r = .returned (.tuple #[.bool false, .bool t, .bool false]) ∧ w' = w)) (w : World) :
    Calls Try.prog 36 #[.agg #[.bool s, .int .i64 c, .int .i64 x, .int .u64 g], .int .i64 k] w fun r w' => r = .returned (.tuple #[.int .u64 Q, .int .i64 (-149)]) ∧ Below w.heap.size w w' := by
  have start : LongRel g.toNat (.int .i64 0) (.int .u64 g) := ⟨0, g, by omega, by omega, hg0, by omega, rfl, rfl, by omega⟩
  go_enter Try.func36, Try.ntmps36
  go_wp2
  go_loop [6, 7] (fun p q => LongRel g.toNat p q) (fun _ q => (intOf q).toNat)
  case atStart => exact start
  case round =>
    clear start
    obtain ⟨l, a, hl0, hl1, ha0, ha1, rfl, rfl, hE⟩ := hrel
    have HE : Hid (l + (bl a.toNat : Int) = bl g.toNat) := hE
    clear hE
    by_cases hc : 0 < a
    · clear hB
      go_wp2
      go_round
      case rel => exact long_step g.toNat l a hl0 hc ha1 (bl_le _ (by omega)) HE.out
      case measure => simp [intOf]; omega
    · have ha : a = 0 := by omega
      subst ha
      have hl : l = L := by
        have h1 := HE.out
        have h2 := hL.out
        have h3 : bl (0 : Int).toNat = 0 := rfl
        rw [h3] at h1; omega
      subst hl
      clear HE hc
      go_wp2_with fail
      refine (HW.out _).mono ?_
      rintro r w1 ⟨rfl, rfl⟩
      go_wp2_with fail
      all_goals go_ret2
      all_goals exact ⟨rfl, (Below.refl _ _).alloc (Nat.le_refl _) _⟩

set_option maxRecDepth 100000 in
set_option maxHeartbeats 4000000 in
theorem rnar_awtlB (s t : Bool) (c x g k L : Int) (hg0 : 0 ≤ g) (hg1 : g < 9007199254740992) (hL : Hid (L = (bl g.toNat : Int))) (hx0 : -1074 ≤ x) (hx1 : x ≤ 971) (hB : ¬ -149 < L + x - 24) (Q QW rest hf : Int) (hlt : x < (-149)) (h60 : (-149) - x ≤ 60) (q0 : 0 ≤ Q) (q1 : Q < 9007199254740992) (e1 : g / 2 ^ (-149 - x).toNat = Q) (e2 : IntKind.u64.wrap (Q * 2 ^ (-149 - x).toNat) = QW) (e3 : IntKind.u64.wrap (g - QW) = rest) (e4 : IntKind.u64.wrap (2 ^ ((-149 - x).toNat - 1)) = hf) (f1 : (rest == hf) = false) (f2 : ¬ hf < rest) (f3 : (rest == 0) = false)  (HW : Hid (∀ w, Calls Try.prog 37 #[.int .i64 k, .bool s] w fun r w' => r = .returned (.tuple #[.bool false, .bool t, .bool true]) ∧ w' = w)) (w : World) :
    Calls Try.prog 36 #[.agg #[.bool s, .int .i64 c, .int .i64 x, .int .u64 g], .int .i64 k] w fun r w' => r = .returned (.tuple #[.int .u64 (Q + 1), .int .i64 (-149)]) ∧ Below w.heap.size w w' := by
  have start : LongRel g.toNat (.int .i64 0) (.int .u64 g) := ⟨0, g, by omega, by omega, hg0, by omega, rfl, rfl, by omega⟩
  go_enter Try.func36, Try.ntmps36
  go_wp2
  go_loop [6, 7] (fun p q => LongRel g.toNat p q) (fun _ q => (intOf q).toNat)
  case atStart => exact start
  case round =>
    clear start
    obtain ⟨l, a, hl0, hl1, ha0, ha1, rfl, rfl, hE⟩ := hrel
    have HE : Hid (l + (bl a.toNat : Int) = bl g.toNat) := hE
    clear hE
    by_cases hc : 0 < a
    · clear hB
      go_wp2
      go_round
      case rel => exact long_step g.toNat l a hl0 hc ha1 (bl_le _ (by omega)) HE.out
      case measure => simp [intOf]; omega
    · have ha : a = 0 := by omega
      subst ha
      have hl : l = L := by
        have h1 := HE.out
        have h2 := hL.out
        have h3 : bl (0 : Int).toNat = 0 := rfl
        rw [h3] at h1; omega
      subst hl
      clear HE hc
      go_wp2_with fail
      refine (HW.out _).mono ?_
      rintro r w1 ⟨rfl, rfl⟩
      go_wp2_with fail
      all_goals go_ret2
      all_goals exact ⟨rfl, (Below.refl _ _).alloc (Nat.le_refl _) _⟩

set_option maxRecDepth 100000 in
set_option maxHeartbeats 4000000 in
theorem rnar_awflB (s t : Bool) (c x g k L : Int) (hg0 : 0 ≤ g) (hg1 : g < 9007199254740992) (hL : Hid (L = (bl g.toNat : Int))) (hx0 : -1074 ≤ x) (hx1 : x ≤ 971) (hB : ¬ -149 < L + x - 24) (Q QW rest hf : Int) (hlt : x < (-149)) (h60 : (-149) - x ≤ 60) (q0 : 0 ≤ Q) (q1 : Q < 9007199254740992) (e1 : g / 2 ^ (-149 - x).toNat = Q) (e2 : IntKind.u64.wrap (Q * 2 ^ (-149 - x).toNat) = QW) (e3 : IntKind.u64.wrap (g - QW) = rest) (e4 : IntKind.u64.wrap (2 ^ ((-149 - x).toNat - 1)) = hf) (f1 : (rest == hf) = false) (f2 : ¬ hf < rest) (f3 : (rest == 0) = false)  (HW : Hid (∀ w, Calls Try.prog 37 #[.int .i64 k, .bool s] w fun r w' => r = .returned (.tuple #[.bool false, .bool t, .bool false]) ∧ w' = w)) (w : World) :
    Calls Try.prog 36 #[.agg #[.bool s, .int .i64 c, .int .i64 x, .int .u64 g], .int .i64 k] w fun r w' => r = .returned (.tuple #[.int .u64 Q, .int .i64 (-149)]) ∧ Below w.heap.size w w' := by
  have start : LongRel g.toNat (.int .i64 0) (.int .u64 g) := ⟨0, g, by omega, by omega, hg0, by omega, rfl, rfl, by omega⟩
  go_enter Try.func36, Try.ntmps36
  go_wp2
  go_loop [6, 7] (fun p q => LongRel g.toNat p q) (fun _ q => (intOf q).toNat)
  case atStart => exact start
  case round =>
    clear start
    obtain ⟨l, a, hl0, hl1, ha0, ha1, rfl, rfl, hE⟩ := hrel
    have HE : Hid (l + (bl a.toNat : Int) = bl g.toNat) := hE
    clear hE
    by_cases hc : 0 < a
    · clear hB
      go_wp2
      go_round
      case rel => exact long_step g.toNat l a hl0 hc ha1 (bl_le _ (by omega)) HE.out
      case measure => simp [intOf]; omega
    · have ha : a = 0 := by omega
      subst ha
      have hl : l = L := by
        have h1 := HE.out
        have h2 := hL.out
        have h3 : bl (0 : Int).toNat = 0 := rfl
        rw [h3] at h1; omega
      subst hl
      clear HE hc
      go_wp2_with fail
      refine (HW.out _).mono ?_
      rintro r w1 ⟨rfl, rfl⟩
      go_wp2_with fail
      all_goals go_ret2
      all_goals exact ⟨rfl, (Below.refl _ _).alloc (Nat.le_refl _) _⟩

set_option maxRecDepth 100000 in
set_option maxHeartbeats 4000000 in
theorem rnar_farnB (s t v : Bool) (c x g k L : Int) (hg0 : 0 ≤ g) (hg1 : g < 9007199254740992) (hL : Hid (L = (bl g.toNat : Int))) (hx0 : -1074 ≤ x) (hx1 : x ≤ 971) (hB : ¬ -149 < L + x - 24) (hlt : x < (-149)) (h60 : 60 < (-149) - x) (f3 : (g == 0) = false) (HW : Hid (∀ w, Calls Try.prog 37 #[.int .i64 k, .bool s] w fun r w' => r = .returned (.tuple #[.bool true, .bool t, .bool v]) ∧ w' = w)) (w : World) :
    Calls Try.prog 36 #[.agg #[.bool s, .int .i64 c, .int .i64 x, .int .u64 g], .int .i64 k] w fun r w' => r = .returned (.tuple #[.int .u64 0, .int .i64 (-149)]) ∧ Below w.heap.size w w' := by
  have start : LongRel g.toNat (.int .i64 0) (.int .u64 g) := ⟨0, g, by omega, by omega, hg0, by omega, rfl, rfl, by omega⟩
  go_enter Try.func36, Try.ntmps36
  go_wp2
  go_loop [6, 7] (fun p q => LongRel g.toNat p q) (fun _ q => (intOf q).toNat)
  case atStart => exact start
  case round =>
    clear start
    obtain ⟨l, a, hl0, hl1, ha0, ha1, rfl, rfl, hE⟩ := hrel
    have HE : Hid (l + (bl a.toNat : Int) = bl g.toNat) := hE
    clear hE
    by_cases hc : 0 < a
    · clear hB
      go_wp2
      go_round
      case rel => exact long_step g.toNat l a hl0 hc ha1 (bl_le _ (by omega)) HE.out
      case measure => simp [intOf]; omega
    · have ha : a = 0 := by omega
      subst ha
      have hl : l = L := by
        have h1 := HE.out
        have h2 := hL.out
        have h3 : bl (0 : Int).toNat = 0 := rfl
        rw [h3] at h1; omega
      subst hl
      clear HE hc
      go_wp2_with fail
      refine (HW.out _).mono ?_
      rintro r w1 ⟨rfl, rfl⟩
      go_wp2_with fail
      all_goals go_ret2
      all_goals exact ⟨rfl, (Below.refl _ _).alloc (Nat.le_refl _) _⟩

set_option maxRecDepth 100000 in
set_option maxHeartbeats 4000000 in
theorem rnar_fartB (s t : Bool) (c x g k L : Int) (hg0 : 0 ≤ g) (hg1 : g < 9007199254740992) (hL : Hid (L = (bl g.toNat : Int))) (hx0 : -1074 ≤ x) (hx1 : x ≤ 971) (hB : ¬ -149 < L + x - 24) (hlt : x < (-149)) (h60 : 60 < (-149) - x) (f3 : (g == 0) = false) (HW : Hid (∀ w, Calls Try.prog 37 #[.int .i64 k, .bool s] w fun r w' => r = .returned (.tuple #[.bool false, .bool t, .bool true]) ∧ w' = w)) (w : World) :
    Calls Try.prog 36 #[.agg #[.bool s, .int .i64 c, .int .i64 x, .int .u64 g], .int .i64 k] w fun r w' => r = .returned (.tuple #[.int .u64 1, .int .i64 (-149)]) ∧ Below w.heap.size w w' := by
  have start : LongRel g.toNat (.int .i64 0) (.int .u64 g) := ⟨0, g, by omega, by omega, hg0, by omega, rfl, rfl, by omega⟩
  go_enter Try.func36, Try.ntmps36
  go_wp2
  go_loop [6, 7] (fun p q => LongRel g.toNat p q) (fun _ q => (intOf q).toNat)
  case atStart => exact start
  case round =>
    clear start
    obtain ⟨l, a, hl0, hl1, ha0, ha1, rfl, rfl, hE⟩ := hrel
    have HE : Hid (l + (bl a.toNat : Int) = bl g.toNat) := hE
    clear hE
    by_cases hc : 0 < a
    · clear hB
      go_wp2
      go_round
      case rel => exact long_step g.toNat l a hl0 hc ha1 (bl_le _ (by omega)) HE.out
      case measure => simp [intOf]; omega
    · have ha : a = 0 := by omega
      subst ha
      have hl : l = L := by
        have h1 := HE.out
        have h2 := hL.out
        have h3 : bl (0 : Int).toNat = 0 := rfl
        rw [h3] at h1; omega
      subst hl
      clear HE hc
      go_wp2_with fail
      refine (HW.out _).mono ?_
      rintro r w1 ⟨rfl, rfl⟩
      go_wp2_with fail
      all_goals go_ret2
      all_goals exact ⟨rfl, (Below.refl _ _).alloc (Nat.le_refl _) _⟩

set_option maxRecDepth 100000 in
set_option maxHeartbeats 4000000 in
theorem rnar_farfB (s t : Bool) (c x g k L : Int) (hg0 : 0 ≤ g) (hg1 : g < 9007199254740992) (hL : Hid (L = (bl g.toNat : Int))) (hx0 : -1074 ≤ x) (hx1 : x ≤ 971) (hB : ¬ -149 < L + x - 24) (hlt : x < (-149)) (h60 : 60 < (-149) - x) (f3 : (g == 0) = false) (HW : Hid (∀ w, Calls Try.prog 37 #[.int .i64 k, .bool s] w fun r w' => r = .returned (.tuple #[.bool false, .bool t, .bool false]) ∧ w' = w)) (w : World) :
    Calls Try.prog 36 #[.agg #[.bool s, .int .i64 c, .int .i64 x, .int .u64 g], .int .i64 k] w fun r w' => r = .returned (.tuple #[.int .u64 0, .int .i64 (-149)]) ∧ Below w.heap.size w w' := by
  have start : LongRel g.toNat (.int .i64 0) (.int .u64 g) := ⟨0, g, by omega, by omega, hg0, by omega, rfl, rfl, by omega⟩
  go_enter Try.func36, Try.ntmps36
  go_wp2
  go_loop [6, 7] (fun p q => LongRel g.toNat p q) (fun _ q => (intOf q).toNat)
  case atStart => exact start
  case round =>
    clear start
    obtain ⟨l, a, hl0, hl1, ha0, ha1, rfl, rfl, hE⟩ := hrel
    have HE : Hid (l + (bl a.toNat : Int) = bl g.toNat) := hE
    clear hE
    by_cases hc : 0 < a
    · clear hB
      go_wp2
      go_round
      case rel => exact long_step g.toNat l a hl0 hc ha1 (bl_le _ (by omega)) HE.out
      case measure => simp [intOf]; omega
    · have ha : a = 0 := by omega
      subst ha
      have hl : l = L := by
        have h1 := HE.out
        have h2 := hL.out
        have h3 : bl (0 : Int).toNat = 0 := rfl
        rw [h3] at h1; omega
      subst hl
      clear HE hc
      go_wp2_with fail
      refine (HW.out _).mono ?_
      rintro r w1 ⟨rfl, rfl⟩
      go_wp2_with fail
      all_goals go_ret2
      all_goals exact ⟨rfl, (Below.refl _ _).alloc (Nat.le_refl _) _⟩
end Go.Proofs.Ytedknjiipmppgab
