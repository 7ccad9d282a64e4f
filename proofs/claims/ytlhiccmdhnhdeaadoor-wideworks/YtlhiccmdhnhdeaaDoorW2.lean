/- Sums and differences of words, what is long, which is greater. -/
import Derived.Test.YtlhiccmdhnhdeaaDoorW1
import Derived.Test.YtlhiccmdhnhdeaaDoorM3
namespace Go.Proofs.YtlhiccmdhnhdeaaDoor
open Go.RowKit
set_option linter.unusedVariables false

set_option maxHeartbeats 1000000 in
theorem add32_int (x y c : Int) (w : World) (hx : 0 ≤ x) (hx2 : x < 4294967296) (hy : 0 ≤ y) (hy2 : y < 4294967296) (hc : 0 ≤ c) (hc2 : c ≤ 1) :
    Calls Tryd.prog 136 #[.int .u32 x, .int .u32 y, .int .u32 c] w fun r w' => r = .returned (.tuple #[.int .u32 ((x + y + c) % 4294967296), .int .u32 ((x + y + c) / 4294967296)]) ∧ w' = w := by
  go_enter Tryd.func136, Tryd.ntmps136
  go_wp2
  go_ret2
  exact ⟨rfl, rfl⟩

theorem add32_nat (x y c s d : Nat) (w : World) (hx : x < 4294967296) (hy : y < 4294967296) (hc : c ≤ 1) (hs : s = (x + y + c) % 4294967296) (hd : d = (x + y + c) / 4294967296) :
    Calls Tryd.prog 136 #[.int .u32 (x : Int), .int .u32 (y : Int), .int .u32 (c : Int)] w fun r w' => r = .returned (.tuple #[.int .u32 (s : Int), .int .u32 (d : Int)]) ∧ w' = w := by
  have h := add32_int x y c w (by omega) (by omega) (by omega) (by omega) (by omega) (by omega)
  rw [show ((x : Int) + y + c) % 4294967296 = (s : Int) by omega, show ((x : Int) + y + c) / 4294967296 = (d : Int) by omega] at h
  exact h

set_option maxHeartbeats 1000000 in
theorem sub32_int (x y c bo : Int) (w : World) (hx : 0 ≤ x) (hx2 : x < 4294967296) (hy : 0 ≤ y) (hy2 : y < 4294967296) (hc : 0 ≤ c) (hc2 : c ≤ 1)
    (hb : bits BinOp.or IntKind.u32 (bits BinOp.and IntKind.u32 (bits BinOp.xor IntKind.u32 IntKind.u32.max x) y)
                (bits BinOp.and IntKind.u32
                  (bits BinOp.xor IntKind.u32 IntKind.u32.max (bits BinOp.xor IntKind.u32 x y))
                  ((x - y - c) % 4294967296)) /
              2147483648 = bo) :
    Calls Tryd.prog 122 #[.int .u32 x, .int .u32 y, .int .u32 c] w fun r w' => r = .returned (.tuple #[.int .u32 ((x - y - c) % 4294967296), .int .u32 bo]) ∧ w' = w := by
  go_enter Tryd.func122, Tryd.ntmps122
  go_wp2
  all_goals first | (go_ret2; exact ⟨rfl, rfl⟩) | skip

theorem sub32_nat (x y c s d : Nat) (w : World) (hx : x < 4294967296) (hy : y < 4294967296) (hc : c ≤ 1) (hs : (s : Int) = ((x : Int) - y - c) % 4294967296) (hd : d = if x < y + c then 1 else 0) :
    Calls Tryd.prog 122 #[.int .u32 (x : Int), .int .u32 (y : Int), .int .u32 (c : Int)] w fun r w' => r = .returned (.tuple #[.int .u32 (s : Int), .int .u32 (d : Int)]) ∧ w' = w := by
  have h := sub32_int x y c d w (by omega) (by omega) (by omega) (by omega) (by omega) (by omega) (by rw [borrow_int x y c hx hy hc, ← hd])
  rw [← hs] at h
  exact h

theorem long_any (n : Nat) (ao : Option Addr) (cap : Nat) (w : World) :
    Calls Tryd.prog 64 #[.slice ao n cap] w fun r w' => r = .returned (.bool (decide ((8192 : Int) < (n : Int)))) ∧ w' = w := by
  go_enter Tryd.func64, Tryd.ntmps64
  go_wp2
  go_ret
  exact ⟨rfl, rfl⟩

theorem unlessLong_any (n : Nat) (ao : Option Addr) (cap : Nat) (w : World) :
    Calls Tryd.prog 66 #[.slice ao n cap] w fun r w' => r = .returned (if 8192 < n then .tuple #[.slice none 0 0, .int .i64 2] else .tuple #[.slice ao n cap, .int .i64 0]) ∧ w' = w := by
  by_cases h : 8192 < n
  · rw [if_pos h]
    have hl := long_any n ao cap
    have h' : (8192 : Int) < (n : Int) := by omega
    simp only [h', decide_true] at hl
    have H : Hid (∀ w, _) := hl
    clear hl
    go_enter Tryd.func66, Tryd.ntmps66
    go_wp2_with fail
    refine (H.out _).mono ?_
    rintro r w1 ⟨rfl, rfl⟩
    go_wp2
    go_ret2
    exact ⟨rfl, rfl⟩
  · rw [if_neg h]
    have hl := long_any n ao cap
    have h' : ¬ (8192 : Int) < (n : Int) := by omega
    simp only [h', decide_false] at hl
    have H : Hid (∀ w, _) := hl
    clear hl
    go_enter Tryd.func66, Tryd.ntmps66
    go_wp2_with fail
    refine (H.out _).mono ?_
    rintro r w1 ⟨rfl, rfl⟩
    go_wp2
    go_ret2
    exact ⟨rfl, rfl⟩

theorem isNaN_i (x : Int) (w : World) : Calls Tryd.prog 118 #[.int .i64 x] w fun r w' => r = .returned (.bool false) ∧ w' = w := by
  go_enter Tryd.func118, Tryd.ntmps118
  go_wp2
  go_ret
  exact ⟨rfl, rfl⟩
theorem isNaN_u (x : Int) (w : World) : Calls Tryd.prog 127 #[.int .u32 x] w fun r w' => r = .returned (.bool false) ∧ w' = w := by
  go_enter Tryd.func127, Tryd.ntmps127
  go_wp2
  go_ret
  exact ⟨rfl, rfl⟩

/-- -1, 0, 1. -/
def cmpI (x y : Nat) : Int := if x < y then -1 else if y < x then 1 else 0

theorem compare_i (x y : Nat) (w : World) : Calls Tryd.prog 92 #[.int .i64 (x : Int), .int .i64 (y : Int)] w fun r w' => r = .returned (.int .i64 (cmpI x y)) ∧ w' = w := by
  have H : Hid (∀ x w, _) := isNaN_i
  by_cases h : x < y
  · have e : cmpI x y = -1 := by simp [cmpI, h]
    rw [e]; clear e
    go_enter Tryd.func92, Tryd.ntmps92
    go_wp2_with fail
    refine (H.out _ _).mono ?_
    rintro r w1 ⟨rfl, rfl⟩
    go_wp2_with fail
    refine (H.out _ _).mono ?_
    rintro r w1 ⟨rfl, rfl⟩
    go_wp2
    go_ret
    exact ⟨rfl, rfl⟩
  · by_cases h2 : y < x
    · have e : cmpI x y = 1 := by simp [cmpI, h, h2]
      rw [e]; clear e
      go_enter Tryd.func92, Tryd.ntmps92
      go_wp2_with fail
      refine (H.out _ _).mono ?_
      rintro r w1 ⟨rfl, rfl⟩
      go_wp2_with fail
      refine (H.out _ _).mono ?_
      rintro r w1 ⟨rfl, rfl⟩
      go_wp2
      go_ret
      exact ⟨rfl, rfl⟩
    · have e : cmpI x y = 0 := by simp [cmpI, h, h2]
      rw [e]; clear e
      go_enter Tryd.func92, Tryd.ntmps92
      go_wp2_with fail
      refine (H.out _ _).mono ?_
      rintro r w1 ⟨rfl, rfl⟩
      go_wp2_with fail
      refine (H.out _ _).mono ?_
      rintro r w1 ⟨rfl, rfl⟩
      go_wp2
      go_ret
      exact ⟨rfl, rfl⟩

theorem compare_u (x y : Nat) (w : World) : Calls Tryd.prog 103 #[.int .u32 (x : Int), .int .u32 (y : Int)] w fun r w' => r = .returned (.int .i64 (cmpI x y)) ∧ w' = w := by
  have H : Hid (∀ x w, _) := isNaN_u
  by_cases h : x < y
  · have e : cmpI x y = -1 := by simp [cmpI, h]
    rw [e]; clear e
    go_enter Tryd.func103, Tryd.ntmps103
    go_wp2_with fail
    refine (H.out _ _).mono ?_
    rintro r w1 ⟨rfl, rfl⟩
    go_wp2_with fail
    refine (H.out _ _).mono ?_
    rintro r w1 ⟨rfl, rfl⟩
    go_wp2
    go_ret
    exact ⟨rfl, rfl⟩
  · by_cases h2 : y < x
    · have e : cmpI x y = 1 := by simp [cmpI, h, h2]
      rw [e]; clear e
      go_enter Tryd.func103, Tryd.ntmps103
      go_wp2_with fail
      refine (H.out _ _).mono ?_
      rintro r w1 ⟨rfl, rfl⟩
      go_wp2_with fail
      refine (H.out _ _).mono ?_
      rintro r w1 ⟨rfl, rfl⟩
      go_wp2
      go_ret
      exact ⟨rfl, rfl⟩
    · have e : cmpI x y = 0 := by simp [cmpI, h, h2]
      rw [e]; clear e
      go_enter Tryd.func103, Tryd.ntmps103
      go_wp2_with fail
      refine (H.out _ _).mono ?_
      rintro r w1 ⟨rfl, rfl⟩
      go_wp2_with fail
      refine (H.out _ _).mono ?_
      rintro r w1 ⟨rfl, rfl⟩
      go_wp2
      go_ret
      exact ⟨rfl, rfl⟩
end Go.Proofs.YtlhiccmdhnhdeaaDoor
